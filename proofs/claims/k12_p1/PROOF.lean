import PyProof.Rows.All
import Wide.All
import OpenK.AllK
import Wide.FinOn
import Lean
import PyProof.EqAt
import PyProof.EqKinds
import PyProof.TupleCall
import PyProof.CompFree
import PyProof.NeKinds
import KE.KSortTup
import KE.KRevSl
import KE.KDictSum
import PyProof.AttrMissHeap
import PySem.Challenge.RW_talkmarks_k12_deeds
open PySem renaming wpAny_bind→AA0,wpAny_pure→AA3,Spec→AAL,wpAny_newObj_type→AAj,wpAny_callSpecial?_slot→AAm,wpAny_call_entry→AAn,wpAny_holding→AAp,wpAny_setField_rec→ABA,wpAny_field→ABG,wpAny_setState_of→ABI,wpAny_seqItems→ABL,mem_of_lookup→ABV,codeAny_builtin→ABX,wpAny_ite_split→ABc,wpAny_mono→ABh,wpAny_truthy_bool→ABi,sizeLine_eq→ABl,eqIsQuiet_byValue→ABs,plainId_quiet→ABu,wpAny_typeNameOfWhole_itemiter→AC0,wpAny_forIn_list→AC3,wpAny_setField→AC8,wpAny_specialOf→ACC,wpAny_rule→ACK,wpAny_isInstance→ACN,wpAny_askSetting→ACO,wpAny_Call_Name_kw→ACQ,wpAny_fieldsOf→ACV,wpAny_typeNameOf_itemiter→ACX,wpAny_typeOf→ACg,wpAny_attempt→ACl,wpAny_setEntries_of→ACn,wpAny_callSpecialIfBoundUnlessNone?_slot→ACz,wpAny_pyHash_int→ADM,wpAny_pyHash_str→ADN,codeAny_mono→ADR,wpAny_passesOwn→ADV,wpAny_updateSeq→ADe,wpAny_isOneOf_itemiter→ADj,wpAny_pyIter_list→ADo,atKey_none_of_get→ADt,builtinLookup_eq_fast→AE0,wpAny_notOrdered_dict→AE1,wpAny_newList→AE6,wpAny_loadPart'→AE9
open PySem.Str renaming ofString→AA1
open List renaming getElem?_eq_some_iff→AA2,length_map→AA6,getElem?_eq_getElem→AA7,length_append→AA8,mem_cons_of_mem→AA9,length_cons→AAA,size_toArray→AAB,mem_cons→AAH,mem_cons_self→AAI,getElem?_append_left→AAJ,all_eq_true→AAK,map_cons→AAM,mem_map→AAN,getD_eq_getElem?_getD→AAP,getElem?_map→AAU,length_nil→AAW,length_singleton→AAX,mem_singleton→AAY,mem_append_right→AAc,range→AAe,not_mem_nil→AAf,getElem?_append_right→AAg,length_take→AAh,map_map→AAi,mem_range→AAk,mem_append→AAl,getElem_mem→AAo,nil_append→AAr,getElem?_set_ne→AAt,mem_of_getElem?→AAu,getElem?_of_mem→AAv,cons_lt_cons_iff→AB0,nodup_cons→AB6,find?_cons→AB7,getElem?_cons_succ→ABB,getElem?_set_self→ABD,all_cons→ABF,prefix_append→ABJ,zip_cons_cons→ABK,length_set→ABO,lookup_cons→ABP,map_append→ABQ,append_assoc→ABS,getElem?_eq_none→ABW,getElem?_cons_zero→ABa,length_drop→ABd,any_cons→ABe,getElem?_take_of_lt→ABj,take_add_one→ABk,filterMap_cons→ABp,take_length→AC2,cons_append→AC4,replicate_zero→ACE,take_of_length_le→ACG,nodup_iff_pairwise_ne→ACJ,getElem_map→ACM,mem_append_left→ACY,append_nil→ACZ,prefix_rfl→ACb,map_nil→ACh,getElem?_replicate→ACi,map_congr_left→ACm,mem_map_of_mem→ACo,nodup_nil→ACs,length→AD0,length_replicate→AD1,length_range→AD7,mem_of_mem_drop→ADA,mem_of_mem_take→ADB,lt_irrefl→ADG,pairwise_iff_getElem→ADJ,all_map→ADU,of_mem_zip→ADX,pairwise_singleton→ADa,getElem?_drop→ADc,set_cons_zero→ADf,drop_eq_nil_of_le→ADi,take_sublist→ADl,pairwise_map→ADs,replicate→ADv,getElem?_toArray→ADy,nodup_range→AE3,prefix_refl→AE5,mem_filter→AE8,forIn_cons→AEB,foldl_cons→AEG,toArray→AEL,getD→AEQ
open PySem.Heap renaming get?_push_of_some→AA4,get?_push_size→AAE,lt_size→AAG,get?_update_self→AAZ,size_push→AB1,get?_update_other→ABE,SameBut→ABM,get?_update_ne→ACk
open PySem.W renaming Frag→AA5,kas_desc→AC1,keepIn→ACT,fnOf→ACf,nsIn→AD2,kas_rev→AD9,kas_place→ADF,kas_asc→ADp,findIn→ADu,kas_descPart→ADz,kas_sort→AEK,codeIn→AEN,methodObj→AEP
open Bool renaming and_eq_true→AAC,false_eq_true→AAF,false_ne_true→AAb,false_and→AAw,true_and→AAx,eq_iff_iff→ABm,eq_false_iff→ABr,not_true→AC7,or_eq_true→ACc,and_false→ADw,and_true→AE7
open Nat renaming le_refl→AAD,ne_of_lt→AAQ,zero_le→AAT,lt_of_lt_of_le→AAd,lt_irrefl→AAq,lt_succ_self→AB5,le_trans→ABT,ne_of_gt→ABU,not_lt_zero→ABx,sub_self→ABy,lt_or_ge→ABz,lt_succ_of_lt→AC9,lt_trichotomy→ACd,not_lt→AD6,le_succ→ADn,lt_trans→ADx,le_add_right→AE2,le_of_lt→AEJ
open Array renaming length_toList→AAO,getElem?_eq_getElem→AAS,getElem?_toList→AAV,getElem?_eq_some_iff→AAy,getD_eq_getD_getElem?→AB8,getElem?_eq_none→ACH,getD→ACL,forIn_toList→ACS,toList_push→ADq
open Option.some renaming inj→AAR
open PySem.SetTable renaming below→AAa,runEnd→AAs,bits→ABv,leap→ACR,Probe→ACW,grown→ACr,turns→ADK,fits→ADd,insertAt→ADr,sizeAbove→AEM,fill→AEV
open Ne renaming symm→AAz
open PySem.Heap.SameBut renaming update→AB2
open PySem.Value renaming ref→AB3,none→ABb,type→ACp,bool→AD3
open Classical renaming byContradiction→AB4
open PySem.Around renaming under_plainId→AB9
open PySem.Builtin.SmallTypes renaming nextOf→ABC,ownedTupleIsFree→ABf,ownedTupleHandOut→ADI
open PyProof.Rows renaming slot_tuple_getitem→ABH,callWith_type1→ACB,get?_update_seq→AEE
open PySem.NameKind renaming free→ABN,cell→ACj
open PySem.Builtin.Tuple renaming tupleHashOf→ABR,tupleItemsOf→ACI,tupleExact→ACa
open PySem.Builtin.Str renaming strSliceIndices→ABY,occurrences→AC6
open PySem.Obj renaming mapSeq→ABZ,data_mapDictKeys→ADC,isFreed_of_dict→ADO,data_mapDict→AE4,putSet→AES
open PySem.F renaming slot_dict_itemiterator_next→ABg,slot_tuple_getattribute→ABt,plain_extend_loop→ABw,args_dict_itemiterator_next_1→ADD,entry_dict_itemiterator_next→ADL,args_tuple_add_2→ADS,entry_tuple_add→ADY,slot_tuple_add→ADh
open PySem.Txt renaming slice→ABn
open Option renaming map_eq_some_iff→ABo,join_some→ACP
open Int renaming toNat_natCast→ABq,toNat→ACF,emod_lt_of_pos→ACx,emod_nonneg→ADb
open Sum renaming inr→AC5
open PySem.SetTable.below renaming go→ACA
open PySem.Builtin.List renaming listExtendWith→ACD,listSameRef→ACe,listTooLong→ADT,listLengthHint→AEF
open PySem.Builtin.Slice renaming slicePlaces→ACU,sliceAdjust→ADE,sliceApplied→AEI
open PySem.SeqAt renaming EqAt→ACq
open PySem.SetTable.layClean renaming free→ACt
open PySem.SeqAt.EqAt renaming int_str→ACu,str_int→ACv,int_int→ACw,str_str→ADZ,same→AEC
open PySem.Builtin.Dict_items renaming ownsTuple→ACy,ownedTupleFields→ADP,ownedTupleIsFree→ADQ,pairFromOwner→ADg
open False renaming elim→AD4
open True renaming intro→AD5
open PySem.Shared renaming TypeIs→AD8
open List.Perm renaming refl→ADH,cons→AEO
open PySem.Calls renaming spliced_cons→ADW,spliced_nil→ADk
open List.Pairwise renaming nil→ADm
open ForInStep renaming yield→AEA
open List.cons renaming injEq→AED,inj→AEU
open PySem.Expr renaming Call→AEH
open PySem.SetTable.probe renaming go→AER
open PySem.Paired renaming length→AET
set_option autoImplicit true
set_option relaxedAutoImplicit true
set_option compiler.extract_closed false
set_option Elab.async false
set_option linter.all false
set_option maxRecDepth 100000
-- CHANGE: your row's module here,as the last of these rows
namespace L2
open PySem PySem.Spec PyProof.Rows
abbrev Key:=Sum Int Str
def tj:Key->Value->Bool
 | .inl k,v=>Value.isInt k v
 | .inr x,v=>Value.isStrOf x v
def keyH(w:World):Key->Int
 | .inl k=>hashInt k
 | .inr x=>hashStr w x
theorem aT:∀{k:Key}{v:Value},tj k v=true->(∃i t,k=Sum.inl i/\v=Value.int i t)\/(∃x t,k=AC5 x/\v=Value.str x t)
 | .inl i,v,h=>by
  obtain⟨t,e⟩:=Value.isInt_shape (k:=i) (v:=v) h
  exact .inl ⟨i,t,rfl,e⟩
 | .inr x,v,h=>by
  obtain⟨t,e⟩:=Value.isStrOf_shape (x:=x) (v:=v) h
  exact .inr ⟨x,t,rfl,e⟩
theorem zi(i:Int)(t:Tok):tj (.inl i) (.int i t)=true:=by simp[tj,Value.isInt]
theorem zh(x:Str)(t:Tok):tj (.inr x) (.str x t)=true:=by simp[tj,Value.isStrOf]
theorem Iy(a b:Int):decide ((Sum.inl a:Key)=Sum.inl b)=(a==b):=by
 by_cases e:a=b
 ·subst e;simp
 ·have h:¬(Sum.inl a:Key)=Sum.inl b:=λq=>e (Sum.inl.inj q)
  rw[decide_eq_false h]
  exact(beq_eq_false_iff_ne.mpr e).symm
theorem CV(a b:Str):decide ((AC5 a:Key)=AC5 b)=decide (a=b):=by
 by_cases e:a=b
 ·subst e;simp
 ·have h:¬(AC5 a:Key)=AC5 b:=λq=>e (Sum.inr.inj q)
  rw[decide_eq_false h,decide_eq_false e]
theorem Iw(a:Int)(b:Str):decide ((Sum.inl a:Key)=AC5 b)=false:=decide_eq_false (λq=>nomatch q)
theorem Iv(a:Str)(b:Int):decide ((AC5 a:Key)=Sum.inl b)=false:=decide_eq_false (λq=>nomatch q)
def br(prog:Program)(w:World):PySem.KeyKind prog w Key where
 is:=tj
 hash:=keyH w
 inj:=λv a b ha hb=>by
  rcases aT ha with⟨i,t,rfl,rfl⟩|⟨x,t,rfl,rfl⟩
  ·rcases aT hb with⟨j,u,rfl,e⟩|⟨y,u,rfl,e⟩
   ·injection e with e1 _;rw[e1]
   ·exact nomatch e
  ·rcases aT hb with⟨j,u,rfl,e⟩|⟨y,u,rfl,e⟩
   ·exact nomatch e
   ·injection e with e1 _;rw[e1]
 byValue:=λk v h=>by
  rcases aT h with⟨i,t,rfl,rfl⟩|⟨x,t,rfl,rfl⟩<;>rfl
 pyHash:=λhv h=>by
  rcases aT hv with⟨i,t,rfl,rfl⟩|⟨x,t,rfl,rfl⟩
  ·exact ADM h
  ·exact ADN h
 eqBool:=λhu hv h=>by
  rcases aT hu with⟨i,t,rfl,rfl⟩|⟨x,t,rfl,rfl⟩
  ·rcases aT hv with⟨j,u,rfl,rfl⟩|⟨y,u,rfl,rfl⟩
   ·rw[Iy]at h;exact wpAny_eqBool_int h
   ·rw[Iw]at h;exact ACu i t y u _ _ _ _ h
  ·rcases aT hv with⟨j,u,rfl,rfl⟩|⟨y,u,rfl,rfl⟩
   ·rw[Iv]at h;exact ACv x t j u _ _ _ _ h
   ·rw[CV]at h;exact wpAny_eqBool_str h
 «strs»:=λk x t v h=>by
  rcases aT h with⟨i,u,rfl,e⟩|⟨y,u,rfl,e⟩
  ·exact nomatch e
  ·injection e with e1 _
   subst e1
   cases v<;>rfl
theorem sM(prog:Program)(w:World)(i:Int)(t:Tok):(br prog w).is (.inl i) (.int i t)=true:=zi i t
theorem sL(prog:Program)(w:World)(x:Str)(t:Tok):(br prog w).is (.inr x) (.str x t)=true:=zh x t
end L2
namespace L2
open PySem PySem.Spec PyProof.Rows
inductive V where
 | non | bl (b:Bool) | int (i:Int) | str (x:Str) | byt (b:Array UInt8) | flt (b:UInt64) | ref (a:Addr) | ty (n:String)
 deriving DecidableEq
def aK:V->Value->Prop
 | .non,u=>u=ABb
 | .bl b,u=>u=AD3 b
 | .int i,u=>∃t,u=Value.int i t
 | .str x,u=>∃t,u=Value.str x t
 | .byt b,u=>∃t,u=Value.bytes b t
 | .flt b,u=>∃t,u=Value.float b t
 | .ref a,u=>u=AB3 a
 | .ty n,u=>u=ACp n
abbrev ax:List V->List Value->Prop:=Paired aK
theorem ax.length(r:ax xs us):xs.length=us.length:=AET r
theorem ax.get:∀{xs:List V}{us:List Value}{i:Nat}{x:V},ax xs us->xs[i]?=some x->∃u,us[i]?=some u/\aK x u
 | _,_,_,_,.nil,e=>by simp at e
 | _,_,0,_,.cons r _,e=>by simp at e;subst e;exact⟨_,rfl,r⟩
 | _,_,i+1,x,.cons _ t,e=>by
  obtain⟨u,h1,h2⟩:=ax.get (i:=i) (x:=x) t (by simpa using e)
  exact⟨u,by simpa using h1,h2⟩
theorem ax.set(r:aK x u):∀{xs:List V}{us:List Value} (i:Nat),ax xs us->ax (xs.set i x) (us.set i u)
 | _,_,_,.nil=>.nil
 | _,_,0,.cons _ t=>.cons r t
 | _,_,i+1,.cons q t=>.cons q (ax.set r i t)
theorem ax.append:∀{xs ys:List V}{us ws:List Value},ax xs us->ax ys ws->ax (xs++ys) (us++ws)
 | _,_,_,_,.nil,s=>s
 | _,_,_,_,.cons r t,s=>.cons r (ax.append t s)
theorem ax.take:∀{xs:List V}{us:List Value} (n:Nat),ax xs us->ax (xs.take n) (us.take n)
 | _,_,0,_=>.nil
 | _,_,_+1,.nil=>.nil
 | _,_,n+1,.cons r t=>.cons r (ax.take n t)
theorem ax.drop:∀{xs:List V}{us:List Value} (n:Nat),ax xs us->ax (xs.drop n) (us.drop n)
 | _,_,0,r=>r
 | _,_,_+1,.nil=>.nil
 | _,_,n+1,.cons _ t=>ax.drop n t
def JY:Option V->Option Value->Prop
 | some v,some u=>aK v u
 | none,none=>True
 | _,_=>False
def KV{κ:Type}:List (κ×V)->List (κ×Value)->Prop:=Paired λ(p:κ×V) (q:κ×Value)=>p.1=q.1/\aK p.2 q.2
def kV:Key->V
 | .inl i=>.int i
 | .inr x=>.str x
inductive HO where
 | lst (xs:List V)
 | tup (xs:List V)
 | dK (kvs:List (Key×V)) | dT (kvs:List (List Key×V))
 | set (S:Int->Bool) (n:Nat)
 | ins (C dx:Addr) (fs:List (Str×V))
 | own (x:Addr)
 | xd (fs:List (Str×V))
 | met (f x:Addr)
 | rng (lo hi:Int)
 | frz (o:Obj) (u:HO)
 | tbl (ps:Array Value)
 | ext (φ:Program->World->Heap->Prop)
abbrev Hp:=Addr->Option HO
def upd(H:Hp)(a:Addr)(o:HO):Hp:=λb=>if b=a then some o else H b
theorem aV:upd H a o a=some o:=by unfold upd;rw[if_pos rfl]
theorem av(h:b≠a):upd H a o b=H b:=by unfold upd;rw[if_neg h]
theorem sJ{H:Hp}{a b:Addr}{o u:HO}(h:H a=some o)(h':H b=some u)(d:o≠u):a≠b:=by
 intro e;subst e;rw[h]at h';exact d (AAR h')
theorem ad{H:Hp}{a b:Addr}{o:HO}(h:H a=some o)(h':H b=none):a≠b:=by
 intro e;subst e;rw[h]at h';cases h'
section
variable(P:Program)(w:World)
def Cw(h:Heap)(a:Addr)(items:Array Value):Prop:=∃o,h.get? a=some o/\o.cls=.type "tuple"/\(∃n,o.data=.seq items n)/\o.dict=none
theorem Cw.tup:Cw h a items->IsTup h a items:=λ⟨o,e,c,⟨n,d⟩,_⟩=>⟨o,e,c,n,d⟩
theorem Cw.new(h:Heap)(items:Array Value):Cw (h.push { cls:=.type "tuple",data:=.seq items }) h.objs.size items:=⟨_,AAE _ rfl,rfl,⟨_,rfl⟩,rfl⟩
def bJ(H:Hp)(h:Heap)(a:Addr):HO->Prop
 | .lst xs=>xs.length<=sizeLine/\∃(its:List Value) (n:Nat),ax xs its/\h.get? a=some { cls:=.type "list",data:=.seq its.toArray n }
 | .tup xs=>xs.length<=sizeLine/\∃its:List Value,ax xs its/\Cw h a its.toArray
 | .dK kvs=>kvs.length<=sizeLine/\(a==sysModules)=false/\∃vs,KV kvs vs/\h.DictOf (br P w) a vs
 | .dT kvs=>kvs.length<=sizeLine/\(a==sysModules)=false/\∃xs:List (List Key×Addr×Value),
   Paired (λ(p:List Key×V) (q:List Key×Addr×Value)=>p.1=q.1/\H q.2.1=some (.tup (p.1.map kV))/\aK p.2 q.2.2) kvs xs /\
   ∃o es ep,h.get? a=some o/\o.ExactDict/\o.data=.dict es ep/\es.toList=xs.map (entryOfKey (tupleKind (br P w)))/\(xs.map (·.1)).Nodup
 | .set S n=>h.SetOf (intKind P w) a S n
 | .ins C dx fs=>H dx=some (.own a)/\fs.length<=1000/\dx≠a/\h.get? a=some (PySem.W.instObj C dx) /\
   ∃mA,h.Ns1 dx mA/\(∀f,JY (fs.lookup f) (mA f))/\PySem.Within mA (fs.map (·.1))
 | .own _=>∃o,h.get? a=some o
 | .xd fs=>∃mA,h.Ns1 a mA/\∀f,JY (fs.lookup f) (mA f)
 | .rng lo hi=>∃t u v,h.get? a=some { cls:=.type "range",data:=.fields #[.int lo t,.int hi u,.int 1 v] }
 | .frz o u=>h.get? a=some o/\bJ H h a u
 | .tbl ps=>h.get? a=some { cls:=.none,data:=.fields ps }
 | .met f x=>h.get? a=some (AEP (.ref f) (.ref x))
 | .ext φ=>φ P w h/\(∃o,h.get? a=some o)/\∀h1 h2:Heap,φ P w h1->(∀o,h1.get? a=some o->h2.get? a=some o)->φ P w h2
def HOk(H:Hp)(h:Heap):Prop:=∀a o,H a=some o->bJ P w H h a o
end
section
variable{P:Program}{w:World}{H H':Hp}{h h':Heap}{a:Addr}{o:HO}
theorem bJ.lt(x:bJ P w H h a o):a<h.objs.size:=by
 cases o with
 | lst xs=>obtain⟨_,_,_,_,e⟩:=x;exact AAG e
 | tup xs=>obtain⟨_,_,_,p⟩:=x;exact p.tup.lt
 | dK kvs=>obtain⟨_,_,_,_,o,_,_,e,_⟩:=x;exact AAG e
 | dT kvs=>obtain⟨_,_,_,_,o,_,_,e,_⟩:=x;exact AAG e
 | set S n=>obtain⟨o,_,_,_,e,_⟩:=x;exact AAG e
 | ins C dx fs=>obtain⟨_,_,_,e,_⟩:=x;exact AAG e
 | own y=>obtain⟨_,e⟩:=x;exact AAG e
 | xd fs=>obtain⟨_,⟨_,_,_,e,_⟩,_⟩:=x;exact AAG e
 | rng lo hi=>obtain⟨_,_,_,e⟩:=x;exact AAG e
 | frz ob u=>obtain⟨e,_⟩:=x;exact AAG e
 | tbl ps=>exact AAG (show h.get? a=some _ from x)
 | met f y=>exact AAG (show h.get? a=some _ from x)
 | ext φ=>obtain⟨_,⟨_,e⟩,_⟩:=x;exact AAG e
theorem Paired.mapP{α β:Type}{F G:α->β->Prop}:∀{l₁:List α}{l₂:List β},Paired F l₁ l₂->(∀a b,F a b->G a b)->Paired G l₁ l₂
 | _,_,.nil,_=>.nil
 | _,_,.cons r t,f=>.cons (f _ _ r) (Paired.mapP t f)
theorem bJ.stay(x:bJ P w H h a o)(k:∀b u,(b=a\/H b=some (.own a))->h.get? b=some u->h'.get? b=some u)
  (ho:∀b,H b=some (.own a)->H' b=some (.own a)) (ht:∀b xs,H b=some (.tup xs)->H' b=some (.tup xs)):bJ P w H' h' a o:=by
 induction o with
 | lst xs=>obtain⟨z,its,n,r,e⟩:=x;exact⟨z,its,n,r,k _ _ (.inl rfl) e⟩
 | tup xs=>obtain⟨z,its,r,ob,e,c⟩:=x;exact⟨z,its,r,ob,k _ _ (.inl rfl) e,c⟩
 | dK kvs=>obtain⟨z,y,vs,r,ob,es,ep,e,c⟩:=x;exact⟨z,y,vs,r,ob,es,ep,k _ _ (.inl rfl) e,c⟩
 | dT kvs =>
  obtain⟨z,y,xs,r,ob,es,ep,e,c⟩:=x
  exact⟨z,y,xs,Paired.mapP r λp q z=>⟨z.1,ht _ _ z.2.1,z.2.2⟩,ob,es,ep,k _ _ (.inl rfl) e,c⟩
 | set S n=>obtain⟨ob,es,ep,t,e,c⟩:=x;exact⟨ob,es,ep,t,k _ _ (.inl rfl) e,c⟩
 | ins C dx fs =>
  obtain⟨d,z,ne,e,mA,⟨od,es,ep,e2,c⟩,r⟩:=x
  exact⟨ho _ d,z,ne,k _ _ (.inl rfl) e,mA,⟨od,es,ep,k _ _ (.inr d) e2,c⟩,r⟩
 | own y=>obtain⟨ob,e⟩:=x;exact⟨ob,k _ _ (.inl rfl) e⟩
 | xd fs=>obtain⟨mA,⟨od,es,ep,e,c⟩,r⟩:=x;exact⟨mA,⟨od,es,ep,k _ _ (.inl rfl) e,c⟩,r⟩
 | rng lo hi=>obtain⟨t,u,v,e⟩:=x;exact⟨t,u,v,k _ _ (.inl rfl) e⟩
 | frz ob u ih=>obtain⟨e,q⟩:=x;exact⟨k _ _ (.inl rfl) e,ih q⟩
 | tbl ps =>
  have e:h.get? a=some { cls:=.none,data:=.fields ps }:=x
  show h'.get? a=some { cls:=.none,data:=.fields ps }
  exact k a _ (.inl rfl) e
 | met f y =>
  have e:h.get? a=some (AEP (.ref f) (.ref y)):=x
  show h'.get? a=some (AEP (.ref f) (.ref y))
  exact k a _ (.inl rfl) e
 | ext φ=>obtain⟨p,⟨o,e⟩,st⟩:=x;exact⟨st _ _ p λo q=>k _ _ (.inl rfl) q,⟨o,k _ _ (.inl rfl) e⟩,st⟩
theorem HOk.lt(x:HOk P w H h)(e:H a=some o):a<h.objs.size:=(x a o e).lt
theorem HOk.fresh(x:HOk P w H h)(e:h.objs.size<=a):H a=none:=by
 cases q:H a with
 | none=>rfl
 | some u=>exact absurd (AAd (x.lt q) e) (AAq _)
theorem HOk.kept(x:HOk P w H h)(k:∀b u,h.get? b=some u->h'.get? b=some u):HOk P w H h':=λa o e =>
 (x a o e).stay (λb u _ q=>k b u q) (λ_ q=>q) λ_ _ q=>q
theorem HOk.laid(x:HOk P w H h)(k:∀b u,h.get? b=some u->h'.get? b=some u)(hp:h.objs.size<=a)(new:bJ P w (upd H a o) h' a o):HOk P w (upd H a o) h':=λb u e=>by
 have hn:=x.fresh hp
 by_cases hb:b=a
 ·subst hb;rw[aV]at e;cases e;exact new
 ·rw[av hb]at e
  exact(x b u e).stay (λc v _ q=>k c v q) (λc q=>by rw[av (ad q hn)];exact q) λc xs q=>by rw[av (ad q hn)];exact q
end
def Rd(H:Hp)(a:Addr)(u:HO):Prop:=H a=some u\/∃o,H a=some (.frz o u)
theorem Rd.ok(r:Rd H a u)(x:HOk P w H h):bJ P w H h a u:=by
 rcases r with r | ⟨o,r⟩
 ·exact x a u r
 ·obtain⟨_,q⟩:=x a _ r
  exact q
def Mut:Option HO->Prop
 | some (.lst _)=>True
 | some (.dK _)=>True
 | some (.dT _)=>True
 | some (.set _ _)=>True
 | some (.ins _ _ _)=>True
 | some (.ext _)=>True
 | _=>False
section
variable{P:Program}{w:World}{H:Hp}{h h':Heap}{x e:Addr}{o':HO}
theorem HOk.write(ok:HOk P w H h)(mu:Mut (H x))(he:e=x\/H e=some (.own x))(k:∀b u,b≠e->h.get? b=some u->h'.get? b=some u)(heo:∃u,h'.get? e=some u)
  (new:bJ P w (upd H x o') h' x o'):HOk P w (upd H x o') h':=λb u q=>by
 have nown:∀c y,H c=some (.own y)->c≠x:=λc y r z=>by subst z;rw[r]at mu;exact mu
 have ntup:∀c xs,H c=some (.tup xs)->c≠x:=λc xs r z=>by subst z;rw[r]at mu;exact mu
 by_cases hb:b=x
 ·subst hb;rw[aV]at q;cases q;exact new
 ·rw[av hb]at q
  by_cases hbe:b=e
  ·have q':H b=some (.own x):=by
    rcases he with z | z
    ·exact absurd (hbe.trans z) hb
    ·rw[hbe];exact z
   rw[q]at q';cases q'
   obtain⟨v,hv⟩:=heo
   exact⟨v,by rw[hbe];exact hv⟩
  ·refine(ok b u q).stay (λc v hc r=>k c v ?_ r) (λc r=>by rw[av (nown c b r)];exact r) λc xs r=>by rw[av (ntup c xs r)];exact r
   rcases hc with rfl | hc
   ·exact hbe
   ·rintro rfl
    rcases he with z | z
    ·exact nown c b hc z
    ·rw[hc]at z;cases z;exact hb rfl
end
structure Un(fs ex:List Addr)(H H':Hp)(h h':Heap):Prop where
 keep:∀b o,h.get? b=some o->H b=none->b∉fs->b∉ex->h'.get? b=some o
 slot:∀b o,h.get? b=some o->H b=none->b∈fs->b∉ex->∃sl,h'.get? b=some { o with slots:=sl }
 free:∀b o,h.get? b=some o->H b=none->b∉ex->H' b=none
 there:∀b o,h.get? b=some o->b∉ex->∃o',h'.get? b=some o'
 tups:∀b xs,H b=some (.tup xs)->H' b=some (.tup xs)
 frzs:∀b o u,H b=some (.frz o u)->H' b=some (.frz o u)
 tbls:∀b ps,H b=some (.tbl ps)->∃more,H' b=some (.tbl (ps++more))
section
variable{fs fs' ex ex':List Addr}{H H1 H2:Hp}{h h1 h2 h':Heap}{a x e:Addr}{o:HO}
theorem Un.any(u:Un fs ex H H1 h h1)(q:h.get? b=some ob)(n:H b=none)(hx:b∉ex):∃sl,h1.get? b=some { ob with slots:=sl }:=by
 by_cases hb:b∈fs
 ·exact u.slot b ob q n hb hx
 ·exact⟨ob.slots,u.keep b ob q n hb hx⟩
theorem Un.kept(k:∀b u,h.get? b=some u->h'.get? b=some u):Un fs ex H H h h' :=
 ⟨λb ob q _ _ _=>k b ob q,λb ob q _ _ _=>⟨ob.slots,k b ob q⟩,λ_ _ _ n _=>n,λb ob q _=>⟨ob,k b ob q⟩,λ_ _ q=>q,λ_ _ _ q=>q,λ_ ps q=>⟨#[],by rw[q];simp⟩⟩
theorem Un.refl:Un fs ex H H h h:=Un.kept λ_ _ q=>q
theorem Un.laid(k:∀b u,h.get? b=some u->h'.get? b=some u)(hp:h.objs.size<=a)(hn:H a=none):Un fs ex H (upd H a o) h h' where
 keep:=λb u q _ _ _=>k b u q
 slot:=λb u q _ _ _=>⟨u.slots,k b u q⟩
 free:=λb u q n _=>by rw[av (AAQ (AAd (AAG q) hp))];exact n
 there:=λb u q _=>⟨u,k b u q⟩
 tups:=λb xs q=>by rw[av (ad q hn)];exact q
 frzs:=λb u xs q=>by rw[av (ad q hn)];exact q
 tbls:=λb ps q=>⟨#[],by rw[av (ad q hn),q];simp⟩
theorem Un.write(mu:Mut (H x))(he:e=x\/H e=some (.own x))(k:∀b u,b≠e->h.get? b=some u->h'.get? b=some u)(heo:∃u,h'.get? e=some u):Un fs ex H (upd H x o) h h':=by
 have hx:∀b,H b=none->b≠x:=λb n z=>by subst z;rw[n]at mu;exact mu
 have hb:∀b,H b=none->b≠e:=λb n z=>by
  subst z
  rcases he with r | r
  ·exact hx b n r
  ·rw[n]at r;cases r
 have hm:∀b u,H b=some u->¬Mut (some u)->b≠x:=λb u q nm z=>by subst z;rw[q]at mu;exact nm mu
 refine⟨λb u q n _ _=>k b u (hb b n) q,λb u q n _ _=>⟨u.slots,k b u (hb b n) q⟩,λb u q n _=>by rw[av (hx b n)];exact n,λb u q _=>?_,
  λb xs q=>by rw[av (hm b _ q λz=>z)];exact q,λb u xs q=>by rw[av (hm b _ q λz=>z)];exact q,λb ps q=>⟨#[],by rw[av (hm b _ q λz=>z),q];simp⟩⟩
 by_cases hbe:b=e
 ·subst hbe;exact heo
 ·exact⟨u,k b u hbe q⟩
end
def trk(h:Heap)(H:Hp):List Addr:=(AAe h.objs.size).filter λa=>(H a).isSome
def BS(h:Heap)(H:Hp):Heap:=PySem.W.hideAll h (trk h H)
theorem zw(h:Heap)(H:Hp):(BS h H).objs.size=h.objs.size:=PySem.W.hideAll_size _ _
theorem BR(e:h.get? b=some o)(n:H b=none):(BS h H).get? b=some o :=
 PySem.W.hideAll_get _ e λhm=>by
  have q:(H b).isSome=true:=(AE8.mp hm).2
  rw[n]at q;simp at q
theorem Es(e:(BS h H).get? b=some o):h.get? b=some o/\H b=none:=by
 have e':h.get? b=some o:=PySem.W.of_hideAll (trk h H) e
 refine⟨e',?_⟩
 cases q:H b with
 | none=>rfl
 | some x =>
  have hm:b∈trk h H:=List.mem_filter.mpr ⟨AAk.mpr (AAG e'),by simp[q]⟩
  have z:(BS h H).get? b=none:=PySem.W.hideAll_none (trk h H) hm
  rw[z]at e;cases e
def Gd(g h:Heap)(L:Addr):List (Addr×Obj):=(AAe h.objs.size).filterMap λa=>if a=L\/(g.get? a).isSome=true then none else(h.get? a).map λo=>(a,o)
def aN(g h:Heap)(L d:Addr):List (Addr×Obj):=(Gd g h L).filter λp=>decide (p.1≠d)
end L2
namespace L2
open PySem PySem.Spec PyProof.Rows
structure Mod(K:AA5)(mg:Str->Option Value)(base:Heap):Prop where
 kin:K.In base
 glob:base.Ns mainGlobals mg
 blt:∃mb,base.Ns builtinsNs mb/\∀x:Str,x≠"__name__"->mb x=bootBuiltins x
 nolimit:base.NoLimit
/-- the context: a def's body (or a comprehension's block) running. base: fixed through the whole law;s₀,H₀: the entry;outer: the frames whose slots others may change (a def's callers);stack: all frames that run;
  ex: iterators that were made dn of the entry and are walked here (a comprehension's);fn: the names whose cells were made at the entry (a def: all;a comprehension's block: its own);calm: not dG an except suite;pn: pins that every state bears;xe: what is wanted of an exception that leaves the code -/
structure Cx where
 prog:Program
 w:World
 K:AA5
 mg:Str->Option Value
 base:Heap
 A:Around
 N:List Str
 s₀:Shared
 H₀:Hp
 env:Env
 outer:List Env
 stack:List Env
 ex:List Addr
 fn:Str->Bool
 calm:Bool
 pn:List (Addr×Obj)
 xe:Value->Shared->Prop
def frs(l:List Env):List Addr:=l.filterMap (·.frame)
abbrev Cx.fs(X:Cx):List Addr:=frs X.outer
def Vis(sc:Scope)(x:Str):Prop:=sc.names.lookup x=some .local\/sc.names.lookup x=some .cell\/sc.names.lookup x=some .free
def Loc(sc:Scope)(x:Str):Prop:=sc.names.lookup x=some .local\/sc.names.lookup x=some .cell
def Look(env:Env)(h:Heap)(m:Str->Option Value)(x:Str)(u:Value):Prop :=
 (env.kindOf x=some .local/\m x=some u)\/((env.kindOf x=some .cell\/env.kindOf x=some .free)/\∃c,env.cells.lookup x=some c/\h.IsCell c (some u))
structure Cx.Ok(X:Cx):Prop where
 mod:Mod X.K X.mg X.base
 kind:X.env.scope.kind=.function
 glob:X.env.globals=mainGlobals
 blt:X.env.builtins=builtinsNs
 above:X.s₀.heap.objs.size<=X.env.locals
 inj:∀x y c,X.env.cells.lookup x=some c->X.env.cells.lookup y=some c->x=y
 has:∀x,(X.env.kindOf x=some .cell\/X.env.kindOf x=some .free)->∃c,X.env.cells.lookup x=some c
 cab:∀x c,X.fn x=true->X.env.cells.lookup x=some c->X.s₀.heap.objs.size<=c
 hd:X.calm=true->X.A.handled=none
 frames:X.A.frames=some X.stack
 stk:X.stack=X.outer\/(X.stack=X.env::X.outer/\X.env.frame=some X.env.locals)
 exf:∀b∈X.ex,b≠X.env.locals/\∀x c,X.env.cells.lookup x=some c->c≠b
 bs:∀b o,X.base.get? b=some o->X.s₀.heap.get? b=some o/\X.H₀ b=none
 bsz:X.base.objs.size<=X.s₀.heap.objs.size
 noex:∀b o,X.base.get? b=some o->b∉X.ex
 exfs:∀b∈X.ex,b∉X.fs
 funs:X.s₀.heap.FunFrames X.base X.outer
 frf:∀b∈X.fs,X.H₀ b=none
structure Inv(X:Cx)(pins:List (Addr×Obj))(σ:List (Option V))(H:Hp)(s:Shared):Prop where
 ok:X.Ok
 os:s.os=X.s₀.os
 bare:AllBare s.gens
 base:Un X.fs X.ex X.H₀ H X.s₀.heap s.heap
 loc:∃m,s.heap.Ns X.env.locals m/\∀(i:Nat) (x:Str) (v:V),X.N[i]?=some x->σ[i]?=some (some v)->Vis X.env.scope x->∃u,aK v u/\Look X.env s.heap m x u
 cell:∀x c,X.env.cells.lookup x=some c->∃v,s.heap.IsCell c v
 free:H X.env.locals=none
 freeC:∀x c,X.env.cells.lookup x=some c->H c=none
 pin:∀p∈X.pn++pins,s.heap.get? p.1=some p.2/\H p.1=none/\p.1≠X.env.locals/\p.1∉X.fs/\∀v,p.2.data≠.cell v
 hok:HOk X.prog X.w H s.heap
 len:σ.length=X.N.length
section
variable{X:Cx}{pins:List (Addr×Obj)}{σ:List (Option V)}{H H':Hp}{s:Shared}{h':Heap}
theorem Cx.Ok.nofr(ok:X.Ok)(e:X.base.get? b=some o):b∉X.fs:=λhb=>by
 have:=(ok.funs.mem hb).1
 rw[e]at this;cases this
theorem Inv.bs(I:Inv X pins σ H s):∀b o,X.base.get? b=some o->s.heap.get? b=some o/\H b=none:=λb o e =>
 ⟨I.base.keep b o (I.ok.bs b o e).1 (I.ok.bs b o e).2 (I.ok.nofr e) (I.ok.noex b o e),I.base.free b o (I.ok.bs b o e).1 (I.ok.bs b o e).2 (I.ok.noex b o e)⟩
theorem Inv.bk(I:Inv X pins σ H s):∀b o,X.base.get? b=some o->s.heap.get? b=some o:=λb o e=>(I.bs b o e).1
theorem Inv.mod(I:Inv X pins σ H s):Mod X.K X.mg X.base:=I.ok.mod
theorem Inv.kIn(I:Inv X pins σ H s):X.K.In s.heap:=I.ok.mod.kin.keeps I.bk
theorem Inv.lt(I:Inv X pins σ H s):X.env.locals<s.heap.objs.size:=let ⟨_,hn,_⟩:=I.loc;hn.lt
theorem Inv.sz(I:Inv X pins σ H s):X.s₀.heap.objs.size<=s.heap.objs.size:=ABT I.ok.above (AEJ I.lt)
theorem Inv.nofs(I:Inv X pins σ H s)(h:s.heap.objs.size<=a):a∉X.fs:=λhb=>by
 obtain⟨_,o,ho,_⟩:=I.ok.funs.mem hb
 exact absurd (AAd (AAG ho) (ABT I.sz h)) (AAq _)
theorem Inv.cne(I:Inv X pins σ H s):∀x c,X.env.cells.lookup x=some c->c≠X.env.locals:=λx c e z=>by
 obtain⟨v,o,ho,hd⟩:=I.cell x c e
 obtain⟨m,⟨o',es,ep,ho',hd',_⟩,_⟩:=I.loc
 rw[z,ho']at ho;cases ho;rw[hd']at hd;cases hd
theorem Inv.funs(I:Inv X pins σ H s):s.heap.FunFrames X.base X.outer:=by
 have all:∀(l:List Env),(∀b∈frs l,b∈X.fs)->X.s₀.heap.FunFrames X.base l->s.heap.FunFrames X.base l:=by
  intro l
  induction l with
  | nil=>intro _ _;trivial
  | cons env r ih =>
   intro hs hl
   obtain⟨hk,⟨L,o,hf,hn,ho,hd⟩,hr⟩:=hl
   have hL:L∈X.fs:=hs L (by unfold frs;rw[ABp,hf];exact AAI)
   obtain⟨sl,e⟩:=I.base.slot L o ho (I.ok.frf L hL) hL λz=>I.ok.exfs L z hL
   exact⟨hk,⟨L,_,hf,hn,e,hd⟩,ih (λb hb=>hs b (by unfold frs;rw[ABp,hf];exact AA9 _ hb)) hr⟩
 exact all X.outer (λ_ hb=>hb) I.ok.funs
theorem Inv.stack(I:Inv X pins σ H s):s.heap.FunFrames X.base X.stack:=by
 rcases I.ok.stk with e | ⟨e,hf⟩
 ·rw[e];exact I.funs
 ·rw[e]
  obtain⟨m,hn,_⟩:=I.loc
  refine .cons (by rw[I.ok.kind];decide) hf hn ?_ I.funs
  exact Heap.get?_none_of_le (ABT I.ok.bsz I.ok.above)
theorem Inv.stkSub(I:Inv X pins σ H s):∀b∈frs X.stack,b∈X.env.locals::X.fs:=λb hb=>by
 rcases I.ok.stk with e | ⟨e,hf⟩
 ·rw[e]at hb;exact AA9 _ hb
 ·rw[e]at hb
  unfold frs at hb
  rw[ABp,hf]at hb
  exact hb
theorem Inv.stkFree(I:Inv X pins σ H s):∀b∈frs X.stack,H b=none:=λb hb=>by
 rcases AAH.mp (I.stkSub b hb)with e | hb
 ·rw[e];exact I.free
 ·obtain⟨_,o,ho,_⟩:=I.ok.funs.mem hb
  exact I.base.free b o ho (I.ok.frf b hb) λz=>I.ok.exfs b z hb
theorem Inv.step{g':Array GenState}{t':Nat}{d':Drawn}{ch:List Addr}(I:Inv X pins σ H s)
  (hch:∀b∈ch,(b∈X.ex\/X.s₀.heap.objs.size<=b)/\b≠X.env.locals/\(∀x c,X.env.cells.lookup x=some c->c≠b)/\∀p∈X.pn++pins,p.1≠b)
  (keep:∀b o,b≠X.env.locals->b∉X.fs->b∉ch->s.heap.get? b=some o->H b=none->h'.get? b=some o)
  (slot:∀b o,b≠X.env.locals->b∈X.fs->b∉ch->s.heap.get? b=some o->H b=none->∃sl,h'.get? b=some { o with slots:=sl }) (free:∀b o,b∉ch->s.heap.get? b=some o->H b=none->H' b=none)
  (there:∀b o,b∉ch->s.heap.get? b=some o->∃o',h'.get? b=some o')
  (tups:∀b xs,H b=some (.tup xs)->H' b=some (.tup xs)) (frzs:∀b o u,H b=some (.frz o u)->H' b=some (.frz o u)) (tbls:∀b ps,H b=some (.tbl ps)->∃more,H' b=some (.tbl (ps++more)))
  (ns:∀m,s.heap.Ns X.env.locals m->h'.Ns X.env.locals m) (hok:HOk X.prog X.w H' h') (hg:AllBare g') :
  Inv X pins σ H' { s with heap:=h',gens:=g',drawn:=d',toks:=t' }:=by
 have neL:∀b o,X.s₀.heap.get? b=some o->b≠X.env.locals:=λb o e=>AAQ (AAd (AAG e) I.ok.above)
 have neC:∀b o,X.s₀.heap.get? b=some o->b∉X.ex->b∉ch:=λb o e hx hb=>by
  rcases(hch b hb).1 with z | z
  ·exact hx z
  ·exact absurd (AAd (AAG e) z) (AAq _)
 have cellK:∀x c,X.env.cells.lookup x=some c->∀v,s.heap.IsCell c v->h'.IsCell c v:=λx c e v ⟨o,ho,hd⟩=>by
  have nch:c∉ch:=λz=>(hch c z).2.2.1 x c e rfl
  by_cases hc:c∈X.fs
  ·obtain⟨sl,q⟩:=slot c o (I.cne x c e) hc nch ho (I.freeC x c e)
   exact⟨_,q,hd⟩
  ·exact⟨o,keep c o (I.cne x c e) hc nch ho (I.freeC x c e),hd⟩
 refine⟨I.ok,I.os,hg,⟨λb o e n hb hx=>?_,λb o e n hb hx=>?_,λb o e n hx=>?_,λb o e hx=>?_,λb xs e=>tups b xs (I.base.tups b xs e),λb o xs e=>frzs b o xs (I.base.frzs b o xs e),λb ps e=>?_⟩,?_,λx c e=>?_,?_,λx c e=>?_,λp hp=>?_,hok,I.len⟩
 ·exact keep b o (neL b o e) hb (neC b o e hx) (I.base.keep b o e n hb hx) (I.base.free b o e n hx)
 ·obtain⟨sl,e1⟩:=I.base.slot b o e n hb hx
  obtain⟨sl',e2⟩:=slot b _ (neL b o e) hb (neC b o e hx) e1 (I.base.free b o e n hx)
  exact⟨sl',e2⟩
 ·obtain⟨o',e1⟩:=I.base.there b o e hx
  exact free b o' (neC b o e hx) e1 (I.base.free b o e n hx)
 ·obtain⟨o',e1⟩:=I.base.there b o e hx
  exact there b o' (neC b o e hx) e1
 ·obtain⟨m1,e1⟩:=I.base.tbls b ps e
  obtain⟨m2,e2⟩:=tbls b _ e1
  exact⟨m1++m2,by rw[e2,Array.append_assoc]⟩
 ·obtain⟨m,hn,hl⟩:=I.loc
  refine⟨m,ns m hn,λi x v e1 e2 e3=>?_⟩
  obtain⟨u,r,l⟩:=hl i x v e1 e2 e3
  refine⟨u,r,?_⟩
  rcases l with l | ⟨k,c,e,z⟩
  ·exact .inl l
  ·exact .inr ⟨k,c,e,cellK x c e _ z⟩
 ·obtain⟨v,z⟩:=I.cell x c e
  exact⟨v,cellK x c e v z⟩
 ·obtain⟨m,⟨o,_,_,ho,_⟩,_⟩:=I.loc
  exact free _ o (λz=>(hch _ z).2.1 rfl) ho I.free
 ·obtain⟨v,o,ho,hd⟩:=I.cell x c e
  exact free c o (λz=>(hch c z).2.2.1 x c e rfl) ho (I.freeC x c e)
 ·obtain⟨e,n,ne,nf,d⟩:=I.pin p hp
  have nch:p.1∉ch:=λz=>(hch p.1 z).2.2.2 p hp rfl
  exact⟨keep p.1 p.2 ne nf nch e n,free p.1 p.2 nch e n,ne,nf,d⟩
theorem Inv.un{t':Nat}(I:Inv X pins σ H s)(u:Un X.fs [] H H' s.heap h')(hok:HOk X.prog X.w H' h'):Inv X pins σ H' { s with heap:=h',toks:=t' }:=by
 obtain⟨m,⟨o,es,ep,ho,r⟩,_⟩:=id I.loc
 obtain⟨sl,hL⟩:=u.any ho I.free (by simp)
 exact I.step (g':=s.gens) (d':=s.drawn) (ch:=[]) (λ_ z=>nomatch z) (λb o _ hb _ e n=>u.keep b o e n hb (by simp)) (λb o _ hb _ e n=>u.slot b o e n hb (by simp)) (λb o _ e n=>u.free b o e n (by simp)) (λb o _ e=>u.there b o e (by simp)) u.tups u.frzs u.tbls (λm' hm=>by
  obtain⟨o',es',ep',ho',r'⟩:=hm
  rw[ho]at ho';cases ho'
  exact⟨_,es',ep',hL,r'⟩) hok I.bare
theorem Inv.call{g':Array GenState}{t':Nat}{d':Drawn}{ch:List Addr}(I:Inv X pins σ H s)(u:Un (frs X.stack) ch H H' s.heap h')(hok:HOk X.prog X.w H' h')(hg:AllBare g')
  (hch:∀b∈ch,(b∈X.ex\/X.s₀.heap.objs.size<=b)/\b≠X.env.locals/\(∀x c,X.env.cells.lookup x=some c->c≠b)/\∀p∈X.pn++pins,p.1≠b) :
  Inv X pins σ H' { s with heap:=h',gens:=g',drawn:=d',toks:=t' }:=by
 obtain⟨m,⟨o,es,ep,ho,r⟩,_⟩:=id I.loc
 obtain⟨sl,hL⟩:=u.any ho I.free λz=>(hch _ z).2.1 rfl
 exact I.step (ch:=ch) hch (λb o hL hb hc e n=>u.keep b o e n (λz=>(AAH.mp (I.stkSub b z)).elim hL hb) hc) (λb o _ _ hc e n=>u.any e n hc) (λb o hc e n=>u.free b o e n hc) (λb o hc e=>u.there b o e hc) u.tups u.frzs u.tbls (λm' hm=>by
  obtain⟨o',es',ep',ho',r'⟩:=hm
  rw[ho]at ho';cases ho'
  exact⟨_,es',ep',hL,r'⟩) hok hg
theorem Inv.turned{t':Nat}{it:Addr}(I:Inv X pins σ H s)(k:∀b o,b≠it->s.heap.get? b=some o->h'.get? b=some o)(hn:H it=none)(hL:it≠X.env.locals)
  (h1:it∈X.ex\/X.s₀.heap.objs.size<=it) (h2:∀x c,X.env.cells.lookup x=some c->c≠it) (h3:∀p∈X.pn++pins,p.1≠it):Inv X pins σ H { s with heap:=h',toks:=t' }:=by
 have nit:∀b u,H b=some u->b≠it:=λb u e z=>by rw[z,hn]at e;cases e
 refine I.step (g':=s.gens) (d':=s.drawn) (ch:=[it]) (λb hb=>?_) (λb o _ _ hc e _=>k b o (λz=>hc (by simp[z])) e) (λb o _ _ hc e _=>⟨o.slots,k b o (λz=>hc (by simp[z])) e⟩) (λ_ _ _ _ n=>n)
  (λb o hc e=>⟨o,k b o (λz=>hc (by simp[z])) e⟩) (λ_ _ e=>e) (λ_ _ _ e=>e) (λb ps e=>⟨#[],by rw[e];simp⟩) (λm hm=>?_) (λb u e=>?_) I.bare
 ·have e:b=it:=by simpa using hb
  subst e
  exact⟨h1,hL,h2,h3⟩
 ·obtain⟨o,es,ep,ho,r⟩:=hm
  exact⟨o,es,ep,k _ o (AAz hL) ho,r⟩
 ·refine(I.hok b u e).stay (λc v hc q=>k c v ?_ q) (λ_ q=>q) λ_ _ q=>q
  rcases hc with z | z
  ·rw[z];exact nit b u e
  ·exact nit c _ z
theorem Inv.tok(I:Inv X pins σ H s)(t:Nat):Inv X pins σ H { s with toks:=t }:=I.un (h':=s.heap) (t':=t) Un.refl I.hok
theorem Inv.kept(I:Inv X pins σ H s)(k:∀b u,s.heap.get? b=some u->h'.get? b=some u):Inv X pins σ H { s with heap:=h',toks:=t' }:=I.un (Un.kept k) (I.hok.kept k)
theorem Inv.laid(I:Inv X pins σ H s)(k:∀b u,s.heap.get? b=some u->h'.get? b=some u)(hp:s.heap.objs.size<=a)(new:bJ X.prog X.w (upd H a o) h' a o) :
  Inv X pins σ (upd H a o) { s with heap:=h',toks:=t' }:=I.un (Un.laid k hp (I.hok.fresh hp)) (I.hok.laid k hp new)
theorem Inv.write(I:Inv X pins σ H s)(mu:Mut (H x))(he:e=x\/H e=some (.own x))(k:∀b u,b≠e->s.heap.get? b=some u->h'.get? b=some u)(heo:∃u,h'.get? e=some u)
  (new:bJ X.prog X.w (upd H x o) h' x o):Inv X pins σ (upd H x o) { s with heap:=h',toks:=t' }:=I.un (Un.write mu he k heo) (I.hok.write mu he k heo new)
theorem Inv.pins_of(I:Inv X pins σ H s)(h:∀p∈pins',s.heap.get? p.1=some p.2/\H p.1=none/\p.1≠X.env.locals/\p.1∉X.fs/\∀v,p.2.data≠.cell v):Inv X pins' σ H s :=
 ⟨I.ok,I.os,I.bare,I.base,I.loc,I.cell,I.free,I.freeC,λp hp=>(AAl.mp hp).elim (λz=>I.pin p (ACY _ z)) (h p),I.hok,I.len⟩
theorem uK{N:List Str}(hN:N.Nodup){i j:Nat}{x:Str}(a:N[i]?=some x)(b:N[j]?=some x):i=j:=by
 obtain⟨h1,e1⟩:=AA2.mp a
 obtain⟨h2,e2⟩:=AA2.mp b
 exact(List.getElem_inj hN).mp (e1.trans e2.symm)
theorem xG{M:Model}{A:Around}{E:Value->Shared->Prop}{i:Nat}{x:Str}{v:V}{u:Value}{Q:Unit->Shared->Prop}(I:Inv X pins σ H s)(hN:X.N.Nodup)(hi:X.N[i]?=some x)(hx:Loc X.env.scope x)(r:aK v u)
  (h:∀s',Inv X pins (σ.set i (some v)) H s'->(∃a,ABM a s.heap s'.heap/\(a=X.env.locals\/X.env.cells.lookup x=some a))->Q () s') (hf:X.fn x=true\/X.env.scope.names.lookup x=some .local:=by first | exact .inl rfl | exact .inr rfl | assumption):wpAny M A (storeName X.env x u) Q E s:=by
 obtain⟨m,hn,hl⟩:=id I.loc
 have hcls:(X.env.scope.kind==.class||(X.env.scope.kind==.module&&X.env.locals != X.env.globals))=false:=by rw[I.ok.kind];rfl
 have hiσ:i<σ.length:=by rw[I.len];exact(AA2.mp hi).1
 have cne:=I.cne
 have tracked:∀{a:Addr}{h':Heap},(∃o,s.heap.get? a=some o/\H a=none)->ABM a s.heap h'->HOk X.prog X.w H h':=λ{a h'} ha hs b ob e=>by
  obtain⟨_,_,hfree⟩:=ha
  refine(I.hok b ob e).stay (λc w' hc q=>(hs.2 c ?_).trans q) (λ_ q=>q) λ_ _ q=>q
  rintro rfl
  rcases hc with rfl | hc
  ·rw[hfree]at e;cases e
  ·rw[hfree]at hc;cases hc
 rcases hx with hk | hk
 ·refine wpAny_storeName_local hk hn (λh' hn' hs=>?_) hcls
  obtain⟨oL,_,_,hoL,_⟩:=id hn
  refine h _ ⟨I.ok,I.os,I.bare,⟨λb o e n hb hx=>?_,λb o e n hb hx=>?_,I.base.free,λb o e hx=>?_,I.base.tups,I.base.frzs,I.base.tbls⟩,⟨_,hn',λj y v' e1 e2 e3=>?_⟩,λy c e=>?_,I.free,I.freeC,λp hp=>?_,tracked ⟨oL,hoL,I.free⟩ hs,by simpa using I.len⟩ ⟨_,hs,.inl rfl⟩
  ·exact(hs.2 b (AAQ (AAd (AAG e) I.ok.above))).trans (I.base.keep b o e n hb hx)
  ·obtain⟨sl,e1⟩:=I.base.slot b o e n hb hx
   exact⟨sl,(hs.2 b (AAQ (AAd (AAG e) I.ok.above))).trans e1⟩
  ·obtain⟨o',e1⟩:=I.base.there b o e hx
   exact⟨o',(hs.2 b (AAQ (AAd (AAG e) I.ok.above))).trans e1⟩
  ·by_cases hj:j=i
   ·subst hj
    rw[hi]at e1;cases e1
    rw[ABD hiσ]at e2
    cases e2
    exact⟨u,r,.inl ⟨hk,by simp⟩⟩
   ·rw[AAt (AAz hj)]at e2
    obtain⟨u',r',q⟩:=hl j y v' e1 e2 e3
    refine⟨u',r',?_⟩
    rcases q with⟨k,e⟩|⟨k,c,e,z⟩
    ·refine .inl ⟨k,?_⟩
     have:y≠x:=λe=>hj (uK hN e1 (e ▸ hi))
     simp[this,e]
    ·exact .inr ⟨k,c,e,z.sameBut hs (cne y c e)⟩
  ·obtain⟨w',z⟩:=I.cell y c e
   exact⟨w',z.sameBut hs (cne y c e)⟩
  ·obtain⟨e,n,ne,nf,d⟩:=I.pin p hp
   exact⟨(hs.2 p.1 ne).trans e,n,ne,nf,d⟩
 ·have hfn:X.fn x=true:=by
   rcases hf with z | z
   ·exact z
   ·rw[z]at hk;cases hk
  obtain⟨c,hc⟩:=I.ok.has x (.inl hk)
  obtain⟨w',z⟩:=I.cell x c hc
  refine wpAny_storeName_cell I.ok.kind hk hc z (λh' hc' hs=>?_)
  obtain⟨oc,hoc,hocd⟩:=id z
  refine h { s with heap:=h' } ⟨I.ok,I.os,I.bare,⟨λb o e n hb hx=>?_,λb o e n hb hx=>?_,I.base.free,λb o e hx=>?_,I.base.tups,I.base.frzs,I.base.tbls⟩,⟨m,hn.sameBut hs (AAz (cne x c hc)),λj y v' e1 e2 e3=>?_⟩,λy c' e=>?_,I.free,I.freeC,λp hp=>?_,tracked ⟨oc,hoc,I.freeC x c hc⟩ hs,by simpa using I.len⟩ ⟨c,hs,.inr hc⟩
  ·exact(hs.2 b (AAQ (AAd (AAG e) (I.ok.cab x c hfn hc)))).trans (I.base.keep b o e n hb hx)
  ·obtain⟨sl,e1⟩:=I.base.slot b o e n hb hx
   exact⟨sl,(hs.2 b (AAQ (AAd (AAG e) (I.ok.cab x c hfn hc)))).trans e1⟩
  ·obtain⟨o',e1⟩:=I.base.there b o e hx
   exact⟨o',(hs.2 b (AAQ (AAd (AAG e) (I.ok.cab x c hfn hc)))).trans e1⟩
  ·by_cases hj:j=i
   ·subst hj
    rw[hi]at e1;cases e1
    rw[ABD hiσ]at e2
    cases e2
    exact⟨u,r,.inr ⟨.inl hk,c,hc,hc'⟩⟩
   ·rw[AAt (AAz hj)]at e2
    obtain⟨u',r',q⟩:=hl j y v' e1 e2 e3
    refine⟨u',r',?_⟩
    rcases q with q | ⟨k,c',e,z'⟩
    ·exact .inl q
    ·refine .inr ⟨k,c',e,z'.sameBut hs ?_⟩
     rintro rfl
     exact hj (uK hN e1 (I.ok.inj _ _ _ e hc ▸ hi))
  ·by_cases hcc:c'=c
   ·subst hcc;exact⟨_,hc'⟩
   ·obtain⟨w2,z2⟩:=I.cell y c' e
    exact⟨w2,z2.sameBut hs hcc⟩
  ·obtain⟨e,n,ne,nf,d⟩:=I.pin p hp
   refine⟨(hs.2 p.1 ?_).trans e,n,ne,nf,d⟩
   intro q
   rw[q,hoc]at e
   have q':oc=p.2:=AAR e
   exact d w' (by rw[←q'];exact hocd)
theorem uA(I:Inv X pins σ H s)(hN:X.N.Nodup)(hi:X.N[i]?=some x)(hx:Loc X.env.scope x)(r:aK v u)
  (h:∀s',Inv X pins (σ.set i (some v)) H s'->Q () s') (hf:X.fn x=true\/X.env.scope.names.lookup x=some .local:=by first | exact .inl rfl | exact .inr rfl | assumption):wpAny M A (storeName X.env x u) Q E s :=
 xG I hN hi hx r (λs' I' _=>h s' I') hf
theorem Inv.call'(I:Inv X pins σ H s)(ho:s'.os=s.os)(u:Un (frs X.stack) ch H H' s.heap s'.heap)(hok:HOk X.prog X.w H' s'.heap)(hg:AllBare s'.gens)
  (hch:∀b∈ch,(b∈X.ex\/X.s₀.heap.objs.size<=b)/\b≠X.env.locals/\(∀x c,X.env.cells.lookup x=some c->c≠b)/\∀p∈X.pn++pins,p.1≠b):Inv X pins σ H' s':=by
 obtain⟨h',g',d',t',o'⟩:=s'
 have e:o'=s.os:=ho
 subst e
 exact I.call (g':=g') (t':=t') (d':=d') u hok hg hch
end
abbrev XK:=Value->Option Addr->Hp->Prop
abbrev St:=List (Option V)
abbrev VK:=V->Hp->Prop
abbrev TE:=St->Hp->VK->Prop
abbrev TT:=St->Hp->(Bool->Hp->Prop)->Prop
abbrev TA:=St->Hp->(List V->Hp->Prop)->Prop
structure Ends where
 nx:St->Hp->Prop
 rt:VK
 bk:St->Hp->Prop:=λ_ _=>False
 ct:St->Hp->Prop:=λ_ _=>False
abbrev TS:=Ends->St->Hp->Prop
inductive EP(X:Cx)(pins:List (Addr×Obj))(σ:St)(Q:VK)(u:Value)(s':Shared):Prop
 | mk (v:_) (H':_) (f0:Inv X pins σ H' s') (f1:aK v u) (f2:Q v H')
inductive TP(X:Cx)(pins:List (Addr×Obj))(σ:St)(Q:Bool->Hp->Prop)(b:Bool)(s':Shared):Prop
 | mk (H':_) (f0:Inv X pins σ H' s') (f1:Q b H')
inductive AP(X:Cx)(pins:List (Addr×Obj))(σ:St)(Q:List V->Hp->Prop)(us:List Value)(s':Shared):Prop
 | mk (vs:_) (H':_) (f0:Inv X pins σ H' s') (f1:ax vs us) (f2:Q vs H')
def SP(X:Cx)(pins:List (Addr×Obj))(D:Ends)(f:Flow)(s':Shared):Prop :=
 match f with
 | .next=>∃σ' H',Inv X pins σ' H' s'/\D.nx σ' H'
 | .brk=>∃σ' H',Inv X pins σ' H' s'/\D.bk σ' H'
 | .cont=>∃σ' H',Inv X pins σ' H' s'/\D.ct σ' H'
 | .ret u=>∃v σ' H',Inv X pins σ' H' s'/\aK v u/\D.rt v H'
def PE(X:Cx)(e:Expr)(t:TE):Prop :=
 ∀(pins:List (Addr×Obj)) (s:Shared) (σ:St) (H:Hp) (Q:VK),Inv X pins σ H s->t σ H Q->wpAny (model X.prog X.w) X.A (eval e X.env) (EP X pins σ Q) X.xe s
def PT(X:Cx)(e:Expr)(t:TT):Prop :=
 ∀(pins:List (Addr×Obj)) (s:Shared) (σ:St) (H:Hp) (Q:Bool->Hp->Prop),Inv X pins σ H s->t σ H Q->wpAny (model X.prog X.w) X.A (isTrue e X.env (eval e X.env)) (TP X pins σ Q) X.xe s
def PW(X:Cx)(e:Expr)(t:TT):Prop :=
 ∀(whole:Sem Value) (pins:List (Addr×Obj)) (s:Shared) (σ:St) (H:Hp) (Q:Bool->Hp->Prop),Inv X pins σ H s->t σ H Q->wpAny (model X.prog X.w) X.A (isTrue e X.env whole) (TP X pins σ Q) X.xe s
theorem PW.pt(h:PW X e t):PT X e t:=h _
def PA(X:Cx)(es:List Expr)(t:TA):Prop :=
 ∀(pos:Pos) (pins:List (Addr×Obj)) (s:Shared) (σ:St) (H:Hp) (Q:List V->Hp->Prop),Inv X pins σ H s->t σ H Q->wpAny (model X.prog X.w) X.A (spliced (backTo pos (starEach es X.env))) (AP X pins σ Q) X.xe s
def PS(X:Cx)(st:Stmt)(t:TS):Prop :=
 ∀(pins:List (Addr×Obj)) (s:Shared) (σ:St) (H:Hp) (D:Ends),Inv X pins σ H s->t D σ H->wpAny (model X.prog X.w) X.A (exec st X.env) (SP X pins D) X.xe s
def PSs(X:Cx)(st:List Stmt)(t:TS):Prop :=
 ∀(pins:List (Addr×Obj)) (s:Shared) (σ:St) (H:Hp) (D:Ends),Inv X pins σ H s->t D σ H->wpAny (model X.prog X.w) X.A (execs st X.env) (SP X pins D) X.xe s
theorem thn{α:Type}{t:Sem α}{Q Q':α->Shared->Prop}{M:Model}{A:Around}{E:Value->Shared->Prop}{s:Shared}(h:wpAny M A t Q E s)(hQ:∀a s,Q a s->Q' a s):wpAny M A t Q' E s:=ABh h hQ λ_ _ x=>x
end L2
namespace L2
open PySem PySem.Spec PyProof.Rows
section
variable{X:Cx}
def tVar(i:Nat):TE:=λσ H Q=>∃v,σ[i]?=some (some v)/\Q v H
def tC(v:V):TE:=λ_ H Q=>Q v H
theorem yg(hN:X.N[i]?=some x)(hv:Vis X.env.scope x)(hd:(x==("__debug__":Str))=false:=by decide)(hcd:(x==("__classdict__":Str))=false:=by decide):PE X (.Name x pos) (tVar i):=by
 intro pins s σ H Q I h
 obtain⟨v,e,h⟩:=h
 obtain⟨m,hn,hl⟩:=I.loc
 obtain⟨u,r,l⟩:=hl i x v hN e hv
 have fin:EP X pins σ Q u s:=⟨v,H,I,r,h⟩
 rcases l with⟨hk,hm⟩|⟨hk,c,hc,hcell⟩
 ·exact wpAny_Name (wpAny_loadName_local I.ok.kind hk hn hm fin) hd
 ·rcases hk with hk | hk
  ·exact wpAny_Name (wpAny_loadName_cell I.ok.kind hk hc hcell fin) hd
  ·exact wpAny_Name (wpAny_loadName_free I.ok.kind hk hc hcell fin hcd) hd
theorem Hn{i j pos}:PE X (.Constant (.int i) j pos) (tC (.int i)):=λ_ _ _ H _ I h=>wpAny_Constant_int ⟨.int i,H,I.tok _,⟨_,rfl⟩,h⟩
theorem Hq{b j pos}:PE X (.Constant (.bool b) j pos) (tC (.bl b)):=λ_ _ _ H _ I h=>Constant_bool ⟨.bl b,H,I,rfl,h⟩
theorem Hk{j pos}:PE X (.Constant .none j pos) (tC .non):=λ_ _ _ H _ I h=>Constant_none ⟨.non,H,I,rfl,h⟩
theorem Hh{x j pos}:PE X (.Constant (.str x) j pos) (tC (.str x)):=λ_ _ _ H _ I h=>Calls.Constant_str ⟨.str x,H,I.tok _,⟨_,rfl⟩,h⟩
def Gl(X:Cx)(x:Str):Prop:=X.env.kindOf x=some .globalImplicit
theorem yZ(I:Inv X pins σ H s)(hg:Gl X x)(hm:X.mg x=some u)(h:Q u s)
  (hd:(x==("__debug__":Str))=false:=by decide):wpAny (model X.prog X.w) X.A (eval (.Name x pos) X.env) Q E s :=
 Calls.Name_function_global I.ok.kind hg (Calls.loadGlobal_global (by rw[I.ok.glob];exact I.mod.glob.keeps I.bk) hm h) hd
theorem gF(I:Inv X pins σ H s)(hg:Gl X x)(hm:X.mg x=none)(hv:bootBuiltins x=some u)(h:Q u s)
  (hn:x≠"__name__":=by decide) (hd:(x==("__debug__":Str))=false:=by decide):wpAny (model X.prog X.w) X.A (eval (.Name x pos) X.env) Q E s:=by
 obtain⟨mb,h1,h2⟩:=I.mod.blt
 exact Calls.Name_function_global I.ok.kind hg (Calls.loadGlobal_builtin (by rw[I.ok.glob];exact I.mod.glob.keeps I.bk) hm (by rw[I.ok.blt];exact h1.keeps I.bk) ((h2 x hn).trans hv) h) hd
theorem su(hg:Gl X x)(hm:X.mg x=some u)(r:aK v u)(hd:(x==("__debug__":Str))=false:=by decide):PE X (.Name x pos) (tC v) :=
 λ_ _ _ H _ I h=>yZ I hg hm ⟨v,H,I,r,h⟩ hd
theorem Eg(hg:Gl X x)(hm:X.mg x=none)(hv:bootBuiltins x=some u)(r:aK v u)(hn:x≠"__name__":=by decide)(hd:(x==("__debug__":Str))=false:=by decide):PE X (.Name x pos) (tC v) :=
 λ_ _ _ H _ I h=>gF I hg hm hv ⟨v,H,I,r,h⟩ hn hd
variable{a b:Expr}{ta tb:TE}{pos:Pos}
theorem aK.none_iff(r:aK x v):(v==ABb)=decide (x=.non):=by
 cases x with
 | non=>cases r;rfl
 | bl _=>cases r;rfl
 | int _=>obtain⟨t,rfl⟩:=r;rfl
 | str _=>obtain⟨t,rfl⟩:=r;rfl
 | byt _=>obtain⟨t,rfl⟩:=r;rfl
 | flt _=>obtain⟨t,rfl⟩:=r;rfl
 | ref _=>cases r;rfl
 | ty _=>cases r;rfl
def tB(t:TE):TT:=λσ H Q=>t σ H λx H1=>∃c,x=.bl c/\Q c H1
theorem GW(h:PE X e t)(he:∀whole,isTrue e X.env whole=(do let v ←whole;standAt e.pos;holding [v] (truthy v)):=by intro _;rfl):PT X e (tB t):=by
 intro pins s σ H Q I hw
 refine isTrue_plain (thn (h pins s σ H _ I hw) λv s1 ⟨x,H1,I1,r1,q1⟩=>?_) (he _)
 obtain⟨d,rfl,q⟩:=q1
 cases r1
 exact ABi ⟨H1,I1,q⟩
variable{tA tB':TT}{aN:List Expr}
def tAnd(t u:TT):TT:=λσ H Q=>t σ H λc H1=>if c=true then u σ H1 Q else Q false H1
def tOr(t u:TT):TT:=λσ H Q=>t σ H λc H1=>if c=true then Q true H1 else u σ H1 Q
def tNot(t:TT):TT:=λσ H Q=>t σ H λc H1=>Q (!c) H1
theorem DN(ha:PT X a tA):PW X (.BoolOp .And [a] pos) tA:=by
 intro wh pins s σ H Q I h
 refine isTrue_and (thn (ha pins s σ H Q I h) λc s1 e=>?_)
 cases c with
 | true=>exact isTrue_and_nil e
 | false=>exact e
theorem GU(ha:PT X a tA):PW X (.BoolOp .Or [a] pos) tA:=by
 intro wh pins s σ H Q I h
 refine isTrue_or (thn (ha pins s σ H Q I h) λc s1 e=>?_)
 cases c with
 | false=>exact isTrue_or_nil e
 | true=>exact e
theorem GV(ha:PT X a tA)(hb:PW X (.BoolOp .And (b::aN) pos) tB'):PW X (.BoolOp .And (a::b::aN) pos) (tAnd tA tB'):=by
 intro wh pins s σ H Q I h
 refine isTrue_and (thn (ha pins s σ H _ I h) λc s1 ⟨H1,I1,q1⟩=>?_)
 cases c with
 | true=>exact hb wh pins s1 σ H1 Q I1 q1
 | false=>exact⟨H1,I1,q1⟩
theorem pw_or(ha:PT X a tA)(hb:PW X (.BoolOp .Or (b::aN) pos) tB'):PW X (.BoolOp .Or (a::b::aN) pos) (tOr tA tB'):=by
 intro wh pins s σ H Q I h
 refine isTrue_or (thn (ha pins s σ H _ I h) λc s1 ⟨H1,I1,q1⟩=>?_)
 cases c with
 | true=>exact⟨H1,I1,q1⟩
 | false=>exact hb wh pins s1 σ H1 Q I1 q1
theorem GX(ha:PT X a tA):PT X (.UnaryOp .Not a pos) (tNot tA):=by
 intro pins s σ H Q I h
 exact isTrue_not (thn (ha pins s σ H (λc H1=>Q (!c) H1) I h) λc s1 ⟨H1,I1,q1⟩=>⟨H1,I1,q1⟩)
def tAndV(ta tb:TE):TE:=λσ H Q=>ta σ H λx H1=>∃c,x=.bl c/\if c=true then tb σ H1 Q else Q (.bl false) H1
def tOrV(ta tb:TE):TE:=λσ H Q=>ta σ H λx H1=>∃c,x=.bl c/\if c=true then Q (.bl true) H1 else tb σ H1 Q
def tNotV(ta:TE):TE:=λσ H Q=>ta σ H λx H1=>∃c,x=.bl c/\Q (.bl (!c)) H1
theorem Hi{op}(h:PE X a t):PE X (.BoolOp op [a] pos) t:=λpins s σ H Q I hw=>BoolOp_one (h pins s σ H Q I hw)
theorem Hr(ha:PE X a ta)(hb:PE X (.BoolOp .And (b::aN) pos) tb):PE X (.BoolOp .And (a::b::aN) pos) (tAndV ta tb):=by
 intro pins s σ H Q I h
 refine BoolOp_and (thn (ha pins s σ H _ I h) λv s1 ⟨x,H1,I1,r1,q1⟩=>?_)
 obtain⟨c,rfl,q1⟩:=q1
 cases r1
 refine ABi ?_
 cases c with
 | true=>exact hb pins s1 σ H1 Q I1 q1
 | false=>exact⟨.bl false,H1,I1,rfl,q1⟩
theorem pe_or(ha:PE X a ta)(hb:PE X (.BoolOp .Or (b::aN) pos) tb):PE X (.BoolOp .Or (a::b::aN) pos) (tOrV ta tb):=by
 intro pins s σ H Q I h
 refine BoolOp_or (thn (ha pins s σ H _ I h) λv s1 ⟨x,H1,I1,r1,q1⟩=>?_)
 obtain⟨c,rfl,q1⟩:=q1
 cases r1
 refine ABi ?_
 cases c with
 | false=>exact hb pins s1 σ H1 Q I1 q1
 | true=>exact⟨.bl true,H1,I1,rfl,q1⟩
theorem Hj(ha:PE X a ta):PE X (.UnaryOp .Not a pos) (tNotV ta):=by
 intro pins s σ H Q I h
 refine UnaryOp_ (thn (ha pins s σ H _ I h) λv s1 ⟨x,H1,I1,r1,q1⟩=>?_)
 obtain⟨c,rfl,q1⟩:=q1
 cases r1
 exact not_of (ABi ⟨.bl (!c),H1,I1,rfl,q1⟩)
end
end L2
namespace L2
open PySem PySem.Spec PyProof.Rows
def SqL(K:AA5)(H:Hp)(a:Addr)(xs:List V):Prop :=
 Rd H a (.lst xs) \/
  ∃(o:Obj) (its:Array Value) (n:Nat),K.lookup a=some o/\o.cls=.type "list"/\o.dict=none/\o.data=.seq its n/\its.size<=sizeLine/\ax xs its.toList
def SqT(K:AA5)(H:Hp)(a:Addr)(xs:List V):Prop :=
 Rd H a (.tup xs) \/
  ∃(o:Obj) (its:Array Value) (n:Nat),K.lookup a=some o/\o.cls=.type "tuple"/\o.dict=none/\o.data=.seq its n/\its.size<=sizeLine/\ax xs its.toList
def absV:Value->Option V
 | .none=>some .non
 | .bool b=>some (.bl b)
 | .int i _=>some (.int i)
 | .str x _=>some (.str x)
 | .bytes b _=>some (.byt b)
 | .float b _=>some (.flt b)
 | .ref a=>some (.ref a)
 | .type n=>some (.ty n)
 | _=>none
theorem aK.abs(r:aK x u):absV u=some x:=by
 cases x with
 | non=>cases r;rfl
 | bl _=>cases r;rfl
 | int _=>obtain⟨t,rfl⟩:=r;rfl
 | str _=>obtain⟨t,rfl⟩:=r;rfl
 | byt _=>obtain⟨t,rfl⟩:=r;rfl
 | flt _=>obtain⟨t,rfl⟩:=r;rfl
 | ref _=>cases r;rfl
 | ty _=>cases r;rfl
theorem aK.inj(r:aK x u)(q:aK y u):x=y:=AAR (r.abs.symm.trans q.abs)
theorem ax.inj:∀{xs ys:List V}{us:List Value},ax xs us->ax ys us->xs=ys
 | _,_,_,.nil,.nil=>rfl
 | _,_,_,.cons r t,.cons r' t'=>by rw[r.inj r',ax.inj t t']
section
variable{X:Cx}{pins:List (Addr×Obj)}{σ:St}{H:Hp}{s:Shared}{a:Addr}{xs ys:List V}
theorem SqT.of{K:AA5}(h:H a=some (.tup xs)):SqT K H a xs:=.inl (.inl h)
theorem Inv.list(I:Inv X pins σ H s)(h:SqL X.K H a xs):∃its:List Value,ax xs its/\PlainL s.heap a its.toArray/\xs.length<=sizeLine:=by
 rcases h with h | ⟨o,its,n,hk,hc,hd,hs,hz,r⟩
 ·obtain⟨z,its,n,r,e⟩:=h.ok I.hok
  exact⟨its,r,⟨_,n,e,rfl,rfl,rfl⟩,z⟩
 ·refine⟨its.toList,r,⟨o,n,I.kIn a o hk,hc,hd,by simpa using hs⟩,?_⟩
  have e:=r.length
  simp only[AAO]at e
  lia
theorem Inv.tuple(I:Inv X pins σ H s)(h:SqT X.K H a xs):∃its:List Value,ax xs its/\IsTup s.heap a its.toArray/\xs.length<=sizeLine:=by
 rcases h with h | ⟨o,its,n,hk,hc,_,hs,hz,r⟩
 ·obtain⟨z,its,r,p⟩:=h.ok I.hok
  exact⟨its,r,p.tup,z⟩
 ·refine⟨its.toList,r,⟨o,I.kIn a o hk,hc,n,by simpa using hs⟩,?_⟩
  have e:=r.length
  simp only[AAO]at e
  lia
theorem Inv.list_inj(I:Inv X pins σ H s)(h:SqL X.K H a xs)(h':SqL X.K H a ys):xs=ys:=by
 obtain⟨its,r,⟨o,n,e,_,_,d⟩,_⟩:=I.list h
 obtain⟨its',r',⟨o',n',e',_,_,d'⟩,_⟩:=I.list h'
 rw[e]at e';cases e'
 rw[d]at d'
 injection d' with d1 _
 have:its=its':=by simpa using congrArg Array.toList d1
 subst this
 exact r.inj r'
theorem Inv.tuple_inj(I:Inv X pins σ H s)(h:SqT X.K H a xs)(h':SqT X.K H a ys):xs=ys:=by
 obtain⟨its,r,⟨o,e,_,n,d⟩,_⟩:=I.tuple h
 obtain⟨its',r',⟨o',e',_,n',d'⟩,_⟩:=I.tuple h'
 rw[e]at e';cases e'
 rw[d]at d'
 injection d' with d1 _
 have:its=its':=by simpa using congrArg Array.toList d1
 subst this
 exact r.inj r'
end
abbrev Cx.wish(X:Cx)(E:Value->Shared->Prop):Cx:={ X with xe:=E }
abbrev Cx.nox(X:Cx):Cx:=X.wish λ_ _=>False
theorem Cx.Ok.wish{X:Cx}(ok:X.Ok)(E:Value->Shared->Prop):(X.wish E).Ok :=
 ⟨ok.mod,ok.kind,ok.glob,ok.blt,ok.above,ok.inj,ok.has,ok.cab,ok.hd,ok.frames,ok.stk,ok.exf,ok.bs,ok.bsz,ok.noex,ok.exfs,ok.funs,ok.frf⟩
theorem Cx.Ok.unwish{X:Cx}{E:Value->Shared->Prop}(ok:(X.wish E).Ok):X.Ok :=
 ⟨ok.mod,ok.kind,ok.glob,ok.blt,ok.above,ok.inj,ok.has,ok.cab,ok.hd,ok.frames,ok.stk,ok.exf,ok.bs,ok.bsz,ok.noex,ok.exfs,ok.funs,ok.frf⟩
section
variable{X:Cx}{pins:List (Addr×Obj)}{σ:St}{H:Hp}{s:Shared}{E:Value->Shared->Prop}
theorem Inv.wish(I:Inv X pins σ H s)(E:Value->Shared->Prop):Inv (X.wish E) pins σ H s:=⟨I.ok.wish E,I.os,I.bare,I.base,I.loc,I.cell,I.free,I.freeC,I.pin,I.hok,I.len⟩
theorem Inv.unwish(I:Inv (X.wish E) pins σ H s):Inv X pins σ H s:=⟨I.ok.unwish,I.os,I.bare,I.base,I.loc,I.cell,I.free,I.freeC,I.pin,I.hok,I.len⟩
theorem SP.unwish(h:SP (X.wish E) pins D f s'):SP X pins D f s':=by
 cases f with
 | next=>obtain⟨σ',H',I,q⟩:=h;exact⟨σ',H',I.unwish,q⟩
 | brk=>obtain⟨σ',H',I,q⟩:=h;exact⟨σ',H',I.unwish,q⟩
 | cont=>obtain⟨σ',H',I,q⟩:=h;exact⟨σ',H',I.unwish,q⟩
 | ret u=>obtain⟨v,σ',H',I,r,q⟩:=h;exact⟨v,σ',H',I.unwish,r,q⟩
theorem PSs.nox{st:List Stmt}{t:TS}(h:PSs X.nox st t):PSs X st t:=λpins s σ H D I hw =>
 ABh (h pins s σ H D (I.wish _) hw) (λ_ _ q=>q.unwish) λ_ _ z=>AD4 z
end
section
variable{X:Cx}{st:Stmt}{aN:List Stmt}{t u:TS}{e:Expr}{te:TE}{pos:Pos}
def tNext:TS:=λD σ H=>D.nx σ H
def tSeq(t u:TS):TS:=λD σ H=>t { D with nx:=u D } σ H
theorem DU:PSs X [] tNext:=λ_ _ σ H _ I h=>wpAny_execs_nil ⟨σ,H,I,h⟩
theorem AT(h1:PS X st t)(h2:PSs X aN u):PSs X (st::aN) (tSeq t u):=by
 intro pins s σ H D I h
 refine wpAny_execs_cons (thn (h1 pins s σ H { D with nx:=u D } I h) λf s1 q=>?_)
 cases f with
 | next =>
  obtain⟨σ',H',I',q⟩:=q
  exact h2 pins s1 σ' H' D I' q
 | ret v=>exact q
 | brk=>exact q
 | cont=>exact q
theorem DR(h1:PS X st t):PSs X [st] t:=by
 intro pins s σ H D I h
 refine wpAny_execs_cons (thn (h1 pins s σ H D I h) λf s1 q=>?_)
 cases f with
 | next=>exact wpAny_execs_nil q
 | ret v=>exact q
 | brk=>exact q
 | cont=>exact q
theorem Inv.quiet(I:Inv X pins σ H s):interactive X.env=false:=by simp[interactive,I.ok.kind]
def tDrop(te:TE):TS:=λD σ H=>te σ H λ_ H1=>D.nx σ H1
theorem DV(he:PE X e te)(hs:swapsWith e none pos.line X.env=pure false:=by rfl):PS X (.Expr e pos) (tDrop te):=by
 intro pins s σ H D I h
 exact wpAny_Expr_any (thn (he pins s σ H _ I h) λv s1 ⟨x,H1,I1,r1,q1⟩=>⟨σ,H1,I1,q1⟩) I.quiet hs
def tRet(te:TE):TS:=λD σ H=>te σ H D.rt
theorem GZ(he:PE X e te):PS X (.Return (some e) pos) (tRet te):=by
 intro pins s σ H D I h
 exact wpAny_Return_some (thn (he pins s σ H _ I h) λv s1 ⟨x,H1,I1,r1,q1⟩=>⟨x,σ,H1,I1,r1,q1⟩)
def tIfS(c:TT)(t u:TS):TS:=λD σ H=>c σ H λb H1=>if b=true then t D σ H1 else u D σ H1
theorem ps_if(hc:PT X c tc)(ha:PSs X a t)(hb:PSs X b u):PS X (.If c a b pos) (tIfS tc t u):=by
 intro pins s σ H D I h
 refine wpAny_If (thn (hc pins s σ H _ I h) λd s1 ⟨H1,I1,q1⟩=>?_)
 cases d with
 | true=>exact ha pins s1 σ H1 D I1 q1
 | false=>exact hb pins s1 σ H1 D I1 q1
end
abbrev TG:=V->St->Hp->(St->Hp->Prop)->Prop
abbrev TGs:=List V->St->Hp->(St->Hp->Prop)->Prop
def PG(X:Cx)(target:Expr)(t:TG):Prop :=
 ∀(pins:List (Addr×Obj)) (s:Shared) (σ:St) (H:Hp) (v:V) (u:Value) (Q:St->Hp->Prop),Inv X pins σ H s->aK v u->t v σ H Q ->
  wpAny (model X.prog X.w) X.A (assign target X.env u) (λ_ s'=>∃σ' H',Inv X pins σ' H' s'/\Q σ' H') X.xe s
def PGs(X:Cx)(ts:List Expr)(t:TGs):Prop :=
 ∀(pins:List (Addr×Obj)) (s:Shared) (σ:St) (H:Hp) (vs:List V) (us:List Value) (Q:St->Hp->Prop),Inv X pins σ H s->ax vs us->t vs σ H Q ->
  wpAny (model X.prog X.w) X.A (assignInOrder ((assignEach ts X.env).map (·.2)) us) (λ_ s'=>∃σ' H',Inv X pins σ' H' s'/\Q σ' H') X.xe s
abbrev TSet:=V->V->V->Hp->(Hp->Prop)->Prop
def PSet(X:Cx)(t:TSet):Prop :=
 ∀(pins:List (Addr×Obj)) (s:Shared) (σ:St) (H:Hp) (o i v:V) (ov iv u:Value) (Q:Hp->Prop),Inv X pins σ H s->aK o ov->aK i iv->aK v u->t o i v H Q ->
  wpAny (model X.prog X.w) X.A (setItem ov iv u) (λ_ s'=>∃H',Inv X pins σ H' s'/\Q H') X.xe s
section
variable{X:Cx}{pos:Pos}
def Jd(i:Nat):TG:=λv σ H Q=>Q (σ.set i (some v)) H
theorem Ec(hN:X.N.Nodup)(hi:X.N[i]?=some x)(hx:Loc X.env.scope x)(hf:X.fn x=true\/X.env.scope.names.lookup x=some .local:=by first | exact .inl rfl | exact .inr rfl | assumption):PG X (.Name x pos) (Jd i):=by
 intro pins s σ H v u Q I r h
 exact wpAny_assign_Name (uA I hN hi hx r (λs' I'=>⟨_,H,I',h⟩) hf)
def gNil:TGs:=λvs σ H Q=>vs=[]/\Q σ H
def gCons(t:TG)(u:TGs):TGs:=λvs σ H Q=>∃v r,vs=v::r/\t v σ H λσ' H'=>u r σ' H' Q
theorem Eb:PGs X [] gNil:=by
 intro pins s σ H vs us Q I r h
 obtain⟨e,h⟩:=h
 subst e
 cases r
 exact assignInOrder_nil ⟨σ,H,I,h⟩
theorem AX(h1:PG X e t)(h2:PGs X es u)
  (hs:(assignEach (e::es) X.env).map (·.2)=assign e X.env::(assignEach es X.env).map (·.2):=by rfl):PGs X (e::es) (gCons t u):=by
 intro pins s σ H vs us Q I r h
 obtain⟨v,vr,e1,h⟩:=h
 subst e1
 cases r with
 | cons r rr =>
  rw[hs]
  refine assignInOrder_cons (thn (h1 pins s σ H _ _ _ I r h) λ_ s1 ⟨σ1,H1,I1,q1⟩=>?_)
  exact h2 pins s1 σ1 H1 _ _ Q I1 rr q1
def gTup(K:AA5)(n:Nat)(t:TGs):TG:=λv σ H Q=>∃a xs,v=.ref a/\SqT K H a xs/\xs.length=n/\t xs σ H Q
theorem He(hc:X.calm=true)(h:PGs X es t)
  (hn:(assignEach es X.env).length=n:=by rfl) (hst:(assignEach es X.env).findIdx? (·.1)=none:=by rfl):PG X (.Tuple es k pos) (gTup X.K n t):=by
 intro pins s σ H v u Q I r hw
 obtain⟨a,xs,e1,hq,hl,hw⟩:=hw
 subst e1
 cases r
 obtain⟨its,rv,ht,hz⟩:=I.tuple hq
 refine assign_Tuple_tuple (I.ok.hd hc) ht (by simp[hn,←hl,rv.length]) hst λh' hx=>?_
 have I1:Inv X pins σ H { s with heap:=h' }:=I.kept (t':=s.toks) λb o e=>hx b o (AAQ (AAG e)) e
 exact h pins _ σ H xs _ Q I1 (by simpa using rv) hw
def gSub(to ti:TE)(t:TSet):TG:=λv σ H Q=>to σ H λo H1=>ti σ H1 λi H2=>t o i v H2 λH3=>Q σ H3
theorem Hf(ho:PE X o to)(hi:PE X i ti)(hs:PSet X t)
  (ha:∀v,assign (.Subscript o i pos) X.env v=(do
   let ov ←holding [v] (eval o X.env)
   let iv ←holding [v,ov] (eval i X.env)
   standAt pos
   holding [v,ov,iv] (setItem ov iv v)
   release [v,ov,iv] []):=by intro _;rfl):PG X (.Subscript o i pos) (gSub to ti t):=by
 intro pins s σ H v u Q I r h
 rw[ha]
 refine AA0 (AAp (thn (ho pins s σ H _ I h) λov s1 ⟨x,H1,I1,r1,q1⟩=>?_))
 refine AA0 (AAp (thn (hi pins s1 σ H1 _ I1 q1) λiv s2 ⟨y,H2,I2,r2,q2⟩=>?_))
 refine AA0 (wpAny_standAt (AA0 (AAp (thn (hs pins s2 σ H2 x y v ov iv u _ I2 r1 r2 r q2) λ_ s3 ⟨H3,I3,q3⟩=>?_))))
 exact wpAny_release ⟨σ,H3,I3,q3⟩
def tAsg(te:TE)(g:TG):TS:=λD σ H=>te σ H λx H1=>g x σ H1 D.nx
theorem Hb(he:PE X e te)(hg:PG X tg g)(hs:swapsWithSole [tg] e pos.line X.env=pure false:=by rfl)(hw:swappedStores [tg] e X.env=pure none:=by rfl)
  (h1:(assignEach [tg] X.env).map (·.2)=[assign tg X.env]:=by rfl):PS X (.Assign [tg] e pos) (tAsg te g):=by
 intro pins s σ H D I h
 refine wpAny_Assign_stores (thn (he pins s σ H _ I h) λv s1 ⟨x,H1,I1,r1,q1⟩=>?_) hs hw
 rw[h1]
 exact thn (hg pins s1 σ H1 x v _ I1 r1 q1) λ_ s2 q=>q
theorem GY(hN:X.N.Nodup)(hi:X.N[i]?=some x)(hx:Loc X.env.scope x)(he:PE X e te)(hs:swapsWith e (some (.Name x pos')) pos.line X.env=pure false:=by rfl)(hf:X.fn x=true\/X.env.scope.names.lookup x=some .local:=by first | exact .inl rfl | exact .inr rfl | assumption) :
  PS X (.Assign [.Name x pos'] e pos) (tAsg te (Jd i)):=by
 intro pins s σ H D I h
 refine wpAny_Assign_Name (thn (he pins s σ H _ I h) λv s1 ⟨y,H1,I1,r1,q1⟩=>?_) hs
 exact uA I1 hN hi hx r1 (λs2 I2=>⟨_,H1,I2,q1⟩) hf
end
section
variable{X:Cx}{pos:Pos}
end
structure It where
 go:Nat->Hp->Prop
 yld:Nat->Hp->V->Hp->Prop
 stop:Nat->Hp->Prop
def vn(X:Cx)(pins:List (Addr×Obj))(H:Hp)(b:Addr):Prop :=
 H b=none/\b≠X.env.locals/\b∉X.fs/\(b∈X.ex\/X.s₀.heap.objs.size<=b)/\(∀x c,X.env.cells.lookup x=some c->c≠b)/\∀p∈X.pn++pins,p.1≠b
theorem Inv.fpOk(I:Inv X pins σ H s)(hb:s.heap.objs.size<=b)(hn:H' b=none):vn X pins H' b:=by
 refine⟨hn,ABU (AAd I.lt hb),I.nofs hb,.inr (ABT I.sz hb),λx c e z=>?_,λp hp z=>?_⟩
 ·obtain⟨v,q⟩:=I.cell x c e
  exact absurd (AAd q.lt (by rw[z];exact hb)) (AAq _)
 ·exact absurd (AAd (AAG (I.pin p hp).1) (by rw[z];exact hb)) (AAq _)
structure Turn(P:Program)(w:World)(K:AA5)(tg:Expr)(J:It)(fp:List Addr)(it:Addr)(tn:Nat->Heap->Prop):Prop where
 mem:it∈fp
 obj:∀i h,tn i h->∀b∈fp,∃o,h.get? b=some o/\∀v,o.data≠.cell v
 keep:∀i h h',tn i h->(∀b∈fp,∀o,h.get? b=some o->h'.get? b=some o)->tn i h'
 item:∀(X:Cx),X.prog=P->X.w=w->X.K=K->X.calm=true->∀(i:Nat) (pins:List (Addr×Obj)) (s:Shared) (σ:St) (H:Hp) (E:Value->Shared->Prop),Inv X pins σ H s->(∀b∈fp,vn X pins H b)->tn i s.heap->J.go i H ->
  wpAny (model P w) X.A (pyNext (.ref it)) (λr s1=>∃u,r=some u /\
   wpAny (model P w) X.A (letOwnedTupleGo tg (.ref it) u) (λ_ s2=>∃x H',Inv X pins σ H' s2/\aK x u/\J.yld i H x H'/\tn (i+1) s2.heap/\∀b∈fp,H' b=none) E s1) E s
 done:∀(X:Cx),X.prog=P->X.w=w->X.K=K->X.calm=true->∀(i:Nat) (pins:List (Addr×Obj)) (s:Shared) (σ:St) (H:Hp) (E:Value->Shared->Prop),Inv X pins σ H s->(∀b∈fp,vn X pins H b)->tn i s.heap->J.stop i H ->
  wpAny (model P w) X.A (pyNext (.ref it)) (λr s1=>r=none/\Inv X pins σ H s1) E s
 self:∀(A:Around) (i:Nat) (s:Shared) (Q:Value->Shared->Prop) (E:Value->Shared->Prop),tn i s.heap->Q (.ref it) s->wpAny (model P w) A (pyIter (.ref it)) Q E s
abbrev TI:=St->Hp->(It->Hp->Prop)->Prop
inductive PIE(X:Cx)(pins:List (Addr×Obj))(σ:St)(tg:Expr)(R:It->Hp->Prop)(itv:Value)(s2:Shared):Prop
 | mk (it:Addr) (fp:List Addr) (tn:Nat->Heap->Prop) (J:It) (H':Hp) (f0:itv=.ref it) (f1:Inv X pins σ H' s2) (f2:Turn X.prog X.w X.K tg J fp it tn) (f3:tn 0 s2.heap) (f4:(∀b∈fp,vn X pins H' b)) (f5:R J H')
def PI(X:Cx)(tg iter:Expr)(wi:TI):Prop :=
 ∀(pins:List (Addr×Obj)) (s:Shared) (σ:St) (H:Hp) (R:It->Hp->Prop),Inv X pins σ H s->wi σ H R ->
  wpAny (model X.prog X.w) X.A (eval iter X.env) (λv s1=>wpAny (model X.prog X.w) X.A (pyIter v) (PIE X pins σ tg R) X.xe s1) X.xe s
theorem BW(ho:s.heap.get? it=some o)(hc:o.cls=.type n)(hd:o.data=.fields vs)
  (hn:["enumerate","zip","dict_itemiterator","dict_reverseitemiterator","odict_iterator","itertools.zip_longest","itertools.pairwise"].contains n=false) (hQ:Q () s):wpAny M A (letOwnedTupleGo tg (.ref it) u) Q E s:=by
 unfold letOwnedTupleGo
 cases tg<;>first
  | exact AA3 hQ
  | (cases u<;>first
    | exact AA3 hQ
    | (refine AA0 (wpAny_load ho ?_);rw[hc,hd];show wpAny M A (if (["enumerate","zip","dict_itemiterator","dict_reverseitemiterator","odict_iterator","itertools.zip_longest","itertools.pairwise"].contains n&&vs[0]?==some (rawInt _))=true then _ else _) Q E s;rw[if_neg (by intro h;rw[hn,AAw]at h;cases h)];exact AA3 hQ))
def Itl(K:AA5)(a:Addr):It :=
 ⟨λi H=>∃xs x,SqL K H a xs/\xs[i]?=some x,λi H x H'=>H'=H/\∀xs,SqL K H a xs->xs[i]?=some x,λi H=>∃xs,SqL K H a xs/\xs.length<=i⟩
def Itt(K:AA5)(a:Addr):It :=
 ⟨λi H=>∃xs x,SqT K H a xs/\xs[i]?=some x,λi H x H'=>H'=H/\∀xs,SqT K H a xs->xs[i]?=some x,λi H=>∃xs,SqT K H a xs/\xs.length<=i⟩
def Itr(lo:Int)(n:Nat):It:=⟨λi _=>i<n,λi H x H'=>H'=H/\x=.int (lo+i),λi _=>n<=i⟩
theorem wV{P:Program}{w:World}{K:AA5}{tg:Expr}(a it:Addr):Turn P w K tg (Itl K a) [it] it (λi h=>h.IsListIter it a i) where
 mem:=by simp
 obj:=λi h st b hb=>by
  have e:b=it:=by simpa using hb
  subst e
  obtain⟨o,e,c,d⟩:=st
  exact⟨o,e,λv z=>by rw[d]at z;cases z⟩
 keep:=λi h h' st k=>st.at λo e=>k it (by simp) o e
 item:=by
  intro X hP hw hK hc i pins s σ H E I hf st hg
  subst hP hw hK
  obtain⟨xs,x,hq,hx⟩:=hg
  obtain⟨its,rv,p,hz⟩:=I.list hq
  obtain⟨u,hu,ru⟩:=rv.get hx
  obtain⟨f0,f1,f2,f3,f4,f5⟩:=hf it (by simp)
  refine wpAny_pyNext_list_item st p.isList (x:=u) (by simpa using hu) λh' st' sb=>?_
  have I1:Inv X pins σ H { s with heap:=h' }:=I.turned (t':=s.toks) (λb o hb e=>(sb.2 b hb).trans e) f0 f1 f3 f4 f5
  obtain⟨o,e,c,d⟩:=id st'
  exact⟨u,rfl,BW (s:={ s with heap:=h' }) e c d (by decide) ⟨x,H,I1,ru,⟨rfl,λys hy=>by rw[I.list_inj hy hq];exact hx⟩,st',λb hb=>(hf b hb).1⟩⟩
 done:=by
  intro X hP hw hK hc i pins s σ H E I hf st hg
  subst hP hw hK
  obtain⟨xs,hq,hx⟩:=hg
  obtain⟨its,rv,p,hz⟩:=I.list hq
  obtain⟨f0,f1,f2,f3,f4,f5⟩:=hf it (by simp)
  have hl:=rv.length
  exact wpAny_pyNext_list_end (I.ok.hd hc) st p.isList (by simp;lia) λh' eb=>⟨rfl,I.turned (t':=s.toks) (λb o hb e=>eb b o hb e) f0 f1 f3 f4 f5⟩
 self:=λ_ _ _ _ _ st h=>wpAny_pyIter_listiter st h
theorem vL{P:Program}{w:World}{K:AA5}{tg:Expr}(a it:Addr):Turn P w K tg (Itt K a) [it] it (λi h=>h.IsTupleIter it a i) where
 mem:=by simp
 obj:=λi h st b hb=>by
  have e:b=it:=by simpa using hb
  subst e
  obtain⟨o,e,c,d⟩:=st
  exact⟨o,e,λv z=>by rw[d]at z;cases z⟩
 keep:=λi h h' st k=>st.at λo e=>k it (by simp) o e
 item:=by
  intro X hP hw hK hc i pins s σ H E I hf st hg
  subst hP hw hK
  obtain⟨xs,x,hq,hx⟩:=hg
  obtain⟨its,rv,p,hz⟩:=I.tuple hq
  obtain⟨u,hu,ru⟩:=rv.get hx
  obtain⟨f0,f1,f2,f3,f4,f5⟩:=hf it (by simp)
  refine wpAny_pyNext_tuple_item st (show s.heap.IsTuple a its.toArray from p) (x:=u) (by simpa using hu) λh' st' sb=>?_
  have I1:Inv X pins σ H { s with heap:=h' }:=I.turned (t':=s.toks) (λb o hb e=>(sb.2 b hb).trans e) f0 f1 f3 f4 f5
  obtain⟨o,e,c,d⟩:=id st'
  exact⟨u,rfl,BW (s:={ s with heap:=h' }) e c d (by decide) ⟨x,H,I1,ru,⟨rfl,λys hy=>by rw[I.tuple_inj hy hq];exact hx⟩,st',λb hb=>(hf b hb).1⟩⟩
 done:=by
  intro X hP hw hK hc i pins s σ H E I hf st hg
  subst hP hw hK
  obtain⟨xs,hq,hx⟩:=hg
  obtain⟨its,rv,p,hz⟩:=I.tuple hq
  obtain⟨f0,f1,f2,f3,f4,f5⟩:=hf it (by simp)
  have hl:=rv.length
  exact wpAny_pyNext_tuple_end (I.ok.hd hc) st (show s.heap.IsTuple a its.toArray from p) (by simp;lia) λh' eb=>⟨rfl,I.turned (t':=s.toks) (λb o hb e=>eb b o hb e) f0 f1 f3 f4 f5⟩
 self:=λ_ _ _ _ _ st h=>wpAny_pyIter_tupleiter st h
theorem vM{P:Program}{w:World}{K:AA5}{tg:Expr}(it:Addr)(lo:Int)(n:Nat):Turn P w K tg (Itr lo n) [it] it (λi h=>IsRangeIter h it (lo+(i:Nat)*1) ((n:Int)-(i:Nat)) 1) where
 mem:=by simp
 obj:=λi h st b hb=>by
  have e:b=it:=by simpa using hb
  subst e
  exact⟨_,st,λv z=>by
   have z':Data.fields _=Data.cell v:=z
   cases z'⟩
 keep:=λi h h' st k=>k it (by simp) _ st
 item:=by
  intro X hP hw hK hc i pins s σ H E I hf st hg
  subst hP hw hK
  obtain⟨f0,f1,f2,f3,f4,f5⟩:=hf it (by simp)
  have W:=Walks.range (prog:=X.prog) (w:=X.w) (I.ok.hd hc) it lo 1 n
  refine W.item i s _ _ hg st λv h' tk hv st' kk=>?_
  obtain⟨t,rfl⟩:=hv
  have I1:Inv X pins σ H { s with heap:=h',toks:=tk }:=I.turned (λb o hb e=>kk b o (by simpa using hb) e) f0 f1 f3 f4 f5
  refine⟨_,rfl,BW (s:={ s with heap:=h',toks:=tk }) (n:="range_iterator") st' rfl rfl (by decide) ⟨.int (lo+i),H,I1,⟨t,?_⟩,⟨rfl,rfl⟩,st',λb hb=>(hf b hb).1⟩⟩
  rw[Int.mul_one]
 done:=by
  intro X hP hw hK hc i pins s σ H E I hf st hg
  subst hP hw hK
  obtain⟨f0,f1,f2,f3,f4,f5⟩:=hf it (by simp)
  exact wpAny_pyNext_range_end (I.ok.hd hc) st (by have:n<=i:=hg;lia) λh' eb=>⟨rfl,I.turned (t':=s.toks) (λb o hb e=>eb b o hb e) f0 f1 f3 f4 f5⟩
 self:=λ_ _ _ _ _ st h=>wpAny_pyIter_rangeiter st h
end L2
namespace L2
open PySem PySem.Spec PyProof.Rows
section
variable{X:Cx}{tg:Expr}
theorem uF{pins:List (Addr×Obj)}{σ:St}{H:Hp}{s:Shared}{R:It->Hp->Prop}{E:Value->Shared->Prop}{lo hi:Int}{t u v:Tok}{tk:Nat}(I:Inv X pins σ H s)(h1:-(2 ^ 62)<=lo)(h2:lo<2 ^ 62)(h3:-(2 ^ 62)<=hi)(h4:hi<2 ^ 62)
  (q:R (Itr lo (hi-lo).toNat) H):wpAny (model X.prog X.w) X.A (pyIter (.ref s.heap.objs.size)) (PIE X pins σ tg R) E { s with heap:=s.heap.push { cls:=.type "range",data:=.fields #[.int lo t,.int hi u,.int 1 v] },toks:=tk }:=by
 refine wpAny_pyIter_range (IsRange.new ..) (small_one h1 h2 h3 h4) ?_
 have I1:Inv X pins σ H { s with heap:=s.heap.push { cls:=.type "range",data:=.fields #[.int lo t,.int hi u,.int 1 v] },toks:=tk }:=I.kept λb o e=>AA4 _ e
 refine⟨(s.heap.push { cls:=.type "range",data:=.fields #[.int lo t,.int hi u,.int 1 v] }).objs.size,[(s.heap.push { cls:=.type "range",data:=.fields #[.int lo t,.int hi u,.int 1 v] }).objs.size],_,_,H,rfl,
  I1.kept (t':=tk) λb o e=>AA4 _ e,vM _ lo (hi-lo).toNat,?_,λb hb=>?_,q⟩
 ·have e1:lo+((0:Nat):Int)*1=lo:=by simp
  have e2:(((hi-lo).toNat:Nat):Int)-((0:Nat):Int)=Builtin.Range.rangeSize lo hi 1:=by rw[rangeSize_one];split<;>lia
  show IsRangeIter _ _ (lo+((0:Nat):Int)*1) ((((hi-lo).toNat:Nat):Int)-((0:Nat):Int)) 1
  rw[e1,e2]
  exact AAE _ rfl
 ·have e:b=(s.heap.push { cls:=.type "range",data:=.fields #[.int lo t,.int hi u,.int 1 v] }).objs.size:=by simpa using hb
  subst e
  exact I1.fpOk (AAD _) (I1.hok.fresh (AAD _))
def iRng1(ta:TA):TI:=λσ H R=>ta σ H λvs H1=>∃j:Int,vs=[.int j]/\-(2 ^ 62)<=j/\j<2 ^ 62/\R (Itr 0 j.toNat) H1
def iRng2(ta:TA):TI:=λσ H R=>ta σ H λvs H1=>∃i j:Int,vs=[.int i,.int j]/\(-(2 ^ 62)<=i/\i<2 ^ 62/\-(2 ^ 62)<=j/\j<2 ^ 62)/\R (Itr i (j-i).toNat) H1
theorem yd{a:Expr}{ta:TA}{p pos:Pos}(hg:Gl X "range")(hm:X.mg "range" = none)(ha:PA X [a] ta)(hs:starEach [a] X.env=[(false,eval a X.env)]:=by rfl):PI X tg (.Call (.Name "range" p) [a] [] pos) (iRng1 ta):=by
 intro pins s σ H R I h
 refine Call_ (gF I hg hm boot_range (ACB (thn (ha pos pins s σ H _ I h) λus s1 ⟨vs,H1,I1,r1,q1⟩=>?_) hs rfl))
 obtain⟨j,e,q1,q2,q⟩:=q1
 subst e
 cases r1 with
 | cons r rr =>
  cases rr
  obtain⟨t,rfl⟩:=r
  exact call_range_1 (uF I1 (by lia) (by lia) q1 q2 (by simpa using q))
theorem yc(hg:Gl X "range")(hm:X.mg "range" = none)(ha:PA X [a,b] ta)(hs:starEach [a,b] X.env=[(false,eval a X.env),(false,eval b X.env)]:=by rfl)(hs2:starEach [b] X.env=[(false,eval b X.env)]:=by rfl) :
  PI X tg (.Call (.Name "range" p) [a,b] [] pos) (iRng2 ta):=by
 intro pins s σ H R I h
 refine Call_ (gF I hg hm boot_range (ACB (thn (ha pos pins s σ H _ I h) λus s1 ⟨vs,H1,I1,r1,q1⟩=>?_) (by rw[hs,hs2]) (by rw[hs2];rfl)))
 obtain⟨i,j,e,⟨q1,q2,q3,q4⟩,q⟩:=q1
 subst e
 cases r1 with
 | cons r rr =>
  cases rr with
  | cons r' rr =>
   cases rr
   obtain⟨t,rfl⟩:=r
   obtain⟨t',rfl⟩:=r'
   exact call_range_2 (uF I1 q1 q2 q3 q4 q)
def tFor(wi:TI)(g:TG)(tb:TS):TS:=λD σ H=>wi σ H λJ H1=>∃W:Nat->Nat->St->Hp->Prop,(∃m,W 0 m σ H1)/\∀i m σ H,W i m σ H ->
 (J.stop i H/\D.nx σ H)\/(J.go i H/\∃N:St->Hp->Prop,(∀σ' H',N σ' H'->∃m',m' < m/\W (i+1) m' σ' H')/\∀x H',J.yld i H x H'->g x σ H' λσ2 H2=>tb { D with nx:=N,ct:=N,bk:=D.nx } σ2 H2)
def gs(fp:List Addr)(h:Heap):List (Addr×Obj):=fp.filterMap λb=>(h.get? b).map λo=>(b,o)
theorem eL(hb:b∈fp)(e:h.get? b=some o):(b,o)∈gs fp h:=List.mem_filterMap.mpr ⟨b,hb,by rw[e];rfl⟩
theorem qA(hp:p∈gs fp h):p.1∈fp/\h.get? p.1=some p.2:=by
 obtain⟨b,hb,e⟩:=List.mem_filterMap.mp hp
 cases q:h.get? b with
 | none=>rw[q]at e;cases e
 | some o =>
  rw[q]at e
  have e':(b,o)=p:=AAR e
  subst e'
  exact⟨hb,q⟩
theorem Inv.pinned(I:Inv X pins σ H s)(hf:∀b∈fp,vn X pins H b)(ho:∀b∈fp,∃o,s.heap.get? b=some o/\∀v,o.data≠.cell v):Inv X (pins++gs fp s.heap) σ H s :=
 I.pins_of λp hp=>(AAl.mp hp).elim (λz=>I.pin p (AAc _ z)) λz=>by
  obtain⟨hb,e⟩:=qA z
  obtain⟨f0,f1,f2,_⟩:=hf p.1 hb
  obtain⟨o,e',d⟩:=ho p.1 hb
  rw[e]at e';cases e'
  exact⟨e,f0,f1,f2,d⟩
theorem Inv.unpinned(I:Inv X (pins++pl) σ H s):Inv X pins σ H s:=I.pins_of λp hp=>I.pin p (AAc _ (ACY _ hp))
theorem Ha(hp:PassesOwn (model X.prog X.w) X.A X.env X.xe)(hc:X.calm=true)(hi:PI X tg iter wi)(hg:PG X tg g)(hb:PSs X body tb)
  (hs:∀x,foldedSetIterable iter X.env x=pure x:=by intro _;rfl):PS X (.For tg iter body [] pos) (tFor wi g tb):=by
 intro pins s σ H D I h
 refine wpAny_For (thn (hi pins s σ H _ I h) λv s1 h1=>thn h1 λitv s2 h2=>?_) hs
 obtain⟨it,fp,tn,J,H2,e,I2,T,st2,f2,W,⟨m0,w0⟩,turn⟩:=h2
 subst e
 -- what stays true of the iterator's objects through the loop
 have stat:∀{H':Hp},(∀b∈fp,H' b=none)->∀b∈fp,vn X pins H' b:=λhn b hb=>⟨hn b hb,(f2 b hb).2⟩
 refine codeAny_forLoop_any (λn s'=>∃i σ' H',Inv X pins σ' H' s'/\tn i s'.heap/\(∀b∈fp,H' b=none)/\W i n σ' H') ?_ m0 ⟨0,σ,H2,I2,st2,λb hb=>(f2 b hb).1,w0⟩
 rintro n s3 ⟨i,σ3,H3,I3,st3,fr3,w3⟩
 rcases turn i n σ3 H3 w3 with⟨stop,qn⟩|⟨go,N,hN,step⟩
 ·refine ADV hp (thn (T.done X rfl rfl rfl hc i pins s3 σ3 H3 X.xe I3 (stat fr3) st3 stop) λr s4 ⟨hr,I4⟩=>?_)
  subst hr
  exact wpAny_execs_nil ⟨σ3,H3,I4,qn⟩
 ·refine ADV hp (thn (T.item X rfl rfl rfl hc i pins s3 σ3 H3 X.xe I3 (stat fr3) st3 go) λr s4 ⟨u,hr,h4⟩=>?_)
  subst hr
  refine ADV hp (thn h4 λ_ s5 ⟨x,H5,I5,r5,y5,st5,fr5⟩=>?_)
  have I5':=I5.pinned (stat fr5) (T.obj _ _ st5)
  refine ADV hp (thn (hg _ s5 σ3 H5 x u _ I5' r5 (step x H5 y5)) λ_ s6 ⟨σ6,H6,I6,q6⟩=>?_)
  refine ADV hp (thn (hb _ s6 σ6 H6 _ I6 q6) λf s7 q7=>?_)
  have again:∀{σ7:St}{H7:Hp},Inv X (pins++gs fp s5.heap) σ7 H7 s7->N σ7 H7->∃m,m<n/\∃i σ' H',Inv X pins σ' H' s7/\tn i s7.heap/\(∀b∈fp,H' b=none)/\W i m σ' H':=λ{σ7 H7} I7 n7=>by
   obtain⟨m',hm,w7⟩:=hN σ7 H7 n7
   refine⟨m',hm,i+1,σ7,H7,I7.unpinned,T.keep _ _ _ st5 λb hb o e=>(I7.pin (b,o) (AAc _ (AAc _ (eL hb e)))).1,λb hb=>?_,w7⟩
   obtain⟨o,e,d⟩:=T.obj _ _ st5 b hb
   exact(I7.pin (b,o) (AAc _ (AAc _ (eL hb e)))).2.1
  cases f with
  | next=>obtain⟨σ7,H7,I7,n7⟩:=q7;exact again I7 n7
  | cont=>obtain⟨σ7,H7,I7,n7⟩:=q7;exact again I7 n7
  | brk=>obtain⟨σ7,H7,I7,q7⟩:=q7;exact⟨σ7,H7,I7.unpinned,q7⟩
  | ret v=>obtain⟨x7,σ7,H7,I7,r7,q7⟩:=q7;exact⟨x7,σ7,H7,I7.unpinned,r7,q7⟩
end
end L2
namespace L2
open PySem PySem.Spec PyProof.Rows
abbrev R2:=V->V->Hp->VK->Prop
def OpR(X:Cx)(f:Value->Value->Sem Value)(r:R2):Prop :=
 ∀(pins:List (Addr×Obj)) (s:Shared) (σ:St) (H:Hp) (x y:V) (v u:Value) (Q:VK),Inv X pins σ H s->aK x v->aK y u->r x y H Q ->
  wpAny (model X.prog X.w) X.A (f v u) (EP X pins σ Q) X.xe s
def UnR(X:Cx)(f:Value->Sem Value)(r:V->Hp->VK->Prop):Prop :=
 ∀(pins:List (Addr×Obj)) (s:Shared) (σ:St) (H:Hp) (x:V) (v:Value) (Q:VK),Inv X pins σ H s->aK x v->r x H Q ->
  wpAny (model X.prog X.w) X.A (f v) (EP X pins σ Q) X.xe s
def dz(X:Cx)(f:Value)(r:List V->Hp->VK->Prop):Prop :=
 ∀(pins:List (Addr×Obj)) (s:Shared) (σ:St) (H:Hp) (xs:List V) (us:List Value) (Q:VK),Inv X pins σ H s->ax xs us->r xs H Q ->
  wpAny (model X.prog X.w) X.A (call f us) (EP X pins σ Q) X.xe s
def tOp(r:R2)(ta tb:TE):TE:=λσ H Q=>ta σ H λx H1=>tb σ H1 λy H2=>r x y H2 Q
def tUn(r:V->Hp->VK->Prop)(ta:TE):TE:=λσ H Q=>ta σ H λx H1=>r x H1 Q
def rI(C:Int->Int->Prop)(g:Int->Int->V):R2:=λx y H Q=>∃i j,x=.int i/\y=.int j/\C i j/\Q (g i j) H
def rI0(g:Int->Int->V):R2:=λx y H Q=>∃i j,x=.int i/\y=.int j/\Q (g i j) H
def rU(g:Int->V):V->Hp->VK->Prop:=λx H Q=>∃i,x=.int i/\Q (g i) H
section
variable{X:Cx}{a b c:Expr}{ta tb tc:TE}{pos:Pos}
theorem binT(ha:PE X a ta)(hb:PE X b tb){pins:List (Addr×Obj)}{s:Shared}{σ:St}{H:Hp}{R:V->V->Hp->Prop}(I:Inv X pins σ H s)
  (h:ta σ H λx H1=>tb σ H1 λy H2=>R x y H2) {Q:Value->Shared->Prop}{f:Value->Value->Sem Value}
  (hf:∀v u s2 x y H2,Inv X pins σ H2 s2->aK x v->aK y u->R x y H2->wpAny (model X.prog X.w) X.A (f v u) Q X.xe s2) :
  wpAny (model X.prog X.w) X.A (eval a X.env) (λv s₁=>wpAny (model X.prog X.w) X.A (eval b X.env) (λu s₂=>wpAny (model X.prog X.w) X.A (f v u) Q X.xe s₂) X.xe s₁) X.xe s:=by
 refine thn (ha pins s σ H _ I h) λv s1 ⟨x,H1,I1,r1,q1⟩=>?_
 refine thn (hb pins s1 σ H1 _ I1 q1) λu s2 ⟨y,H2,I2,r2,q2⟩=>?_
 exact hf v u s2 x y H2 I2 r1 r2 q2
theorem pe_op{op:Operator}{r:R2}(ho:OpR X (binaryOp op) r)(ha:PE X a ta)(hb:PE X b tb):PE X (.BinOp a op b pos) (tOp r ta tb):=by
 intro pins s σ H Q I h
 exact wpAny_BinOp (binT ha hb I h λv u s2 x y H2 I2 rx ry q=>ho pins s2 σ H2 x y v u Q I2 rx ry q)
theorem pe_un(ho:UnR X (unaryOp op) r)(ha:PE X a ta):PE X (.UnaryOp op a pos) (tUn r ta):=by
 intro pins s σ H Q I h
 exact UnaryOp_ (thn (ha pins s σ H _ I h) λv s1 ⟨x,H1,I1,r1,q1⟩=>ho pins s1 σ H1 x v Q I1 r1 q1)
theorem opI{f:Value->Value->Sem Value}{C:Int->Int->Prop}{g:Int->Int->Int}
  (rule:∀(i j:Int) (t u:Tok) (s:Shared) (Q:Value->Shared->Prop) (E:Value->Shared->Prop),C i j->Q (.int (g i j) s.toks) { s with toks:=s.toks+1 }->wpAny (model X.prog X.w) X.A (f (.int i t) (.int j u)) Q E s) :
  OpR X f (rI C λi j=>.int (g i j)):=by
 intro pins s σ H x y v u Q I rx ry h
 obtain⟨i,j,rfl,rfl,hc,q⟩:=h
 obtain⟨t,rfl⟩:=rx
 obtain⟨t',rfl⟩:=ry
 exact rule i j t t' s _ _ hc ⟨.int (g i j),H,I.tok _,⟨_,rfl⟩,q⟩
theorem opI0{f:Value->Value->Sem Value}{g:Int->Int->Int}
  (rule:∀(i j:Int) (t u:Tok) (s:Shared) (Q:Value->Shared->Prop) (E:Value->Shared->Prop),Q (.int (g i j) s.toks) { s with toks:=s.toks+1 }->wpAny (model X.prog X.w) X.A (f (.int i t) (.int j u)) Q E s) :
  OpR X f (rI0 λi j=>.int (g i j)):=by
 intro pins s σ H x y v u Q I rx ry h
 obtain⟨i,j,rfl,rfl,q⟩:=h
 obtain⟨t,rfl⟩:=rx
 obtain⟨t',rfl⟩:=ry
 exact rule i j t t' s _ _ ⟨.int (g i j),H,I.tok _,⟨_,rfl⟩,q⟩
theorem opB0{f:Value->Value->Sem Value}{g:Int->Int->Bool}
  (rule:∀(i j:Int) (t u:Tok) (s:Shared) (Q:Value->Shared->Prop) (E:Value->Shared->Prop),Q (.bool (g i j)) s->wpAny (model X.prog X.w) X.A (f (.int i t) (.int j u)) Q E s) :
  OpR X f (rI0 λi j=>.bl (g i j)):=by
 intro pins s σ H x y v u Q I rx ry h
 obtain⟨i,j,rfl,rfl,q⟩:=h
 obtain⟨t,rfl⟩:=rx
 obtain⟨t',rfl⟩:=ry
 exact rule i j t t' s _ _ ⟨.bl (g i j),H,I,rfl,q⟩
def Gq(i j:Int):Prop:=0<=j/\j<=1000000/\i.natAbs<2 ^ 64
def CMul(i j:Int):Prop:=(-(2 ^ 64)<i/\i<2 ^ 64)\/(-(2 ^ 64)<j/\j<2 ^ 64)
theorem CMul.ok(h:CMul i j):IntMulOk i j:=by
 rcases h with⟨h1,h2⟩|⟨h1,h2⟩
 ·exact .of_left (intBits_le_64 h1 h2)
 ·exact .of_right (intBits_le_64 h1 h2)
theorem HH:OpR X (binaryOp .Add) (rI0 λi j=>.int (i+j)):=opI0 λ_ _ _ _ _ _ _ q=>add_int q
theorem Hw:OpR X (binaryOp .Sub) (rI0 λi j=>.int (i-j)):=opI0 λ_ _ _ _ _ _ _ q=>sub_int q
theorem Hz:OpR X (binaryOp .Mult) (rI CMul λi j=>.int (i*j)):=opI λ_ _ _ _ _ _ _ hc q=>mul_int q hc.ok
theorem HD:OpR X (binaryOp .Mod) (rI (λ_ j=>0<j) λi j=>.int (i % j)):=opI λi j _ _ _ _ _ hc q=>by
 have h1:(0:Int)<j:=hc
 exact mod_int' (by lia) (by rw[Int.fmod_eq_emod_of_nonneg i (by lia)];exact q)
theorem Hy:OpR X (binaryOp .Pow) (rI Gq λi j=>.int (i ^ j.toNat)):=opI λ_ _ _ _ _ _ _ hc q=>pow_int_small hc.1 hc.2.1 hc.2.2 q
theorem unI{f:Value->Sem Value}{g:Int->Int}
  (rule:∀(i:Int) (t:Tok) (s:Shared) (Q:Value->Shared->Prop) (E:Value->Shared->Prop),Q (.int (g i) s.toks) { s with toks:=s.toks+1 }->wpAny (model X.prog X.w) X.A (f (.int i t)) Q E s) :
  UnR X f (rU λi=>.int (g i)):=by
 intro pins s σ H x v Q I rx h
 obtain⟨i,rfl,q⟩:=h
 obtain⟨t,rfl⟩:=rx
 exact rule i t s _ _ ⟨.int (g i),H,I.tok _,⟨_,rfl⟩,q⟩
theorem Gw:UnR X (unaryOp .USub) (rU λi=>.int (-i)):=unI λ_ _ _ _ _ q=>neg_int q
end
section
variable{X:Cx}{a b c:Expr}{ta tb tc:TE}{pos:Pos}
theorem op_lt:OpR X (compareOp .Lt) (rI0 λi j=>.bl (decide (i<j))):=opB0 λ_ _ _ _ _ _ _ q=>lt_int q
theorem op_le:OpR X (compareOp .LtE) (rI0 λi j=>.bl (decide (i<=j))):=opB0 λ_ _ _ _ _ _ _ q=>le_int q
theorem op_gt:OpR X (compareOp .Gt) (rI0 λi j=>.bl (decide (j<i))):=opB0 λ_ _ _ _ _ _ _ q=>gt_int q
theorem op_ge:OpR X (compareOp .GtE) (rI0 λi j=>.bl (decide (j<=i))):=opB0 λ_ _ _ _ _ _ _ q=>ge_int q
theorem OpR.or(h:OpR X f r)(h':OpR X f r'):OpR X f (λx y H Q=>r x y H Q\/r' x y H Q):=by
 intro pins s σ H x y v u Q I rx ry q
 rcases q with q | q
 ·exact h pins s σ H x y v u Q I rx ry q
 ·exact h' pins s σ H x y v u Q I rx ry q
theorem Ee(ho:OpR X (compareOp op) r)(ha:PE X a ta)(hb:PE X b tb)(hm:behindInMarks op b=false):PE X (.Compare a [op] [b] pos) (tOp r ta tb):=by
 intro pins s σ H Q I h
 exact wpAny_Compare1 (binT ha hb I h λv u s2 x y H2 I2 rx ry q=>ho pins s2 σ H2 x y v u Q I2 rx ry q) hm
def Dw(t:TE):TT:=λσ H Q=>t σ H λx H'=>∃k,x=.bl k/\Q k H'
theorem xY(ho:OpR X (compareOp op) r)(ha:PE X a ta)(hb:PE X b tb)(hm:behindInMarks op b=false):PT X (.Compare a [op] [b] pos) (Dw (tOp r ta tb)):=by
 intro pins s σ H Q I h
 refine wpAny_isTrue_Compare1 (thn (ha pins s σ H _ I h) λv s1 ⟨x,H1,I1,r1,q1⟩=>thn (hb pins s1 σ H1 _ I1 q1) λu s2 ⟨y,H2,I2,r2,q2⟩ =>
  thn (ho pins s2 σ H2 x y v u _ I2 r1 r2 q2) λc s3 ⟨z,H3,I3,r3,k,e,q3⟩=>?_) hm
 subst e
 cases r3
 exact ABi ⟨H3,I3,q3⟩
def xC(r r':R2)(ta tb tc:TE):TE:=λσ H Q=>ta σ H λx H1=>tb σ H1 λy H2=>r x y H2 λz H3=>∃k,z=.bl k /\
 (if k=true then tc σ H3 λw' H4=>r' y w' H4 Q else Q (.bl false) H3)
theorem AZ(ho:OpR X (compareOp op) r)(ho':OpR X (compareOp op') r')(ha:PE X a ta)(hb:PE X b tb)(hc:PE X c tc)
  (hm:lastMarks [op,op'] [b,c]=false:=by with_unfolding_all rfl):PE X (.Compare a [op,op'] [b,c] pos) (xC r r' ta tb tc):=by
 intro pins s σ H Q I h
 refine Compare_chain (thn (ha pins s σ H _ I h) λv s1 ⟨x,H1,I1,r1,q1⟩=>chain_link (thn (hb pins s1 σ H1 _ I1 q1) λu s2 ⟨y,H2,I2,r2,q2⟩ =>
  thn (ho pins s2 σ H2 x y v u _ I2 r1 r2 q2) λd s3 ⟨z,H3,I3,r3,k,e,q3⟩=>?_)) hm
 subst e
 cases r3
 refine ABi ?_
 cases k with
 | false=>exact ite_ff ⟨.bl false,H3,I3,rfl,q3⟩
 | true=>exact ite_tt (chain_last (thn (hc pins s3 σ H3 _ I3 q3) λw' s4 ⟨z',H4,I4,r4,q4⟩=>ho' pins s4 σ H4 y z' u w' Q I4 r2 r4 q4))
theorem AS(ho:OpR X (compareOp op) r)(ho':OpR X (compareOp op') r')(ha:PE X a ta)(hb:PE X b tb)(hc:PE X c tc)
  (hm:lastMarks [op,op'] [b,c]=false:=by with_unfolding_all rfl):PT X (.Compare a [op,op'] [b,c] pos) (Dw (xC r r' ta tb tc)):=by
 intro pins s σ H Q I h
 refine isTrue_chain (thn (ha pins s σ H _ I h) λv s1 ⟨x,H1,I1,r1,q1⟩=>test_link (thn (hb pins s1 σ H1 _ I1 q1) λu s2 ⟨y,H2,I2,r2,q2⟩ =>
  thn (ho pins s2 σ H2 x y v u _ I2 r1 r2 q2) λd s3 ⟨z,H3,I3,r3,k,e,q3⟩=>?_)) hm
 subst e
 cases r3
 refine ABi ?_
 cases k with
 | false =>
  obtain⟨k',e',q'⟩:=q3
  cases e'
  exact ite_ff ⟨H3,I3,q'⟩
 | true =>
  refine ite_tt (test_last (thn (hc pins s3 σ H3 _ I3 q3) λw' s4 ⟨z',H4,I4,r4,q4⟩=>thn (ho' pins s4 σ H4 y z' u w' _ I4 r2 r4 q4) λd' s5 ⟨z2,H5,I5,r5,k2,e2,q5⟩=>?_))
  subst e2
  cases r5
  exact ABi ⟨H5,I5,q5⟩
theorem mJ:(sizeLine:Nat)<2 ^ 63:=by rw[ABl];decide
theorem vV:OpR X (binaryOp .Add) (λx y H Q=>∃i j,x=.str i/\y=.str j/\i.length+j.length<=sizeLine/\Q (.str (i++j)) H):=by
 intro pins s σ H x y v u Q I rx ry h
 obtain⟨i,j,rfl,rfl,hz,q⟩:=h
 obtain⟨t,rfl⟩:=rx
 obtain⟨t',rfl⟩:=ry
 exact add_str (λt' tk=>⟨.str (i++j),H,I.tok _,⟨_,rfl⟩,q⟩) hz
theorem wU(r:ax [x] us):∃u,us=[u]/\aK x u:=by
 cases r with
 | cons r1 r2=>cases r2;exact⟨_,rfl,r1⟩
theorem Cq:dz X (.builtin "ord") (λxs H Q=>∃x,xs=[.str x]/\x.length=1/\Q (.int (x.cps.getD 0 0:Nat)) H):=by
 intro pins s σ H xs us Q I r h
 obtain⟨x,rfl,hz,q⟩:=h
 obtain⟨u,rfl,t,rfl⟩:=wU r
 exact ord_of_one hz ⟨.int _,H,I.tok _,⟨_,rfl⟩,q⟩
end
end L2
namespace L2
open PySem PySem.Spec PyProof.Rows
structure ObjM(h:Heap)(x dx C:Addr)(mA:Str->Option Value):Prop where
 obj:h.get? x=some (PySem.W.instObj C dx)
 ns:h.Ns1 dx mA
 ne:dx≠x
section
variable{prog:Program}{w:World}{A:Around}{E:Value->Shared->Prop}{s:Shared}{K:AA5}{x dx C f:Addr}{mA:Str->Option Value}{name:Str}{v:Value}
end
section
variable{P:Program}{w:World}{H H':Hp}{h h':Heap}{a C dx:Addr}{fs fs':List (Str×V)}
end
structure Cls(K:AA5)(C:Addr):Prop where
 pg:PySem.W.plainGet K C Str.empty=true
 hd:PySem.W.hasDictIn K C=true
 po:PySem.W.plainOver K C=true
 sa:ADu K (.ref C) "__setattr__" = some (some (.builtin "object.__setattr__"))
structure Con(K:AA5)(C:Addr)(f:Str)(v:V)(u:Value):Prop where
 at_:ADu K (.ref C) f=some (some u)
 rel:aK v u
 get:PySem.W.specialIn K u "__get__" = some none
 cp:PySem.W.copiedNames.contains f=false
structure Meth(K:AA5)(C:Addr)(m:Str)(f:Addr):Prop where
 at_:ADu K (.ref C) m=some (some (.ref f))
 fn:PySem.W.isFn K (.ref f)=true
 kp:ACT K (.ref f)=true
section
variable{X:Cx}{pins:List (Addr×Obj)}{σ:St}{H:Hp}{s:Shared}{a C dx:Addr}{fs:List (Str×V)}{f:Str}{v:V}{A:Around}{E:Value->Shared->Prop}
end
section
variable{X:Cx}{o e value:Expr}{f:Str}{pos pos' tpos:Pos}{ta tv:TE}
end
section
variable{X:Cx}{pins:List (Addr×Obj)}{σ:St}{H:Hp}{s:Shared}{A:Around}{E:Value->Shared->Prop}{Q:Value->Shared->Prop}{c:Value}{b:Bool}
inductive TyOf(K:AA5)(H:Hp):V->Value->Prop where
 | non:TyOf K H .non (.type "NoneType")
 | bl (x:Bool):TyOf K H (.bl x) (.type "bool")
 | int (i:Int):TyOf K H (.int i) (.type "int")
 | str (x:Str):TyOf K H (.str x) (.type "str")
 | flt (x:UInt64):TyOf K H (.flt x) (.type "float")
 | lst {a:Addr}{xs:List V} (e:H a=some (.lst xs)):TyOf K H (.ref a) (.type "list")
 | frz {a:Addr}{o:Obj}{xs:List V} (e:H a=some (.frz o (.lst xs))):TyOf K H (.ref a) (.type "list")
 | tup {a:Addr}{xs:List V} (e:H a=some (.tup xs)):TyOf K H (.ref a) (.type "tuple")
 | dK {a:Addr}{kvs:List (Key×V)} (e:H a=some (.dK kvs)):TyOf K H (.ref a) (.type "dict")
 | dT {a:Addr}{kvs:List (List Key×V)} (e:H a=some (.dT kvs)):TyOf K H (.ref a) (.type "dict")
 | ins {a C dx:Addr}{fs:List (Str×V)} (e:H a=some (.ins C dx fs)) (cl:Cls K C) (ha:ADu K (.ref C) "__class__" = some (some (.builtin "object.__class__")))
   (hn:PySem.W.specialIn K (.builtin "object.__class__") "__get__" = some (some (.builtin "getset_descriptor.__get__"))) (htk:PySem.W.takesIn K (.builtin "object.__class__")=some true)
   (hm:PySem.W.mroIn K C (.type "object")=some true):TyOf K H (.ref a) (.ref C)
end
end L2
namespace L2
open PySem PySem.Spec PyProof.Rows
structure Room(k:Nat)(A:Around):Prop where
 hd:A.handled=none
 dp:A.depth+3*k+5<recursionLimit
 un:A.units+16*k+200<cLine
theorem Room.mono(r:Room k A)(h:j<=k):Room j A:=⟨r.hd,by have:=r.dp;lia,by have:=r.un;lia⟩
theorem Room.deeper(r:Room (k+1) A)(env:Env):Room k (A.deeper env) :=
 ⟨r.hd,by have:=r.dp;show A.depth+1+3*k+5<_;lia,by have:=r.un;show A.units+3+16*k+200<_;lia⟩
theorem Room.depth(r:Room k A):A.depth<recursionLimit:=by have:=r.dp;lia
def tNil:TA:=λ_ H Q=>Q [] H
def tCons(ta:TE)(tr:TA):TA:=λσ H Q=>ta σ H λx H1=>tr σ H1 λxs H2=>Q (x::xs) H2
section
variable{X:Cx}{e:Expr}{es:List Expr}{te:TE}{t:TA}{pos:Pos}
theorem Hs:PA X [] tNil:=λ_ _ _ _ H Q I h=>ADk ⟨[],H,I,.nil,h⟩
theorem Ei(ha:PE X e te)(hr:PA X es t)(hs:starEach (e::es) X.env=(false,eval e X.env)::starEach es X.env:=by rfl):PA X (e::es) (tCons te t):=by
 intro pos pins s σ H Q I h
 rw[hs]
 show wpAny _ _ (spliced ((false,eval e X.env)::backTo pos (starEach es X.env))) _ _ s
 refine ADW (thn (ha pins s σ H _ I h) λu s1 ⟨x,H1,I1,r1,q1⟩=>?_)
 exact thn (hr pos pins s1 σ H1 _ I1 q1) λus s2 ⟨xs,H2,I2,r2,q2⟩=>⟨x::xs,H2,I2,.cons r1 r2,q2⟩
def tTup(t:TA):TE:=λσ H Q=>t σ H λxs H1=>xs.length<=sizeLine/\∀p,H1 p=none->Q (.ref p) (upd H1 p (.tup xs))
def tLst(t:TA):TE:=λσ H Q=>t σ H λxs H1=>xs.length<=sizeLine/\∀p,H1 p=none->Q (.ref p) (upd H1 p (.lst xs))
theorem Hg{x1}(h:PA X es t):PE X (.Tuple es x1 pos) (tTup t):=by
 intro pins s σ H Q I hq
 refine wpAny_Tuple_spliced (thn (h pos pins s σ H _ I hq) λus s1 ⟨xs,H1,I1,r,z,q⟩=>⟨by rw[←r.length];exact z,?_⟩)
 have hf:H1 s1.heap.objs.size=none:=I1.hok.fresh (AAD _)
 refine⟨.ref s1.heap.objs.size,upd H1 s1.heap.objs.size (.tup xs),I1.laid (t':=s1.toks) (λb u e=>AA4 _ e) (AAD _) ?_,rfl,q _ hf⟩
 exact⟨z,us,r,⟨_,AAE _ rfl,rfl,⟨_,rfl⟩,rfl⟩⟩
theorem Hl(h:PA X es t):PE X (.List es pos) (tLst t):=by
 intro pins s σ H Q I hq
 refine wpAny_List_spliced (thn (h pos pins s σ H _ I hq) λus s1 ⟨xs,H1,I1,r,z,q⟩=>⟨by rw[←r.length];exact z,?_⟩)
 have hf:H1 s1.heap.objs.size=none:=I1.hok.fresh (AAD _)
 refine⟨.ref s1.heap.objs.size,upd H1 s1.heap.objs.size (.lst xs),I1.laid (t':=s1.toks) (λb u e=>AA4 _ e) (AAD _) ?_,rfl,q _ hf⟩
 exact⟨z,us,0,r,AAE _ rfl⟩
end
abbrev Sp:=List V->Hp->VK->XK->Prop
abbrev CXT:=List Env->Hp->Shared->XK->Value->Shared->Prop
structure Env0(P:Program)(w:World)(K:AA5)(mg:Str->Option Value)(base:Heap)(A:Around)(outer:List Env)(s:Shared)(H:Hp):Prop where
 frames:A.frames=some outer
 mod:Mod K mg base
 bs:∀b o,base.get? b=some o->s.heap.get? b=some o/\H b=none
 bsz:base.objs.size<=s.heap.objs.size
 funs:s.heap.FunFrames base outer
 frf:∀b∈frs outer,H b=none
 hok:HOk P w H s.heap
 bare:AllBare s.gens
inductive CE(outer:List Env)(P:Program)(w:World)(H:Hp)(s:Shared)(Q:VK)(u:Value)(s':Shared):Prop
 | mk (v:_) (H':_) (f0:s'.os=s.os) (f1:AllBare s'.gens) (f2:Un (frs outer) [] H H' s.heap s'.heap) (f3:HOk P w H' s'.heap) (f4:aK v u) (f5:Q v H')
def CR(CX:CXT)(outer:List Env)(P:Program)(w:World)(H:Hp)(s:Shared)(Q:VK)(E:XK)(r:Result)(s':Shared):Prop :=
 match r with
 | .ok (.ret u)=>CE outer P w H s Q u s'
 | .ok _=>False
 | .error e=>CX outer H s E e s'
structure FnOk(P:Program)(w:World)(K:AA5)(mg:Str->Option Value)(base:Heap)(CX:CXT)(k:Nat)(f:Addr)(fd:FuncData)(ps:List Str)(sp:Sp):Prop where
 len:∀vs H Q E,sp vs H Q E->vs.length=ps.length
 run:∀(A:Around) (outer:List Env) (s:Shared) (H:Hp) (args:Args) (us:List Value) (vs:List V) (Q:VK) (E:XK),Room k A->Env0 P w K mg base A outer s H->BindsTo s fd args (ps.zip us)->ax vs us->sp vs H Q E ->
  codeAny (model P w) A (.call (.ref f) args) (CR CX outer P w H s Q E) s
section
variable{X:Cx}{pins:List (Addr×Obj)}{σ:St}{H:Hp}{s s':Shared}
theorem Inv.env0(I:Inv X pins σ H s):Env0 X.prog X.w X.K X.mg X.base X.A X.stack s H :=
 ⟨I.ok.frames,I.ok.mod,I.bs,ABT I.ok.bsz I.sz,I.stack,I.stkFree,I.hok,I.bare⟩
theorem Inv.after(I:Inv X pins σ H s)(h:CE X.stack X.prog X.w H s Q u s'):EP X pins σ Q u s':=by
 obtain⟨v,H',os,bare,un,hok,r,q⟩:=h
 obtain⟨hh,g,d,t,os'⟩:=s'
 obtain rfl:os'=s.os:=os
 exact⟨v,H',I.call (h':=hh) (g':=g) (d':=d) (t':=t) (ch:=[]) un hok bare (λb z=>absurd z (by simp)),r,q⟩
end
def GE(sp:Sp)(dvs:List V)(E:XK)(t:TA):TE:=λσ H Q=>t σ H λvs H1=>sp (vs++dvs) H1 Q E
def rL(K:AA5)(fd:FuncData)(ps:List Str)(ds:List Value):Prop :=
 ∀(s:Shared) (us:List Value),K.In s.heap->(us++ds).length=ps.length->BindsTo s fd ⟨us,[]⟩ (ps.zip (us++ds))
theorem rL.all{K:AA5}{fd:FuncData}{ps:List Str}(h:∀us:List Value,us.length=ps.length->bindArgs fd ⟨us,[]⟩=pure (ps.zip us)):rL K fd ps []:=λs us _ hl=>by
 rw[ACZ]at hl ⊢
 exact .of_eq (h us hl)
def Al(CX:CXT)(X:Cx)(E:XK):Prop:=∀(pins:List (Addr×Obj)) (σ:St) (H:Hp) (s:Shared) (e:Value) (s':Shared),Inv X pins σ H s->CX X.stack H s E e s'->X.xe e s'
section
variable{X:Cx}{CX:CXT}{k:Nat}{f C:Addr}{fd:FuncData}{ps:List Str}{sp:Sp}{dvs:List V}{ds:List Value}{E:XK}{x m:Str}{p pos apos:Pos}{e o:Expr}{es:List Expr}{ta:TE}{t:TA}
theorem GO(F:FnOk X.prog X.w X.K X.mg X.base CX k f fd ps sp)(hr:Room k X.A)(hb:rL X.K fd ps ds)(hd:ax dvs ds)(hx:Al CX X E)
  (I:Inv X pins σ H s) (r:ax vs us) (h:sp (vs++dvs) H Q E):wpAny (model X.prog X.w) X.A (call (.ref f) us) (EP X pins σ Q) X.xe s:=by
 have r2:ax (vs++dvs) (us++ds):=r.append hd
 have hl:(us++ds).length=ps.length:=by rw[←r2.length];exact F.len _ _ _ _ h
 refine wpAny_call (ADR (F.run X.A X.stack s H ⟨us,[]⟩ (us++ds) (vs++dvs) Q E hr I.env0 (hb s us I.kIn hl) r2 h) λr s' hq=>?_)
 cases r with
 | error e=>exact hx pins σ H s e s' I hq
 | ok fl =>
  cases fl with
  | ret u=>exact I.after hq
  | next=>exact AD4 hq
  | brk=>exact AD4 hq
  | cont=>exact AD4 hq
theorem Ef(F:FnOk X.prog X.w X.K X.mg X.base CX k f fd ps sp)(hr:Room k X.A)(hg:Gl X x)(hm:X.mg x=some (.ref f))(hk:ACT X.K (.ref f)=true)(hb:rL X.K fd ps ds)(hd:ax dvs ds)(hx:Al CX X E)
  (ha:PA X (e::es) t) (hdb:(x==("__debug__":Str))=false:=by decide) (he:starEach (e::es) X.env=(false,eval e X.env)::starEach es X.env:=by rfl) (hpl:(backTo pos (starEach es X.env)).any (·.1)=false:=by rfl) :
  PE X (.Call (.Name x p) (e::es) [] pos) (GE sp dvs E t):=by
 intro pins s σ H Q I h
 refine ACQ (yZ I hg hm ?_ hdb)
 refine PySem.W.callWith_K (h₀:=X.base) I.ok.mod.kin hk (thn (ha pos pins s σ H _ I h) λus s1 ⟨vs,H1,I1,r,q⟩=>⟨I1.kIn,?_⟩) he hpl
 exact GO F hr hb hd hx I1 r q
structure Mk(K:AA5)(C f:Addr):Prop where
 makes:PySem.W.makesIn K C=true
 init:ADu K (.ref C) "__init__" = some (some (.ref f))
 fn:PySem.W.isFn K (.ref f)=true
 kp:ACT K (.ref C)=true
end
section
variable{X:Cx}{CX:CXT}{k:Nat}{f C:Addr}{fd:FuncData}{ps ks:List Str}{sp:Sp}{E:XK}{x m:Str}{p pos apos kpos:Pos}{e o:Expr}{es:List Expr}{kws:List Keyword}{te ta:TE}{t tk:TA}{nm:Option Str}
structure KBinds(K:AA5)(fd:FuncData)(ps ks:List Str)(g:List Value->List Value->List Value)(gV:List V->List V->List V):Prop where
 to:∀(s:Shared) (us ws:List Value),K.In s.heap->(g us ws).length=ps.length->BindsTo s fd ⟨us,ks.zip ws⟩ (ps.zip (g us ws))
 rel:∀{vs:List V}{us:List Value}{zs:List V}{ws:List Value},ax vs us->ax zs ws->ax (gV vs zs) (g us ws)
variable{g:List Value->List Value->List Value}{gV:List V->List V->List V}
end
structure FnScope(N P:List Str)(sc:Scope):Prop where
 kind:sc.kind=.function
 co:sc.isCoroutine=false
 gen:sc.isGenerator=false
 nd:N.Nodup
 pre:N.take P.length=P
 par:∀x∈P,sc.names.lookup x=some .local\/sc.names.lookup x=some .cell
 nofree:∀y∈sc.names,y.2≠.free
theorem rD{kindOf:Str->Option NameKind}{x:Str}:∀{binds:List (Str×Value)}{m:Str->Option Value},(∀v,(x,v)∉binds)->bindL kindOf binds m x=m x
 | [],_,_=>rfl
 | (n,v)::r,m,h=>by
  unfold bindL
  rw[rD λw hw=>h w (AA9 _ hw)]
  split
  ·have:x≠n:=by rintro rfl;exact h v AAI
   simp[this]
  ·rfl
theorem rF{kindOf:Str->Option NameKind}{x:Str}:∀{binds:List (Str×Value)}{m:Str->Option Value},(∀v,(x,v)∉binds)->bindC kindOf binds m x=m x
 | [],_,_=>rfl
 | (n,v)::r,m,h=>by
  unfold bindC
  rw[rF λw hw=>h w (AA9 _ hw)]
  split
  ·rfl
  ·have:x≠n:=by rintro rfl;exact h v AAI
   simp[this]
theorem rE{kindOf:Str->Option NameKind}{x:Str}{v:Value}:∀{P:List Str}{vs:List Value}{i:Nat}{m:Str->Option Value},P.Nodup->P[i]?=some x->vs[i]?=some v->kindOf x=some .local ->
  bindL kindOf (P.zip vs) m x=some v
 | [],_,_,_,_,h,_,_=>by simp at h
 | _::_,[],_,_,_,_,h,_=>by simp at h
 | p::P,w::vs,0,m,nd,h1,h2,hk=>by
  simp at h1 h2;subst h1;subst h2
  show bindL kindOf ((p,w)::P.zip vs) m p=_
  unfold bindL
  rw[rD λv hv=>(AB6.mp nd).1 (ADX hv).1,if_pos hk]
  simp
 | p::P,w::vs,i+1,m,nd,h1,h2,hk=>by
  show bindL kindOf ((p,w)::P.zip vs) m x=_
  unfold bindL
  exact rE (i:=i) (AB6.mp nd).2 (by simpa using h1) (by simpa using h2) hk
theorem rG{kindOf:Str->Option NameKind}{x:Str}{v:Value}:∀{P:List Str}{vs:List Value}{i:Nat}{m:Str->Option Value},P.Nodup->P[i]?=some x->vs[i]?=some v->kindOf x≠some .local ->
  bindC kindOf (P.zip vs) m x=some v
 | [],_,_,_,_,h,_,_=>by simp at h
 | _::_,[],_,_,_,_,h,_=>by simp at h
 | p::P,w::vs,0,m,nd,h1,h2,hk=>by
  simp at h1 h2;subst h1;subst h2
  show bindC kindOf ((p,w)::P.zip vs) m p=_
  unfold bindC
  rw[rF λv hv=>(AB6.mp nd).1 (ADX hv).1,if_neg hk]
  simp
 | p::P,w::vs,i+1,m,nd,h1,h2,hk=>by
  show bindC kindOf ((p,w)::P.zip vs) m x=_
  unfold bindC
  exact rG (i:=i) (AB6.mp nd).2 (by simpa using h1) (by simpa using h2) hk
def start(N:List Str)(vs:List V):St:=vs.map some++ADv (N.length-vs.length) none
def wM(CX:CXT)(P:Program)(w:World)(K:AA5)(mg:Str->Option Value)(base:Heap)(N:List Str)(qual:Str)(scope:Scope)(f:Addr)(cd:Value)(A:Around)(outer:List Env)(s:Shared)(H:Hp)(E:XK):Cx where
 prog:=P
 w:=w
 K:=K
 mg:=mg
 base:=base
 A:=A.deeper (envOfC qual scope s.heap.objs.size f cd)
 N:=N
 s₀:=s
 H₀:=H
 env:=envOfC qual scope s.heap.objs.size f cd
 outer:=outer
 stack:=envOfC qual scope s.heap.objs.size f cd::outer
 ex:=[]
 calm:=true
 fn:=λ_=>true
 pn:=[]
 xe:=λe s'=>wpAny (model P w) (A.deeper (envOfC qual scope s.heap.objs.size f cd)) (leaving (envOfC qual scope s.heap.objs.size f cd) e) (λ_ s''=>CX outer H s E e s'') (λe' s''=>CX outer H s E e' s'') s'
theorem va{sc:Scope}{n:Nat}{x:Str}(h:sc.names.lookup x=some .cell):∃c,(cellsFrom n sc.names []).lookup x=some c:=by
 have q:=PySem.W.cellsFrom_some sc.names n [] (.inl h)
 exact Option.isSome_iff_exists.mp q
theorem zo{CX:CXT}{P:Program}{w:World}{K:AA5}{mg:Str->Option Value}{base:Heap}{N ps:List Str}{qual:Str}{scope:Scope}{f:Addr}{cd:Value}{A:Around}{outer:List Env}{s s1:Shared}{H:Hp}{E:XK}{us:List Value}{vs:List V}
  (S:FnScope N ps scope) (hd:A.handled=none) (e0:Env0 P w K mg base A outer s H) (hl:vs.length=ps.length) (r:ax vs us)
  (x:InCallC s s.heap.objs.size (bindL (envOfC qual scope s.heap.objs.size f cd).kindOf (ps.zip us) λ_=>none) (cellsFrom (s.heap.objs.size+1) scope.names []) (bindC (envOfC qual scope s.heap.objs.size f cd).kindOf (ps.zip us) λ_=>none) s1) :
  Inv (wM CX P w K mg base N qual scope f cd A outer s H E) [] (start N vs) H s1:=by
 have hpl:ps.length<=N.length:=by have:=congrArg AD0 S.pre;rw[AAh]at this;lia
 obtain⟨h1,tk,rfl,hk⟩:=x.done
 have noA:∀b:Addr,b∉(wM CX P w K mg base N qual scope f cd A outer s H E).ex:=λb z=>absurd (show b∈([]:List Addr)from z) (by simp)
 refine⟨⟨e0.mod,S.kind,rfl,rfl,AAD _,λy z c h1 h2=>?_,λy hy=>?_,λy c _ h=>?_,λ_=>hd,Around.frames_deeper e0.frames,.inr ⟨rfl,rfl⟩,λb z=>absurd z (noA b),e0.bs,e0.bsz,λb _ _=>noA b,λb z=>absurd z (noA b),e0.funs,e0.frf⟩,
  rfl,e0.bare,Un.kept hk,⟨_,x.toInCall.ns,λi y v h1 h2 h3=>?_⟩,λy c h=>⟨_,x.cell y c h⟩,e0.hok.fresh (AAD _),λy c h=>?_,λp hp=>absurd (show p∈([]:List (Addr×Obj))from hp) (by simp),e0.hok.kept hk,?_⟩
 ·exact name_of_addr x.apart (ABV h1) (ABV h2)
 ·have hy:scope.names.lookup y=some .cell\/scope.names.lookup y=some .free:=hy
  rcases hy with hy | hy
  ·exact va hy
  ·exact absurd rfl (S.nofree _ (ABV hy))
 ·exact AEJ (x.above y c (ABV h))
 ·have hi:i<vs.length:=by
   unfold start at h2
   by_cases hi:i<vs.length
   ·exact hi
   ·rw[AAg (by simpa using hi)]at h2
    rw[ACi]at h2
    split at h2<;>cases h2
  have ha:vs[i]?=some v:=by
   unfold start at h2
   rw[AAJ (by simpa using hi),AAU]at h2
   cases e:vs[i]? with
   | none=>rw[e]at h2;cases h2
   | some a=>rw[e]at h2;cases h2;rfl
  obtain⟨u,hu,rv⟩:=r.get ha
  have hp:ps[i]?=some y:=by
   rw[←S.pre,ABj (by lia)];exact h1
  have ndP:ps.Nodup:=by rw[←S.pre];exact S.nd.sublist (ADl _ _)
  refine⟨u,rv,?_⟩
  rcases S.par y (AAu hp)with k | k
  ·exact .inl ⟨k,rE ndP hp hu k⟩
  ·obtain⟨c,e⟩:=va (n:=s.heap.objs.size+1) k
   refine .inr ⟨.inl k,c,e,?_⟩
   have q:=x.cell y c e
   rw[rG ndP hp hu (by show scope.names.lookup y≠_;rw[k];decide)]at q
   exact q
 ·exact e0.hok.fresh (AEJ (x.above y c (ABV h)))
 ·unfold start
  show _=N.length
  rw[AA8,AA6,AD1]
  lia
theorem fn_of{CX:CXT}{P:Program}{w:World}{K:AA5}{mg:Str->Option Value}{base:Heap}{k:Nat}{f:Addr}{name qual:Str}{params:Arguments}{body:List Stmt}{scope:Scope}{dV kV doc pm cdv ct oc:Value}{an od:Option Addr}
  {osl:Array (Option Value)}{N ps:List Str}{sp:Sp} (lk:K.lookup f=some ⟨oc,od,.func (ACf name qual params body scope dV kV doc pm an cdv ct),osl⟩) (hcd:AEN K cdv qual=true) (S:FnScope N ps scope)
  (len:∀vs H Q E,sp vs H Q E->vs.length=ps.length)
  (hbody:∀(A:Around) (outer:List Env) (s:Shared) (H:Hp) (vs:List V) (Q:VK) (E:XK),Room k (A.deeper (envOfC qual scope s.heap.objs.size f cdv))->sp vs H Q E ->
   ∃t,PSs (wM CX P w K mg base N qual scope f cdv A outer s H E) body t/\t { nx:=λ_ H'=>Q .non H',rt:=Q } (start N vs) H) :
  FnOk P w K mg base CX (k+1) f (ACf name qual params body scope dV kV doc pm an cdv ct) ps sp:=by
 refine⟨len,λA outer s H args us vs Q E hr e0 hb r hsp=>?_⟩
 have hl:=len _ _ _ _ hsp
 have KX:K.In s.heap:=e0.mod.kin.keeps λb o e=>(e0.bs b o e).1
 have lim:s.heap.NoLimit:=e0.mod.nolimit.keeps λb o e=>(e0.bs b o e).1
 have hkind:∀y∈ps.zip us,scope.names.lookup y.1=some .local\/(scope.names.lookup y.1=some .cell/\((cellsFrom (s.heap.objs.size+1) scope.names []).lookup y.1).isSome=true):=λ⟨n,v⟩ hy=>by
  rcases S.par n (ADX hy).1 with q | q
  ·exact .inl q
  ·exact .inr ⟨q,PySem.W.cellsFrom_some _ _ _ (.inl q)⟩
 refine codeAny_call_function hr.depth (KX _ _ lk) rfl S.co S.gen rfl (PySem.W.codeRec_of KX hcd) (hb _ _ _ _ ?_)
 refine wpAny_newFunctionEnv_cells S.kind hkind λenv he s1 x=>?_
 subst he
 refine⟨lim.keeps x.toInCall.keep,codeAny_func ?_⟩
 obtain⟨t,ht,hq⟩:=hbody A outer s H vs Q E (hr.deeper _) hsp
 have I:Inv (wM CX P w K mg base N qual scope f cdv A outer s H E) [] (start N vs) H s1:=zo S hr.hd e0 hl r x
 refine ABh (ht [] s1 (start N vs) H _ I hq) (λfl s' hs=>?_) λe s' hs=>hs
 have fin:∀{σ':St}{H':Hp}{v:V}{u:Value},Inv (wM CX P w K mg base N qual scope f cdv A outer s H E) [] σ' H' s'->aK v u->Q v H'->CE outer P w H s Q u s' :=
  λ{σ' H' v u} J rv q=>⟨v,H',J.os,J.bare,J.base,J.hok,rv,q⟩
 cases fl with
 | ret u =>
  obtain⟨v,σ',H',J,rv,q⟩:=hs
  exact fin J rv q
 | next =>
  obtain⟨σ',H',J,q⟩:=hs
  exact fin (v:=V.non) (u:=ABb) J rfl q
 | brk =>
  obtain⟨_,_,_,q⟩:=hs
  exact AD4 q
 | cont =>
  obtain⟨_,_,_,q⟩:=hs
  exact AD4 q
end L2
namespace L2
open PySem PySem.Spec PyProof.Rows
section
variable{X:Cx}{x:Str}{p pos:Pos}{e:Expr}{es:List Expr}{t:TA}{id T:String}{r:List V->Hp->VK->Prop}
def tCB(r:List V->Hp->VK->Prop)(t:TA):TE:=λσ H Q=>t σ H λvs H1=>r vs H1 Q
theorem Ba(hc:dz X (.builtin id) r)(hg:Gl X x)(hm:X.mg x=none)(hv:bootBuiltins x=some (.builtin id))(ha:PA X (e::es) t)(hn:x≠"__name__":=by decide)(hdb:(x==("__debug__":Str))=false:=by decide)
  (he:starEach (e::es) X.env=(false,eval e X.env)::starEach es X.env:=by rfl) (hpl:(backTo pos (starEach es X.env)).any (·.1)=false:=by rfl):PE X (.Call (.Name x p) (e::es) [] pos) (tCB r t):=by
 intro pins s σ H Q I h
 refine ACQ (gF I hg hm hv ?_ hn hdb)
 exact PyProof.Rows.callWith_builtin1 (thn (ha pos pins s σ H _ I h) λus s1 ⟨vs,H1,I1,r1,q1⟩=>hc pins s1 σ H1 vs us Q I1 r1 q1) he hpl
theorem yh(hc:dz X (.type T) r)(hg:Gl X x)(hm:X.mg x=none)(hv:bootBuiltins x=some (.type T))(ha:PA X (e::es) t)(hn:x≠"__name__":=by decide)(hdb:(x==("__debug__":Str))=false:=by decide)
  (he:starEach (e::es) X.env=(false,eval e X.env)::starEach es X.env:=by rfl) (hpl:(backTo pos (starEach es X.env)).any (·.1)=false:=by rfl):PE X (.Call (.Name x p) (e::es) [] pos) (tCB r t):=by
 intro pins s σ H Q I h
 refine ACQ (gF I hg hm hv ?_ hn hdb)
 exact ACB (thn (ha pos pins s σ H _ I h) λus s1 ⟨vs,H1,I1,r1,q1⟩=>hc pins s1 σ H1 vs us Q I1 r1 q1) he hpl
end
end L2
namespace HT
open PySem PyProof.Rows
theorem rcLt_int(A:Around)(s:Shared)(a:Int)(t:Tok)(c:Int)(u:Tok)(prog:Program)(w:World)(E:Value->Shared->Prop)(Q:Value->Shared->Prop)(h:Q (.bool (decide (a<c))) s) :
  wpAny (model prog w) A (richCompare .Lt (.int a t) (.int c u)) Q E s :=
 (PyProof.Rows.lt_int h:wpAny (model prog w) A (compareOp .Lt (.int a t) (.int c u)) Q E s)
section
open PySem.SeqAt
open PySem.AutoSeq1 (wpAny_loadPart')
open PySem.MeetsSeq PySem.MeetsSeq2 PySem.MeetsSeq3
end
section
variable{prog:Program}{w:World}{A:Around}{E:Value->Shared->Prop}{s:Shared}
theorem cat_tup(ht:IsTup s.heap t vs.toArray)(hb:IsTup s.heap b ws.toArray)(hv:vs≠[])
  (h1:ws=[]->Q (.ref t) s) (h2:ws≠[]->Q (.ref s.heap.objs.size) { s with heap:=s.heap.push { cls:=.type "tuple",data:=.seq (vs++ws).toArray } })
  (hsz:vs.length+ws.length<=sizeLine):wpAny (model prog w) A (binaryOp .Add (.ref t) (.ref b)) Q E s:=by
 obtain⟨⟨cls,dd,data,sl⟩,ho,hc,n,hd⟩:=id ht
 obtain⟨⟨cls2,dd2,data2,sl2⟩,ho2,hc2,n2,hd2⟩:=id hb
 simp only at hc hd hc2 hd2
 subst hc hd hc2 hd2
 have e:vs.toArray++ws.toArray=(vs++ws).toArray:=by simp
 by_cases hw:ws=[]
 ·exact concat_meets ⟨_,ho,rfl⟩ ⟨_,ho2,rfl⟩ noFill_tuple_add seq_tuple_add ADh ADY (ADS _ _)
   (tuple_addW1 t b vs.toArray ws.toArray n n2 dd dd2 sl sl2 (by simpa using hv) (by simp[hw])) ⟨ho,ho2,h1 hw⟩
 ·refine concat_meets ⟨_,ho,rfl⟩ ⟨_,ho2,rfl⟩ noFill_tuple_add seq_tuple_add ADh ADY (ADS _ _)
   (tuple_addW2 t b vs.toArray ws.toArray n n2 dd dd2 sl sl2 (by simpa using hv) (by simpa using hw) (by rw[AAB,AAB];exact hsz)) ⟨ho,ho2,?_⟩
  rw[e]
  exact h2 hw
def sIx(n d:Nat):Option Int->Nat
 | none=>d
 | some v=>if v<0 then(v+(n:Int)).toNat else min v.toNat n
theorem sIx_none(n d:Nat):sIx n d none=d:=rfl
theorem sIx_nat(n d k:Nat):sIx n d (some (k:Int))=min k n:=by
 show (if (k:Int)<0 then((k:Int)+(n:Int)).toNat else min (k:Int).toNat n)=min k n
 rw[if_neg (by lia),ABq]
theorem GM(n d:Nat)(hd:d<=n)(o:Option Int):sIx n d o<=n:=by
 cases o with
 | none=>exact hd
 | some v =>
  show (if v<0 then(v+(n:Int)).toNat else min v.toNat n)<=n
  by_cases hv:v<0
  ·rw[if_pos hv];lia
  ·rw[if_neg hv];exact Nat.min_le_right _ _
theorem zU(v:Int)(n d:Nat):(if v<0 then max (v+(n:Int)) 0 else min v (n:Int))=((sIx n d (some v):Nat):Int):=by
 show (if v<0 then max (v+(n:Int)) 0 else min v (n:Int))=(((if v<0 then(v+(n:Int)).toNat else min v.toNat n):Nat):Int)
 by_cases hv:v<0
 ·simp only[if_pos hv];lia
 ·simp only[if_neg hv];lia
theorem wI(lo hi:Option Int)(n:Nat):ADE lo hi 1 (n:Int)=(((sIx n 0 lo:Nat):Int),((sIx n n hi:Nat):Int)):=by
 have h1:¬((1:Int)<0):=by lia
 unfold ADE
 simp only[h1,if_false]
 refine Prod.ext ?_ ?_
 ·cases lo with
  | none=>rfl
  | some v=>exact zU v n 0
 ·cases hi with
  | none=>rfl
  | some v=>exact zU v n n
theorem vT(i j:Nat):ACU (i:Int) (j:Int) 1=j-i:=by
 unfold ACU
 have h1:(1:Int) > 0:=by lia
 simp only[h1,if_true,Int.ediv_one]
 split<;>lia
theorem mw(p:IsPart v o)(h:Q o s):wpAny (model prog w) A (Builtin.Slice.slicePartIndex v) Q E s:=by
 cases p with
 | none=>exact slicePart_none h
 | int i t=>exact slicePart_int h
theorem dA{sl:Addr}{vl vu:Value}{lo hi:Option Int}{n:Nat}{Q:Int×Int×Nat->Shared->Prop}(hs:s.heap.IsSliceOf sl vl vu .none)(pl:IsPart vl lo)(pu:IsPart vu hi)
  (h:Q (((sIx n 0 lo:Nat):Int),1,sIx n n hi-sIx n 0 lo) s):wpAny (model prog w) A (AEI (.ref sl) (pure (n:Int))) Q E s:=by
 obtain⟨os,hos,hcs,hds⟩:=id hs
 unfold AEI Builtin.Slice.sliceFields
 refine AA0 (AA0 (ABG hos hds (x:=vl) rfl (AA0 (ABG hos hds (x:=vu) rfl (AA0 (ABG hos hds (x:=.none) rfl (AA3 ?_)))))))
 refine AA0 (slicePart_none ?_)
 show wpAny _ _ (if ((1:Int)==0)=true then _ else _) _ _ s
 rw[if_neg (by decide)]
 refine AA0 (mw pl (AA0 (mw pu (AA0 (AA3 ?_)))))
 show wpAny _ _ (match ADE lo hi 1 (n:Int)with | (lo,hi)=>pure (lo,(1:Int),ACU lo hi 1)) _ _ s
 rw[wI lo hi n]
 show wpAny _ _ (pure (((sIx n 0 lo:Nat):Int),(1:Int),ACU ((sIx n 0 lo:Nat):Int) ((sIx n n hi:Nat):Int) 1)) _ _ s
 rw[vT]
 exact AA3 h
theorem AW(xs:Array Value)(i k:Nat):((AAe k).filterMap λ(m:Nat)=>xs[((i:Int)+(m:Int)*1).toNat]?).toArray=((xs.toList.drop i).take k).toArray:=by
 have e:(λ(m:Nat)=>xs[((i:Int)+(m:Int)*1).toNat]?)=λm=>xs[i+m]?:=by
  funext m
  have:((i:Int)+(m:Int)*1).toNat=i+m:=by lia
  rw[this]
 rw[e]
 have:=pick_run xs i k
 rw[List.filterMap_map]at this
 have e2:((λx=>xs[x]?) ∘ λx=>i+x)=λm=>xs[i+m]?:=rfl
 rw[e2]at this
 rw[this]
theorem getItem_tuple_cut{t sl:Addr}{items:Array Value}{vl vu:Value}{lo hi:Option Int}{Q:Value->Shared->Prop}(ht:IsTup s.heap t items)(hs:s.heap.IsSliceOf sl vl vu .none)(pl:IsPart vl lo)(pu:IsPart vu hi)
  (hw:¬(sIx items.size 0 lo=0/\sIx items.size items.size hi=items.size))
  (h:Q (.ref s.heap.objs.size) { s with heap:=s.heap.push { cls:=.type "tuple",data:=.seq ((items.toList.drop (sIx items.size 0 lo)).take (sIx items.size items.size hi-sIx items.size 0 lo)).toArray } })
  (hsz:items.size<=sizeLine):wpAny (model prog w) A (getItem (.ref t) (.ref sl)) Q E s:=by
 have htake:sizeOk (.seq ((items.toList.drop (sIx items.size 0 lo)).take (sIx items.size items.size hi-sIx items.size 0 lo)).toArray):=by
  show ((items.toList.drop (sIx items.size 0 lo)).take (sIx items.size items.size hi-sIx items.size 0 lo)).toArray.size<=sizeLine
  rw[AAB,AAh,ABd,AAO]
  lia
 have hj:sIx items.size items.size hi<=items.size:=GM _ _ (AAD _) hi
 obtain⟨os,hos,hcs,hds⟩:=id hs
 have hTs:s.TypeIs (.ref sl) "slice":=⟨os,hos,hcs⟩
 unfold getItem
 try with_reducible refine AAp ?_
 first | refine AA0 (AA3 ?_) | skip
 refine AA0 (wpAny_sequenceKey ht.typeIs (by decide) ?_)
 refine AA0 (AAm (name:=AA1 "__getitem__") ht.typeIs ABH
  (AAn ABH ht.typeIs entry_tuple_getitem ?_ (args_tuple_getitem _ _)))
 show wpAny _ _ (ACI (.ref t) >>= _) _ _ s
 refine AA0 (tupleItemsOf_ ht ?_)
 refine AA0 (ACg hTs ?_)
 rw[if_pos (by decide)]
 refine AA0 (dA hs pl pu ?_)
 have hno:¬((((sIx items.size 0 lo:Nat):Int)==0&&(1:Int)==1&&(sIx items.size items.size hi-sIx items.size 0 lo)==items.size)=true):=by
  intro q
  rw[AAC,AAC]at q
  have q1:((sIx items.size 0 lo:Nat):Int)=0:=eq_of_beq q.1.1
  have q2:sIx items.size items.size hi-sIx items.size 0 lo=items.size:=eq_of_beq q.2
  exact hw ⟨by lia,by lia⟩
 show wpAny _ _ (if (((sIx items.size 0 lo:Nat):Int)==0&&(1:Int)==1&&(sIx items.size items.size hi-sIx items.size 0 lo)==items.size)=true then _ else _) _ _ s
 rw[if_neg hno,AW]
 first
  | exact AA0 (m:=ACa _) (AAj (AA3 ⟨_,rfl,AA3 h⟩) htake)
  | exact AA0 (m:=ACa _) (AAj (AA0 (AA3 (AA3 ⟨_,rfl,AA3 h⟩))) htake)
  | exact AA0 (AA0 (m:=ACa _) (AAj (AA3 (AA3 ⟨_,rfl,AA3 h⟩)) htake))
  | exact AA0 (AA0 (m:=ACa _) (AAj (AA3 ⟨_,rfl,AA3 h⟩) htake))
end
end HT
namespace L2
open PySem PySem.Spec PyProof.Rows
abbrev TO:=St->Hp->(Option Int->Hp->Prop)->Prop
def PO(X:Cx)(e:Option Expr)(t:TO):Prop :=
 ∀(pins:List (Addr×Obj)) (s:Shared) (σ:St) (H:Hp) (Q:Option Int->Hp->Prop),Inv X pins σ H s->t σ H Q ->
  wpAny (model X.prog X.w) X.A (evalPart e X.env) (λu s'=>∃o H',Inv X pins σ H' s'/\IsPart u o/\Q o H') X.xe s
def Dx:TO:=λ_ H Q=>Q none H
def tPart(t:TE):TO:=λσ H Q=>t σ H λx H1=>∃i,x=.int i/\Q (some i) H1
section
variable{X:Cx}{e:Expr}{te:TE}{lo hi:Option Expr}{tl th:TO}{pos p2:Pos}
theorem Ea:PO X none Dx:=by
 intro pins s σ H Q I h
 rw[evalPart_none]
 exact AA3 ⟨none,H,I,.none,h⟩
theorem DZ(h:PE X e te):PO X (some e) (tPart te):=by
 intro pins s σ H Q I hw
 rw[evalPart_some]
 refine thn (h pins s σ H _ I hw) λu s1 ⟨x,H1,I1,r1,q1⟩=>?_
 obtain⟨i,rfl,q⟩:=q1
 obtain⟨t,rfl⟩:=r1
 exact⟨some i,H1,I1,.int i t,q⟩
def SlR(X:Cx)(r:V->Option Int->Option Int->Hp->VK->Prop):Prop :=
 ∀(pins:List (Addr×Obj)) (s:Shared) (σ:St) (H:Hp) (x:V) (v vl vu:Value) (lo hi:Option Int) (sl:Addr) (Q:VK),Inv X pins σ H s->aK x v->s.heap.IsSliceOf sl vl vu .none->IsPart vl lo->IsPart vu hi->r x lo hi H Q ->
  ∃T id,typeLookup (.type T) "__getitem__" = pure (some (.builtin id))/\s.TypeIs v T/\wpAny (model X.prog X.w) X.A (getItem v (.ref sl)) (EP X pins σ Q) X.xe s
def tSl(r:V->Option Int->Option Int->Hp->VK->Prop)(te:TE)(tl th:TO):TE:=λσ H Q=>te σ H λx H1=>tl σ H1 λl H2=>th σ H2 λu H3=>r x l u H3 Q
theorem AY(hr:SlR X r)(he:PE X e te)(hl:PO X lo tl)(hu:PO X hi th):PE X (.Subscript e (.Slice lo hi none p2) pos) (tSl r te tl th):=by
 intro pins s σ H Q I h
 refine Subscript_ (thn (he pins s σ H _ I h) λv s1 ⟨x,H1,I1,r1,q1⟩=>?_)
 refine wpAny_Slice (thn (hl pins s1 σ H1 _ I1 q1) λvl s2 ⟨l,H2,I2,pl,q2⟩=>thn (hu pins s2 σ H2 _ I2 q2) λvu s3 ⟨u,H3,I3,pu,q3⟩=>?_)
 rw[evalPart_none]
 refine AA3 ?_
 have I4:Inv X pins σ H3 { s3 with heap:=s3.heap.push { cls:=.type "slice",data:=.fields #[vl,vu,.none] } }:=I3.kept (t':=s3.toks) λb ob q=>AA4 _ q
 obtain⟨T,id,hT,ht,hg⟩:=hr pins { s3 with heap:=s3.heap.push { cls:=.type "slice",data:=.fields #[vl,vu,.none] } } σ H3 x v vl vu l u s3.heap.objs.size Q I4 r1 (Heap.IsSliceOf.new ..) pl pu q3
 show wpAny (model X.prog X.w) X.A (subscriptTail e (.Slice lo hi none p2) v (.ref s3.heap.objs.size)) (EP X pins σ Q) X.xe { s3 with heap:=s3.heap.push { cls:=.type "slice",data:=.fields #[vl,vu,.none] } }
 exact tail_any (ops:=[.ref s3.heap.objs.size,v]) ht hT hg (by with_unfolding_all rfl)
def Di(xs:List V)(lo hi:Option Int):List V:=(xs.drop (HT.sIx xs.length 0 lo)).take (HT.sIx xs.length xs.length hi-HT.sIx xs.length 0 lo)
theorem lA(xs:List V)(lo hi:Option Int):(Di xs lo hi).length<=xs.length:=by
 unfold Di
 rw[AAh,ABd]
 lia
def rSlT(K:AA5):V->Option Int->Option Int->Hp->VK->Prop:=λx lo hi H Q=>∃a xs,x=.ref a/\SqT K H a xs /\
 ¬(HT.sIx xs.length 0 lo=0/\HT.sIx xs.length xs.length hi=xs.length)/\∀p,H p=none->Q (.ref p) (upd H p (.tup (Di xs lo hi)))
theorem GJ:SlR X (rSlT X.K):=by
 intro pins s σ H x v vl vu lo hi sl Q I rx hs pl pu h
 obtain⟨a,xs,rfl,hx,hw,q⟩:=h
 cases rx
 obtain⟨its,r,ht,hz⟩:=I.tuple hx
 have hlen:its.toArray.size=xs.length:=by rw[AAB];exact r.length.symm
 refine⟨"tuple",_,ABH.lookup,ht.typeIs,?_⟩
 refine HT.getItem_tuple_cut ht hs pl pu (by rw[hlen];exact hw) ?_ (by rw[hlen];exact hz)
 rw[hlen]
 refine⟨.ref s.heap.objs.size,_,I.laid (t':=s.toks) (o:=.tup (Di xs lo hi)) (λb ob q=>AA4 _ q) (AAD _) ?_,rfl,q _ (I.hok.fresh (AAD _))⟩
 exact⟨ABT (lA xs lo hi) hz,_,(r.drop (HT.sIx xs.length 0 lo)).take (HT.sIx xs.length xs.length hi-HT.sIx xs.length 0 lo),Cw.new _ _⟩
def rCatT(K:AA5):R2:=λx y H Q=>∃a b xs ys,x=.ref a/\y=.ref b/\SqT K H a xs/\SqT K H b ys/\xs≠[]/\xs.length+ys.length<=sizeLine /\
 (ys=[]->Q (.ref a) H)/\(ys≠[]->∀p,H p=none->Q (.ref p) (upd H p (.tup (xs++ys))))
theorem ax.nil_iff(r:ax xs us):us=[]↔xs=[]:=by
 cases r with
 | nil=>simp
 | cons _ _=>simp
theorem El:OpR X (binaryOp .Add) (rCatT X.K):=by
 intro pins s σ H x y v u Q I rx ry h
 obtain⟨a,b,xs,ys,rfl,rfl,ha,hb,hx,hz,q1,q2⟩:=h
 cases rx
 cases ry
 obtain⟨its,r1,p1,_⟩:=I.tuple ha
 obtain⟨its2,r2,p2,_⟩:=I.tuple hb
 refine HT.cat_tup p1 p2 (λz=>hx (r1.nil_iff.mp z)) (λz=>⟨.ref a,H,I,rfl,q1 (r2.nil_iff.mp z)⟩) (λz=>?_) (by rw[←r1.length,←r2.length];exact hz)
 refine⟨.ref s.heap.objs.size,_,I.laid (t':=s.toks) (o:=.tup (xs++ys)) (λb ob q=>AA4 _ q) (AAD _) ?_,rfl,q2 (λw=>z (r2.nil_iff.mpr w)) _ (I.hok.fresh (AAD _))⟩
 exact⟨by rw[AA8];exact hz,_,r1.append r2,Cw.new _ _⟩
end
end L2
namespace L2
open PySem PySem.Spec PyProof.Rows
def ixN(n:Nat)(i:Int):Option Nat:=if 0<=i then(if i<n then some i.toNat else none)else if -(n:Int)<=i then some (i+n).toNat else none
def atI{α:Type}(xs:List α)(i:Int):Option α:=(ixN xs.length i).bind λj=>xs[j]?
theorem zk(h:ixN n i=some j):seqIndex? i n=some j/\j<n/\-(n:Int)<=i/\i<n:=by
 unfold ixN at h
 by_cases h0:0<=i
 ·rw[if_pos h0]at h
  by_cases h1:i<n
  ·rw[if_pos h1]at h
   have e:i.toNat=j:=AAR h
   exact⟨by rw[seqIndex_of h0 h1,e],by lia,by lia,h1⟩
  ·rw[if_neg h1]at h;cases h
 ·rw[if_neg h0]at h
  by_cases h1:-(n:Int)<=i
  ·rw[if_pos h1]at h
   have e:(i+n).toNat=j:=AAR h
   exact⟨by rw[seqIndex_neg (by lia) h1,e],by lia,h1,by lia⟩
  ·rw[if_neg h1]at h;cases h
theorem tP{α:Type}{xs:List α}{i:Int}{v:α}(h:atI xs i=some v):∃j,seqIndex? i xs.length=some j/\xs[j]?=some v/\j<xs.length/\-(xs.length:Int)<=i/\i<xs.length:=by
 unfold atI at h
 cases e:ixN xs.length i with
 | none=>rw[e]at h;cases h
 | some j =>
  rw[e]at h
  obtain⟨h1,h2,h3,h4⟩:=zk e
  exact⟨j,h1,h,h2,h3,h4⟩
theorem aZ{α:Type}{xs:List α}{j:Nat}{v:α}(h:xs[j]?=some v):atI xs (j:Int)=some v:=by
 have hj:j<xs.length:=(AA2.mp h).1
 have e:ixN xs.length (j:Int)=some j:=by
  unfold ixN
  rw[if_pos (by lia),if_pos (by lia)];simp
 unfold atI;rw[e];exact h
def ou(b:Expr):Prop:=∀o i,subscripted b false o i=operate [o,i] (getItem o i)
def IxR(X:Cx)(r:R2):Prop :=
 ∀(value slice:Expr) (pins:List (Addr×Obj)) (s:Shared) (σ:St) (H:Hp) (x y:V) (v u:Value) (Q:VK),Inv X pins σ H s->aK x v->aK y u->r x y H Q ->
  subscripted slice false v u=operate [v,u] (getItem v u)->wpAny (model X.prog X.w) X.A (subscriptTail value slice v u) (EP X pins σ Q) X.xe s
def MtR(X:Cx)(id:String)(r:V->List V->Hp->VK->Prop):Prop :=
 ∀(pins:List (Addr×Obj)) (s:Shared) (σ:St) (H:Hp) (x:V) (xs:List V) (v:Value) (us:List Value) (Q:VK),Inv X pins σ H s->aK x v->ax xs us->r x xs H Q ->
  wpAny (model X.prog X.w) X.A (call (.builtin id) (v::us)) (EP X pins σ Q) X.xe s
section
variable{X:Cx}{a b:Expr}{ta tb:TE}{pos:Pos}
theorem IxR.or(h:IxR X r)(h':IxR X r'):IxR X (λx y H Q=>r x y H Q\/r' x y H Q):=by
 intro value slice pins s σ H x y v u Q I rx ry q hs
 rcases q with q | q
 ·exact h value slice pins s σ H x y v u Q I rx ry q hs
 ·exact h' value slice pins s σ H x y v u Q I rx ry q hs
theorem Hm(hr:IxR X r)(ha:PE X a ta)(hb:PE X b tb)(hs:ou b):PE X (.Subscript a b pos) (tOp r ta tb):=by
 intro pins s σ H Q I h
 exact Subscript_ (binT ha hb I h λv u s2 x y H2 I2 rx ry q=>hr a b pins s2 σ H2 x y v u Q I2 rx ry q (hs _ _))
def rIxL(K:AA5):R2:=λx y H Q=>∃p xs i v,x=.ref p/\y=.int i/\SqL K H p xs/\atI xs i=some v/\Q v H
def rIxT(K:AA5):R2:=λx y H Q=>∃p xs i v,x=.ref p/\y=.int i/\SqT K H p xs/\atI xs i=some v/\Q v H
def rIxS:R2:=λx y H Q=>∃z i c,x=.str z/\y=.int i/\z.length<=sizeLine/\atI z.cps.toList i=some c/\Q (.str ⟨#[c]⟩) H
theorem Fd:IxR X (rIxL X.K):=by
 intro value slice pins s σ H x y v u Q I rx ry h hs
 obtain⟨p,xs,i,z,rfl,rfl,hq,he,q⟩:=h
 cases rx
 obtain⟨t,rfl⟩:=ry
 obtain⟨its,r,pl,hz⟩:=I.list hq
 obtain⟨j,h1,h2,h3,h4,h5⟩:=tP he
 obtain⟨w,ew,rw'⟩:=r.get h2
 have hl:=r.length
 have hn:=mJ
 have fin:EP X pins σ Q w s:=⟨z,H,I,rw',q⟩
 by_cases h0:0<=i
 ·have hj:i.toNat=j:=by
   rw[seqIndex_of h0 h5]at h1
   exact AAR h1
  exact item_listR pl.isList h0 (by lia) (by rw[hj];simpa using ew) fin hs
 ·have hj:(i+(its.toArray.size:Int)).toNat=j:=by
   rw[seqIndex_neg (by lia) h4]at h1
   rw[AAB,←hl]
   exact AAR h1
  exact subscriptTail_builtinR (x:=w) pl.isList.typeIs slot_list_getitem.lookup
   (wpAny_getItem_list_neg (Q:=λr s'=>r=w/\EP X pins σ Q r s') pl.isList (by lia) (by rw[AAB]<;>lia) (by lia) (by rw[hj];simpa using ew) ⟨rfl,fin⟩) hs
theorem IC:IxR X (rIxT X.K):=by
 intro value slice pins s σ H x y v u Q I rx ry h hs
 obtain⟨p,xs,i,z,rfl,rfl,hq,he,q⟩:=h
 cases rx
 obtain⟨t,rfl⟩:=ry
 obtain⟨its,r,pl,hz⟩:=I.tuple hq
 obtain⟨j,h1,h2,h3,h4,h5⟩:=tP he
 obtain⟨w,ew,rw'⟩:=r.get h2
 have hl:=r.length
 have hn:=mJ
 have fin:EP X pins σ Q w s:=⟨z,H,I,rw',q⟩
 exact subscriptTail_builtinR (x:=w) pl.typeIs slot_tuple_getitem.lookup
  (getItem_tuple (j:=j) (Q:=λr s'=>r=w/\EP X pins σ Q r s') pl (by lia) (by lia) (by rw[AAB,←hl];exact h1) (by simpa using ew) ⟨rfl,fin⟩) hs
theorem ID:IxR X rIxS:=by
 intro value slice pins s σ H x y v u Q I rx ry h hs
 obtain⟨z,i,c,rfl,rfl,hz,he,q⟩:=h
 obtain⟨t,rfl⟩:=rx
 obtain⟨t',rfl⟩:=ry
 obtain⟨j,h1,h2,h3,h4,h5⟩:=tP he
 have hl:z.cps.toList.length=z.length:=by simp[Str.length]
 rw[hl]at h1 h4 h5
 have hn:=mJ
 exact tail_any (typeIs_str s z t) slot_str_getitem.lookup (getItem_str (c:=c) (by
  have e1:decide (i < -(2 ^ 63:Int))=false:=decide_eq_false (by lia)
  have e2:decide (i ≥ 2 ^ 63)=false:=decide_eq_false (by lia)
  rw[e1,e2,Bool.or_false]) (by rw[h1];simpa using h2) ⟨.str ⟨#[c]⟩,H,I.tok _,⟨_,rfl⟩,q⟩) hs
def rIx(K:AA5):R2:=λx y H Q=>rIxL K x y H Q\/rIxT K x y H Q\/rIxS x y H Q
theorem IE:IxR X (rIx X.K):=Fd.or (IC.or ID)
theorem wj(its:List Value)(n j:Nat)(u:Value):ABZ (·.setIfInBounds j u) { cls:=.type "list",data:=.seq its.toArray n }={ cls:=.type "list",data:=.seq (its.set j u).toArray n }:=by
 simp[ABZ]
theorem Inv.lst(I:Inv X pins σ H s)(h:H p=some (.lst xs)) :
  ∃(its:List Value) (n:Nat),ax xs its/\s.heap.get? p=some { cls:=.type "list",data:=.seq its.toArray n }/\xs.length<=sizeLine:=by
 obtain⟨z,its,n,r,e⟩:=I.hok p _ h
 exact⟨its,n,r,e,z⟩
theorem Inv.lstUpd{pins:List (Addr×Obj)}{σ:St}{H:Hp}{s:Shared}{p:Addr}{xs ys:List V}{its its':List Value}{n n':Nat}{f:Obj->Obj}(I:Inv X pins σ H s)(h:H p=some (.lst xs))
  (ho:s.heap.get? p=some { cls:=.type "list",data:=.seq its.toArray n }) (hf:f { cls:=.type "list",data:=.seq its.toArray n }={ cls:=.type "list",data:=.seq its'.toArray n' }) (r:ax ys its') (hz:ys.length<=sizeLine) (t:Nat) :
  Inv X pins σ (upd H p (.lst ys)) { s with heap:=s.heap.update p f,toks:=t }:=by
 have e:(s.heap.update p f).get? p=some { cls:=.type "list",data:=.seq its'.toArray n' }:=by
  rw[AAZ f ho (by rw[hf]<;>rfl),hf]
 refine I.write (x:=p) (e:=p) (by rw[h];trivial) (.inl rfl) (λb u hb q=>(ABE _ _ (AAz hb)).trans q) ⟨_,e⟩ ?_
 exact⟨hz,its',n',r,e⟩
def rSetL:V->V->V->Hp->(Hp->Prop)->Prop:=λo i v H Q=>∃p xs k j,o=.ref p/\i=.int k/\H p=some (.lst xs)/\ixN xs.length k=some j/\Q (upd H p (.lst (xs.set j v)))
theorem AJ:PSet X rSetL:=by
 intro pins s σ H o i v ov iv u Q I ro ri rv h
 obtain⟨p,xs,k,j,rfl,rfl,hp,hj,q⟩:=h
 cases ro
 obtain⟨t,rfl⟩:=ri
 obtain⟨its,n,r,ho,hz⟩:=I.lst hp
 obtain⟨h1,h2,h3,h4⟩:=zk hj
 have hl:=r.length
 have hn:=mJ
 have I':Inv X pins σ (upd H p (.lst (xs.set j v))) { s with heap:=s.heap.update p (ABZ (·.setIfInBounds j u)) } :=
  I.lstUpd hp ho (wj its n j u) (r.set rv j) (by rw[ABO];exact hz) s.toks
 by_cases h0:0<=k
 ·have hk:k.toNat=j:=by
   rw[seqIndex_of h0 h4]at h1
   exact AAR h1
  exact PySem.W.ki_setAt ho h0 (by lia) (by rw[AAB,←hl];exact h4) (by rw[hk];exact⟨_,I',q⟩)
 ·have hk:(k+(its.toArray.size:Int)).toNat=j:=by
   rw[seqIndex_neg (by lia) h3]at h1
   rw[AAB,←hl]
   exact AAR h1
  exact PySem.W.ki_setBack ho (by lia) (by rw[AAB,←hl];exact h3) (by lia) (by rw[hk];exact⟨_,I',q⟩)
theorem qf(lo hi:Option Int)(n:Nat):(sliceBounds lo hi none n).1=((HT.sIx n 0 lo:Nat):Int)/\(sliceBounds lo hi none n).2.1=((HT.sIx n n hi:Nat):Int)/\(sliceBounds lo hi none n).2.2=1:=by
 refine⟨?_,?_,rfl⟩
 ·cases lo with
  | none=>simp[sliceBounds,HT.sIx]
  | some i =>
   simp only[sliceBounds,HT.sIx,Option.getD_none,show (1:Int) > 0 by decide,if_true]
   by_cases h:i<0
   ·simp only[h,if_true]<;>lia
   ·simp only[h,if_false]<;>lia
 ·cases hi with
  | none=>simp[sliceBounds,HT.sIx]
  | some i =>
   simp only[sliceBounds,HT.sIx,Option.getD_none,show (1:Int) > 0 by decide,if_true]
   by_cases h:i<0
   ·simp only[h,if_true]<;>lia
   ·simp only[h,if_false]<;>lia
theorem ng(its:List Value)(lo hi:Option Int):slicePick its.toArray lo hi none=((its.drop (HT.sIx its.length 0 lo)).take (HT.sIx its.length its.length hi-HT.sIx its.length 0 lo)).toArray:=by
 obtain⟨h1,h2,h3⟩:=qf lo hi its.toArray.size
 unfold slicePick
 rw[h1,h2,h3]
 simp only[sliceRange_one,pick_run,AAB]<;>rfl
def rSlL(K:AA5):V->Option Int->Option Int->Hp->VK->Prop:=λx lo hi H Q=>∃a xs,x=.ref a/\SqL K H a xs/\∀p,H p=none->Q (.ref p) (upd H p (.lst (Di xs lo hi)))
theorem DC:SlR X (rSlL X.K):=by
 intro pins s σ H x v vl vu lo hi sl Q I rx hs pl pu h
 obtain⟨a,xs,rfl,hx,q⟩:=h
 cases rx
 obtain⟨its,r,ht,hz⟩:=I.list hx
 have hlen:=r.length
 refine⟨"list",_,slot_list_getitem.lookup,ht.isList.typeIs,?_⟩
 refine wpAny_getItem_list_slice ht.isList hs pl pu .none (by simp) ?_ (by rw[AAB]<;>lia)
 rw[ng,←hlen]
 refine⟨.ref s.heap.objs.size,_,I.laid (t':=s.toks) (o:=.lst (Di xs lo hi)) (λb ob q=>AA4 _ q) (AAD _) ?_,rfl,q _ (I.hok.fresh (AAD _))⟩
 exact⟨ABT (lA xs lo hi) hz,_,0,(r.drop (HT.sIx xs.length 0 lo)).take (HT.sIx xs.length xs.length hi-HT.sIx xs.length 0 lo),AAE _ rfl⟩
theorem rC:dz X (.builtin "len") (λxs H Q=>∃p ys,xs=[.ref p]/\(SqL X.K H p ys\/SqT X.K H p ys)/\Q (.int ys.length) H):=by
 intro pins s σ H xs us Q I r h
 obtain⟨p,ys,rfl,hq,q⟩:=h
 obtain⟨u,rfl,rx⟩:=wU r
 cases rx
 have hn:=mJ
 rcases hq with hq | hq
 ·obtain⟨its,r',pl,hz⟩:=I.list hq
  have hlen:=r'.length
  exact Calls.call_len_list pl.isList (by simp only[AAB]<;>lia) ⟨.int ys.length,H,I.tok _,⟨s.toks+1,by rw[AAB,hlen]⟩,q⟩
 ·obtain⟨its,r',pl,hz⟩:=I.tuple hq
  have hlen:=r'.length
  exact len_tuple pl (by simp only[AAB]<;>lia) ⟨.int ys.length,H,I.tok _,⟨s.toks+1,by rw[AAB,hlen]⟩,q⟩
theorem rB:dz X (.builtin "len") (λxs H Q=>∃z,xs=[.str z]/\z.length<=sizeLine/\Q (.int z.length) H):=by
 intro pins s σ H xs us Q I r h
 obtain⟨z,rfl,hz,q⟩:=h
 obtain⟨u,rfl,t,rfl⟩:=wU r
 have hn:=mJ
 exact len_str (by lia) ⟨.int z.length,H,I.tok _,⟨_,rfl⟩,q⟩
theorem dz.or(h:dz X f r)(h':dz X f r'):dz X f (λxs H Q=>r xs H Q\/r' xs H Q):=by
 intro pins s σ H xs us Q I rs q
 rcases q with q | q
 ·exact h pins s σ H xs us Q I rs q
 ·exact h' pins s σ H xs us Q I rs q
theorem rA:dz X (.type "list") (λxs H Q=>∃p ys,xs=[.ref p]/\(SqL X.K H p ys\/SqT X.K H p ys)/\∀l,H l=none->Q (.ref l) (upd H l (.lst ys))):=by
 intro pins s σ H xs us Q I r h
 obtain⟨p,ys,rfl,hq,q⟩:=h
 obtain⟨u,rfl,rx⟩:=wU r
 cases rx
 have fin:∀(its:List Value),ax ys its->ys.length<=sizeLine->∀(h':Heap) (c':Nat),(∀b o',s.heap.get? b=some o'->h'.get? b=some o') ->
   h'.get? s.heap.objs.size=some { cls:=.type "list",dict:=none,data:=.seq its.toArray c',slots:=#[] }->EP X pins σ Q (.ref s.heap.objs.size) { s with heap:=h' }:=λits r' hz h' c' kp e =>
  ⟨.ref s.heap.objs.size,_,I.laid (t':=s.toks) kp (AAD _) (show bJ X.prog X.w _ h' _ (.lst ys)from⟨hz,its,c',r',e⟩),rfl,q _ (I.hok.fresh (AAD _))⟩
 rcases hq with hq | hq
 ·obtain⟨its,r',pl,hz⟩:=I.list hq
  have hlen:=r'.length
  obtain⟨o,ho,hc,n,hd⟩:=pl.isList
  exact call_list_seq p (.inl rfl) ho hc hd (λh' c' kp e=>fin its r' hz h' c' kp e) (by simp only[AAB]<;>lia)
 ·obtain⟨its,r',pl,hz⟩:=I.tuple hq
  have hlen:=r'.length
  obtain⟨o,ho,hc,n,hd⟩:=pl
  exact call_list_seq p (.inr rfl) ho hc hd (λh' c' kp e=>fin its r' hz h' c' kp e) (by simp only[AAB]<;>lia)
theorem oh:dz X (.type "tuple") (λxs H Q=>∃p ys,xs=[.ref p]/\((SqL X.K H p ys/\∀l,H l=none->Q (.ref l) (upd H l (.tup ys)))\/(SqT X.K H p ys/\Q (.ref p) H))):=by
 intro pins s σ H xs us Q I r h
 obtain⟨p,ys,rfl,h⟩:=h
 obtain⟨u,rfl,rx⟩:=wU r
 cases rx
 rcases h with⟨hq,q⟩|⟨hq,q⟩
 ·obtain⟨its,r',pl,hz⟩:=I.list hq
  have hlen:=r'.length
  refine call_tuple_list pl.isList (λh' kp=>?_) (by simp only[AAB]<;>lia)
  have I1:Inv X pins σ H { s with heap:=h' }:=I.kept (t':=s.toks) kp
  have I2:Inv X pins σ (upd H h'.objs.size (.tup ys)) { s with heap:=h'.push { cls:=.type "tuple",data:=.seq its.toArray } } :=
   I1.laid (t':=s.toks) (λb o e=>AA4 _ e) (AAD _) (show bJ X.prog X.w _ _ _ (.tup ys)from⟨hz,its,r',Cw.new _ _⟩)
  exact⟨.ref h'.objs.size,_,I2,rfl,q _ (I1.hok.fresh (AAD _))⟩
 ·obtain⟨its,r',pl,hz⟩:=I.tuple hq
  exact call_tuple_same pl ⟨.ref p,H,I,rfl,q⟩
def tyV(K:AA5)(T:String)(x:V)(H:Hp):Prop:=match x with
 | .str _=>T = "str"
 | .int _=>T = "int"
 | .ref p=>(T = "list"/\∃xs,SqL K H p xs)\/(T = "tuple"/\∃o,K.lookup p=some o/\o.cls=.type "tuple"/\o.dict=none) \/
   (T = "dict"/\((∃kvs,H p=some (.dK kvs))\/∃kvs,H p=some (.dT kvs)))\/(T = "set"/\∃S n,H p=some (.set S n))
 | _=>False
theorem Gz(I:Inv X pins σ H s)(r:aK x v)(ty:tyV X.K T x H) :
  s.TypeIs v T/\∀a,v=.ref a->∃ob,s.heap.get? a=some ob/\ob.dict=none:=by
 cases x with
 | str z =>
  obtain⟨t,rfl⟩:=r
  cases (show T = "str" from ty)
  exact⟨typeIs_str s z t,λ_ e=>nomatch e⟩
 | int i =>
  obtain⟨t,rfl⟩:=r
  cases (show T = "int" from ty)
  exact⟨typeIs_int s i t,λ_ e=>nomatch e⟩
 | ref p =>
  cases r
  rcases ty with⟨rfl,xs,hq⟩|⟨rfl,o,hk,hc,hd⟩|⟨rfl,hk⟩|⟨rfl,S,n,hk⟩
  ·obtain⟨its,_,pl,_⟩:=I.list hq
   refine⟨pl.isList.typeIs,λa e=>?_⟩
   cases e
   obtain⟨o,n,e,c,hd,_⟩:=pl
   exact⟨o,e,hd⟩
  ·refine⟨⟨o,I.kIn p o hk,hc⟩,λa e=>?_⟩
   cases e
   exact⟨o,I.kIn _ o hk,hd⟩
  ·have z:∃o,s.heap.get? p=some o/\o.ExactDict:=by
    rcases hk with⟨kvs,hk⟩|⟨kvs,hk⟩
    ·obtain⟨_,_,_,_,o,_,_,e,ex,_⟩:=I.hok p _ hk
     exact⟨o,e,ex⟩
    ·obtain⟨_,_,_,_,o,_,_,e,ex,_⟩:=I.hok p _ hk
     exact⟨o,e,ex⟩
   obtain⟨o,e,ex⟩:=z
   refine⟨⟨o,e,ex.1⟩,λa e2=>?_⟩
   cases e2
   exact⟨o,e,ex.2.1⟩
  ·obtain⟨o,_,_,_,e,ex,_⟩:=I.hok p _ hk
   refine⟨⟨o,e,ex.1⟩,λa e2=>?_⟩
   cases e2
   exact⟨o,e,ex.2.1⟩
 | _=>exact AD4 ty
def tBM(K:AA5)(T:String)(r:V->List V->Hp->VK->Prop)(to:TE)(t:TA):TE:=λσ H Q=>to σ H λx H1=>tyV K T x H1/\t σ H1 λxs H2=>r x xs H2 Q
variable{o e:Expr}{es:List Expr}{to:TE}{t:TA}{name:Str}{apos cpos:Pos}{T id:String}{r:V->List V->Hp->VK->Prop}
theorem Ho(pa:PlainAttrs T)(slot:Slot T name id)(hty:typeOf (.builtin id)=pure (.type "method_descriptor"))(hm:MtR X id r)(ho:PE X o to)(ha:PA X (e::es) t)
  (hbase:attributeBase o name X.env (eval o X.env)=eval o X.env:=by rfl)
  (hfew:((backTo cpos (starEach (e::es) X.env)).all (λx=>!x.1)&&(backToKw cpos (keywordEach [] X.env)).all (λx=>x.1.isSome)
   && decide ((e::es).length+([]:List Keyword).length+(if ([]:List Keyword).isEmpty then 0 else 1)<30))=true:=by rfl)
  (hline:(apos.endLine==cpos.line)=true:=by rfl) (hs:starEach (e::es) X.env=(false,eval e X.env)::starEach es X.env:=by rfl) (hplain:(backTo cpos (starEach es X.env)).any (·.1)=false:=by rfl) :
  PE X (.Call (.Attribute o name apos) (e::es) [] cpos) (tBM X.K T r to t):=by
 intro pins s σ H Q I h
 refine wpAny_Call_method_late hbase hfew hline rfl (thn (ho pins s σ H _ I h) λv s1 ⟨x,H1,I1,r1,ty,q1⟩=>?_)
 obtain⟨h1,h2⟩:=Gz I1 r1 ty
 refine⟨T,id,pa,slot,hty,h1,h2,?_⟩
 have hA:=ha cpos pins s1 σ H1 _ I1 q1
 rw[hs]at hA ⊢
 refine Calls.callWith_builtin (by show (false||(backTo cpos (starEach es X.env)).any (·.1))=false;rw[hplain]<;>rfl) (Calls.evalArgs_plain ?_)
 exact thn hA λus s2 ⟨vs,H2,I2,r2,q2⟩=>hm pins s2 σ H2 x vs v us Q I2 r1 r2 q2
/- xs.append(e),list.index on a module's tuple .. are MtR facts of 06m -/
end
end L2
namespace L2
open PySem PySem.Spec PyProof.Rows
def MtM(X:Cx)(id:String)(r:V->List V->Hp->VK->Prop):Prop :=
 ∀(pins:List (Addr×Obj)) (s:Shared) (σ:St) (H:Hp) (x:V) (xs:List V) (v:Value) (us:List Value) (Q:VK),Inv X pins σ H s->aK x v->ax xs us->r x xs H Q ->
  wpAny (model X.prog X.w) X.A (call (.builtin id) (v::us)) (EP X pins σ Q) X.xe s
theorem ax.one:∀{x:V}{us:List Value},ax [x] us->∃u,us=[u]/\aK x u
 | _,_,.cons r .nil=>⟨_,rfl,r⟩
theorem ax.two:∀{x y:V}{us:List Value},ax [x,y] us->∃u v,us=[u,v]/\aK x u/\aK y v
 | _,_,_,.cons r (.cons q .nil)=>⟨_,_,rfl,r,q⟩
section
variable{X:Cx}{pins:List (Addr×Obj)}{σ:St}{H:Hp}{s:Shared}{l b:Addr}{xs ys zs:List V}
theorem Inv.lset{its its':List Value}{n:Nat}{f:Array Value->Array Value}{t':Nat}(I:Inv X pins σ H s)(hH:H l=some (.lst xs))
  (e:s.heap.get? l=some { cls:=.type "list",data:=.seq its.toArray n }) (hf:f its.toArray=its'.toArray) (hv:ax ys its') (hz:ys.length<=sizeLine) :
  Inv X pins σ (upd H l (.lst ys)) { s with heap:=s.heap.update l (ABZ f),toks:=t' }:=by
 have q:=PySem.IsL.update e f
 rw[hf]at q
 refine I.write (x:=l) (e:=l) (by rw[hH];exact trivial) (.inl rfl) (λb' u hb hu=>(ABE s.heap (ABZ f) (AAz hb)).trans hu) ⟨_,q⟩ ?_
 exact⟨hz,its',_,hv,q⟩
theorem Inv.lnew(I:Inv X pins σ H s)(hv:ax ys its)(hz:ys.length<=sizeLine) :
  Inv X pins σ (upd H s.heap.objs.size (.lst ys)) { s with heap:=s.heap.push { cls:=.type "list",data:=.seq its.toArray },toks:=t' } :=
 I.laid (λ_ _ q=>AA4 _ q) (AAD _) ⟨hz,its,0,hv,AAE _ rfl⟩
theorem Inv.fresh(I:Inv X pins σ H s):H s.heap.objs.size=none:=I.hok.fresh (AAD _)
theorem Inv.lstM(I:Inv X pins σ H s)(hH:H l=some (.lst xs)):xs.length<=sizeLine/\∃(its:List Value) (n:Nat),ax xs its/\xs.length=its.length/\s.heap.get? l=some { cls:=.type "list",data:=.seq its.toArray n }:=by
 obtain⟨z,its,n,r,e⟩:=I.hok l _ hH
 exact⟨z,its,n,r,r.length,e⟩
theorem Bj(h:n<=sizeLine):ADT n=false:=by
 unfold ADT
 exact decide_eq_false (by lia)
end
section
variable{X:Cx}
def DM:V->List V->Hp->VK->Prop:=λx vs H Q=>∃l xs y,x=.ref l/\vs=[y]/\H l=some (.lst xs)/\xs.length<sizeLine/\Q .non (upd H l (.lst (xs++[y])))
theorem yI:MtM X "list.append" DM:=by
 intro pins s σ H x vs v us Q I rx rv h
 obtain⟨l,xs,y,rfl,rfl,hH,hz,q⟩:=h
 cases rx
 obtain⟨u,rfl,ru⟩:=rv.one
 obtain⟨z,its,n,r,hl,e⟩:=I.lstM hH
 refine call_meets F.slot_list_append ⟨_,e,rfl⟩ F.entry_list_append (F.args_list_append_2 _ _) (PySem.list_append l its.toArray n u (by rw[AAB];lia)) ⟨e,?_⟩
 refine⟨.non,_,I.lset (its':=its++[u]) hH e (by simp) (r.append (.cons ru .nil)) ?_,rfl,q⟩
 rw[AA8,AAX]
 lia
def DJ:V->List V->Hp->VK->Prop:=λx vs H Q=>∃l b xs zs,x=.ref l/\vs=[.ref b]/\H l=some (.lst xs)/\H b=some (.lst zs)/\xs.length+zs.length<=sizeLine/\Q .non (upd H l (.lst (xs++zs)))
theorem yH:MtM X "list.extend" DJ:=by
 intro pins s σ H x vs v us Q I rx rv h
 obtain⟨l,b,xs,zs,rfl,rfl,hH,hB,hz,q⟩:=h
 cases rx
 obtain⟨u,rfl,ru⟩:=rv.one
 cases ru
 obtain⟨z,its,n,r,hl,e⟩:=I.lstM hH
 obtain⟨z2,its2,n2,r2,hl2,e2⟩:=I.lstM hB
 have hsz:its.toArray.size+its2.toArray.size<=sizeLine:=by rw[AAB,AAB];lia
 have hlong:¬(!its.toArray.isEmpty&&ADT (its.toArray.size+its2.toArray.size))=true:=by
  rw[Bj hsz,ADw]
  exact AAb
 refine call_meets F.slot_list_extend ⟨_,e,rfl⟩ F.entry_list_extend (F.args_list_extend_2 _ _)
  (AutoSeq1.list_extend_list_list_0 l its.toArray n b its2.toArray n2 hlong (by rw[AAB];lia) (by lia)) ⟨e,e2,?_⟩
 refine⟨.non,_,I.lset (its':=its++its2) hH e (by simp) (r.append r2) ?_,rfl,q⟩
 rw[AA8]
 lia
def rCat:R2:=λx y H Q=>∃l b xs zs,x=.ref l/\y=.ref b/\H l=some (.lst xs)/\H b=some (.lst zs)/\xs.length+zs.length<=sizeLine/\∀p,H p=none->Q (.ref p) (upd H p (.lst (xs++zs)))
theorem HF:OpR X (binaryOp .Add) rCat:=by
 intro pins s σ H x y v u Q I rx ry h
 obtain⟨l,b,xs,zs,rfl,rfl,hH,hB,hz,q⟩:=h
 cases rx
 cases ry
 obtain⟨z,its,n,r,hl,e⟩:=I.lstM hH
 obtain⟨z2,its2,n2,r2,hl2,e2⟩:=I.lstM hB
 refine PySem.P.add_list e e2 ?_ (by rw[AAB,AAB];lia)
 have ea:its.toArray++its2.toArray=(its++its2).toArray:=by simp
 rw[ea]
 exact⟨.ref _,_,I.lnew (t':=s.toks) (r.append r2) (by rw[AA8];lia),rfl,q _ I.fresh⟩
end
section
variable{prog:Program}{w:World}{A:Around}{E:Value->Shared->Prop}{s:Shared}
end
section
variable{X:Cx}
end
end L2
namespace Att
open PySem PySem.W PySem.Calls PyProof.Rows
theorem kR:∀(ns:List Int) (vs:List Value),WellAll P h vs (ns.map WData.int)->IntsAre vs ns:=by
 intro ns
 induction ns with
 | nil =>
  intro vs w
  rw[ACh]at w
  cases w
  exact .nil
 | cons n ns ih =>
  intro vs w
  rw[AAM]at w
  cases w with
  | cons a b =>
   cases a
   exact .cons _ _ (ih _ b)
theorem xO{l:OpenLaw}{n:Nat}(hn:l.most=some n){P:Params}{h:Heap}{args:List WData}{vals:List Value}
  (hpre:l.row.toRowW.claim.pre args=true) (hwl:WellAll P h vals args) :
  ∃a vs ns,vals=[AB3 a]/\args=[WData.list (ns.map WData.int)]/\h.get? a=some { cls:=.type "list",data:=.seq vs.toArray }/\IntsAre vs ns/\ns.length<=n:=by
 have hsh:WShape.hasAll [] args [.list .int]=true:=(pre_splitW hpre).1
 have hc:l.pre.holds [] { args:=args }=true:=(pre_splitW hpre).2
 obtain⟨d,r,rfl,h1,h2⟩:=hasAllW_cons hsh
 obtain rfl:=hasAllW_nil h2
 obtain⟨xs,rfl,h3⟩:=hasW_list h1
 obtain⟨ns,rfl⟩:=items_int h3
 have hlen:ns.length<=n:=by
  unfold OpenLaw.pre at hc
  have h4:(WTm.not (.lt (.lit (.int (n:Int))) (.len (.arg 0)))).holds [] { args:=[.list (ns.map .int)] }=true:=by
   have h4:=(holds_andW hc).1
   rw[hn]at h4
   exact h4
  have h5:=condW_of h4 (w_not (w_lt w_lit (w_len_list (w_arg rfl))))
  rw[AA6]at h5
  refine Nat.le_of_not_lt λq=>?_
  have q':(n:Int)<((ns.length:Nat):Int):=by lia
  first
   | (rw[decide_eq_true q']at h5;exact absurd h5 (by decide))
   | (simp at h5;lia)
 cases hwl with
 | cons w1 w2 =>
  cases w2
  cases w1 with
  | list ho hall=>exact⟨_,_,ns,rfl,rfl,ho,kR ns _ hall,hlen⟩
theorem xZ(l:OpenLaw)(args:List WData):l.row.toRowW.claim.post args (.bool true) args=true :=
 postW_of (r:=l.row.toRowW) (X:=(true==true))
  (show WShape.has [] (.bool true) .bool=true by first | rfl | decide | simp[WShape.has,WShape.arms,WShape.armsAll])
  (show (WTm.eq .res (.lit (.bool true))).value [] { args:=args,res:=some (.bool true),after:=args }=some (.bool (true==true))from w_eq_bool (w_res rfl) w_lit) rfl
theorem attach_call{l:OpenLaw}{n:Nat}{q:Program}{loose:List Str}{XP:(Str->Option Value)->Heap->Prop}{YP:World->Heap->Prop}{d:DefRec}
  (hn:l.most=some n) (hdf:d.params.defaults=[])
  (call:∀(w:World) (s₀ s₁:Shared) (mg mb:Str->Option Value) (fa:Addr) (o:Obj) (pm cd doc:Value) (a:Addr) (vs:List Value) (ns:List Int),
   Ground q loose [] XP w s₀ mg mb s₁.heap->YP w s₁.heap ->
   s₁.heap.get? fa=some o->o.data=.func (docDef d.name d.params d.body d.scope pm cd doc)->s₁.heap.CodeRec cd d.name->mg d.name=some (.ref fa) ->
   s₁.heap.get? a=some { cls:=.type "list",data:=.seq vs.toArray }->IntsAre vs ns->ns.length<=n->s₁.gens = #[] ->
   codeAny (model l.prog w) callerA (.call (.ref fa) ⟨[.ref a],[]⟩) (λr s'=>r=.ok (.ret (.bool true))/\OldK s₁.heap s'.heap/\s'.os=s₁.os/\AllBare s'.gens) s₁) :
  WalkO q loose XP YP l.row.toRowW d [] (λf vs=>PySem.call f vs):=by
 intro w s₀ s₁ mg mb G Y fa o pm cd doc dV kV ho hd hcd hD hmg hg args vals as hpre hlay hrd hwl hlo
 obtain rfl:dV=.none:=Dflts.none hD hdf
 obtain rfl:kV=.none:=Dflts.noKw hD
 obtain⟨a,vs,ns,rfl,rfl,hobj,hints,hlen⟩:=xO hn hpre hwl
 refine enter_call (ADR (call w s₀ s₁ mg mb fa o pm cd doc a vs ns G Y ho (fd_plain hd) hcd hmg hobj hints hlen hg) λr s' hq=>?_)
 obtain⟨rfl,h2,h3,h4⟩:=hq
 exact⟨.inl ⟨.bool true,.bool true,[],rfl,λ_=>rfl,.bool true,xZ l _,λ_=>⟨ADm,λ_ hm=>(nomatch hm)⟩⟩,h2,h3,h4⟩
section
variable{prog:Program}{w:World}{A:Around}{E:Value->Shared->Prop}{s:Shared}{K:Frag}
def uL(h:Heap):Heap:={ h with objs:=#[] }
theorem ii(h:Heap)(b:Addr):(uL h).get? b=none:=by
 cases e:(uL h).get? b with
 | none=>rfl
 | some o=>exact absurd (AAG e) (ABx _)
def ledger(h:Heap)(L d:Addr):List (Addr×Obj):=(AAe h.objs.size).filterMap λa=>if a=L\/a=d then none else(h.get? a).map λo=>(a,o)
theorem mem_ledger:(a,o)∈ledger h L d↔a≠L/\a≠d/\h.get? a=some o:=by
 unfold ledger
 rw[List.mem_filterMap]
 constructor
 ·rintro⟨b,_,e⟩
  split at e
  ·cases e
  ·rename_i hb
   obtain⟨o',ho,e'⟩:=ABo.mp e
   cases e'
   exact⟨λq=>hb (.inl q),λq=>hb (.inr q),ho⟩
 ·rintro⟨n1,n2,ho⟩
  refine⟨a,AAk.mpr (AAG ho),?_⟩
  rw[if_neg (show ¬(a=L\/a=d)from λq=>q.elim n1 n2),ho]<;>rfl
theorem news_ledger(hne:d≠L)(ho:h.get? d=some od):News (uL h) L h ([]++(d,od)::ledger h L d):=by
 rintro⟨a,o⟩ hp
 rcases AAH.mp hp with e | hp
 ·cases e
  exact⟨ho,hne,ii _ _⟩
 ·obtain⟨n1,n2,e⟩:=mem_ledger.mp hp
  exact⟨e,n1,ii _ _⟩
theorem fr_all(n:h.Ns L m):Fr (uL h) L h m :=
 ⟨n,λb o e=>(by rw[ii]at e;cases e),AAT _⟩
end
end Att
namespace L2
open PySem PySem.Spec PyProof.Rows
theorem oT:∀{vs:List Value}{ns:List Int},IntsAre vs ns->ax (ns.map V.int) vs
 | _,_,.nil=>.nil
 | _,_,.cons n t h=>.cons ⟨t,rfl⟩ (oT h)
def Only(H:Hp):Prop:=∀b,H b=none\/∃o xs,H b=some (.frz o (.lst xs))
theorem BA{P:Program}{w:World}{K:AA5}{mg mb:Str->Option Value}{CX:CXT}{k:Nat}{fa a:Addr}{fd:FuncData}{x:Str}{sp:Sp}{s₁:Shared}{vs:List Value}{ns:List Int}
  (KX:K.In s₁.heap) (hns:s₁.heap.Ns mainGlobals mg) (hb:s₁.heap.Ns builtinsNs mb) (hbb:∀x:Str,x≠"__name__"->mb x=bootBuiltins x) (hlim:s₁.heap.NoLimit) (hg:s₁.gens = #[])
  (ha:s₁.heap.get? a=some { cls:=.type "list",data:=.seq vs.toArray }) (hi:IntsAre vs ns) (hl:ns.length<=sizeLine) (hr:Room k callerA)
  (F:∀base:Heap,K.In base->base.Ns mainGlobals mg->FnOk P w K mg base CX k fa fd [x] sp) (hbind:∀(s:Shared) (u:Value),BindsTo s fd ⟨[u],[]⟩ [(x,u)])
  (hsp:∀H:Hp,Only H->SqL K H a (ns.map V.int)->sp [.ref a] H (λv _=>v=.bl true) λ_ _ _=>False)
  (hCX:∀H e s',CX [] H s₁ (λ_ _ _=>False) e s'->False) :
  codeAny (model P w) callerA (.call (.ref fa) ⟨[.ref a],[]⟩) (λr s'=>r=.ok (.ret (.bool true))/\OldK s₁.heap s'.heap/\s'.os=s₁.os/\AllBare s'.gens) s₁:=by
 have rv:=oT hi
 have lenV:=hi.length
 -- from an abstract heap in which nothing but the script may be tracked
 have core:∀H:Hp,Only H->SqL K H a (ns.map V.int)->HOk P w H s₁.heap->(∀b,H b≠none->b=a)->(H a≠none->K.lookup a=none) ->
   codeAny (model P w) callerA (.call (.ref fa) ⟨[.ref a],[]⟩) (λr s'=>r=.ok (.ret (.bool true))/\OldK s₁.heap s'.heap/\s'.os=s₁.os/\AllBare s'.gens) s₁:=by
  intro H hO hS hok hA hK
  have base_of:∀{b:Addr}{o:Obj},s₁.heap.get? b=some o->H b=none->(BS s₁.heap H).get? b=some o:=λe n=>BR e n
  have noA:∀{b:Addr}{o:Obj}{es:Array DictEntry}{ep:Nat},s₁.heap.get? b=some o->o.data=.dict es ep->H b=none:=λ{b o es ep} e d=>by
   cases q:H b with
   | none=>rfl
   | some u =>
    have e':b=a:=hA b (by rw[q];simp)
    subst e'
    rw[ha]at e;cases e
    have d':Data.seq vs.toArray _=Data.dict es ep:=d
    cases d'
  have nsK:∀{b:Addr}{m:Str->Option Value},s₁.heap.Ns b m->(BS s₁.heap H).Ns b m:=λ{b m} ⟨o,es,ep,e,d,r⟩=>⟨o,es,ep,base_of e (noA e d),d,r⟩
  have hKb:K.In (BS s₁.heap H):=λb o e=>base_of (KX b o e) (by
   cases q:H b with
   | none=>rfl
   | some u =>
    have e':b=a:=hA b (by rw[q];simp)
    subst e'
    rw[hK (by rw[q];simp)]at e;cases e)
  have hM:Mod K mg (BS s₁.heap H):=⟨hKb,nsK hns,⟨mb,nsK hb,hbb⟩,let ⟨mc,h1,h2⟩:=hlim;⟨mc,nsK h1,h2⟩⟩
  have e0:Env0 P w K mg (BS s₁.heap H) callerA [] s₁ H:=⟨rfl,hM,λb o e=>Es e,Nat.le_of_eq (zw _ _),trivial,λb hb=>absurd (show b∈([]:List Addr)from hb) (by simp),hok,.of_eq hg⟩
  refine ADR ((F _ hKb (nsK hns)).run callerA [] s₁ H ⟨[.ref a],[]⟩ [.ref a] [.ref a] _ _ hr e0 (hbind s₁ (.ref a)) (.cons rfl .nil) (hsp H hO hS)) λr s' h=>?_
  cases r with
  | error e=>exact(hCX H e s' h).elim
  | ok fl =>
   cases fl with
   | next=>exact AD4 h
   | brk=>exact AD4 h
   | cont=>exact AD4 h
   | ret u =>
    obtain⟨v,H',os,bare,un,hok',r',q⟩:=h
    have q':v=.bl true:=q
    subst q'
    obtain rfl:u=AD3 true:=r'
    refine⟨rfl,OldK.of_keep λb o e=>?_,os,bare⟩
    cases q:H b with
    | none=>exact un.keep b o e q (by intro z;exact absurd (show b∈([]:List Addr)from z) (by simp)) (by simp)
    | some u =>
     rcases hO b with z | ⟨ob,xs,z⟩
     ·rw[q]at z;cases z
     ·have z2:=un.frzs b ob _ z
      obtain⟨e1,_⟩:=hok b _ z
      obtain⟨e2,_⟩:=hok' b _ z2
      rw[e]at e1;cases e1
      exact e2
 cases hk:K.lookup a with
 | some o =>
  -- the script is one of the module's own objects
  have e:=KX a o hk
  rw[ha]at e
  cases e
  refine core (λ_=>none) (λ_=>.inl rfl) (.inr ⟨_,vs.toArray,_,hk,rfl,rfl,rfl,by rw[AAB,lenV];exact hl,by simpa using rv⟩) (λb u z=>by have z':(none:Option HO)=some u:=z;cases z') (λb z=>absurd rfl z) λz=>absurd rfl z
 | none =>
  refine core (λb=>if b=a then some (.frz { cls:=.type "list",data:=.seq vs.toArray } (.lst (ns.map V.int)))else none) (λb=>?_) (.inl (.inr ⟨{ cls:=.type "list",data:=.seq vs.toArray },if_pos rfl⟩)) (λb u z=>?_) (λb z=>?_) λ_=>hk
  ·by_cases hb:b=a
   ·exact .inr ⟨_,_,if_pos hb⟩
   ·exact .inl (if_neg hb)
  ·by_cases hb:b=a
   ·have z':=(if_pos hb).symm.trans z
    cases z'
    subst hb
    exact⟨ha,by rw[AA6];exact hl,vs,_,rv,ha⟩
   ·have z':=(if_neg hb).symm.trans z
    cases z'
  ·by_cases hb:b=a
   ·exact hb
   ·exact absurd (if_neg hb) z
end L2
namespace L2
open PySem PySem.Spec PyProof.Rows
abbrev KOf{K:AA5}{h:Heap}(_:K.In h):AA5:=K
theorem walk_of{l:PySem.W.OpenLaw}{n k:Nat}{q:Program}{loose:List Str}{XP:(Str->Option Value)->Heap->Prop}{YP:World->Heap->Prop}{d:DefRec}{K:Params->AA5}{CX:World->CXT}{sp:World->Sp}{x:Str}
  (hn:l.most=some n) (hn2:n<=sizeLine) (hdf:d.params.defaults=[]) (hr:Room k callerA)
  (hY:∀(w:World) (h:Heap),YP w h->(K w.params).In h)
  (F:∀(w:World) (mg:Str->Option Value) (fa:Addr) (h:Heap),(K w.params).In h->h.Ns mainGlobals mg->mg d.name=some (.ref fa) ->
   ∃fd:FuncData,(∀(s:Shared) (u:Value),BindsTo s fd ⟨[u],[]⟩ [(x,u)]) /\
    ∀base:Heap,(K w.params).In base->base.Ns mainGlobals mg->FnOk l.prog w (K w.params) mg base (CX w) k fa fd [x] (sp w))
  (hsp:∀(w:World) (H:Hp) (a:Addr) (ns:List Int),ns.length<=n->Only H->SqL (K w.params) H a (ns.map V.int)->sp w [.ref a] H (λv _=>v=.bl true) λ_ _ _=>False)
  (hCX:∀(w:World) (H:Hp) (s:Shared) (e:Value) (s':Shared),CX w [] H s (λ_ _ _=>False) e s'->False) :
  PySem.W.WalkO q loose XP YP l.row.toRowW d [] (λf vs=>PySem.call f vs):=by
 refine Att.attach_call hn hdf λw s₀ s₁ mg mb fa o pm cd doc a vs ns G Y ho hd hcd hmg hobj hints hlen hg=>?_
 have KX:=hY w _ Y
 obtain⟨fd,hb,hF⟩:=F w mg fa _ KX G.T.g hmg
 exact BA KX G.T.g G.T.b G.T.builtins G.T.nolimit hg hobj hints (ABT hlen hn2) hr hF hb (λH hO hS=>hsp w H a ns hlen hO hS) λH e s'=>hCX w H s₁ e s'
end L2
namespace L2
open PySem PySem.Spec PyProof.Rows
def fN(s:Stmt):Arguments:=match s with
 | .FunctionDef _ a _ _ _ _ _ _ _ _=>a
 | _=>{ posonlyargs:=[],args:=[],vararg:=none,kwonlyargs:=[],kw_defaults:=[],kwarg:=none,defaults:=[] }
def bH(s:Stmt):List Stmt:=match s with
 | .FunctionDef _ _ b _ _ _ _ _ _ _=>b
 | _=>[]
def ay(s:Stmt):Scope:=match s with
 | .FunctionDef _ _ _ _ _ _ sc _ _ _=>sc
 | _=>{ kind:=.function,names:=[],isGenerator:=false,isCoroutine:=false }
abbrev CX0:CXT:=λ_ _ _ _ _ _=>False
abbrev E0:XK:=λ_ _ _=>False
theorem pass0:Al CX0 X E0:=λ_ _ _ _ _ _ _ h=>h.elim
structure Fun(K:AA5)(x qual:Str)(st:Stmt)(f:Addr)(fd:FuncData):Prop where
 ex:∃(oc:Value) (od:Option Addr) (kV doc pm:Value) (an:Option Addr) (cdv ct:Value) (osl:Array (Option Value)),
  fd=ACf x qual (fN st) (bH st) (ay st) .none kV doc pm an cdv ct/\K.lookup f=some ⟨oc,od,.func fd,osl⟩/\AEN K cdv qual=true
 kp:ACT K (.ref f)=true
section
variable{P:Program}{w:World}{K:AA5}{mg:Str->Option Value}{base:Heap}
theorem Fun.ok{x qual:Str}{st:Stmt}{f:Addr}{fd:FuncData}{N ps:List Str}{k:Nat}{sp:Sp}(F:Fun K x qual st f fd)(S:FnScope N ps (ay st))(len:∀vs H Q E,sp vs H Q E->vs.length=ps.length)
  (hbody:∀(cdv:Value) (A:Around) (outer:List Env) (s:Shared) (H:Hp) (vs:List V) (Q:VK) (E:XK),Room k (A.deeper (envOfC qual (ay st) s.heap.objs.size f cdv))->sp vs H Q E ->
   ∃t,PSs (wM CX0 P w K mg base N qual (ay st) f cdv A outer s H E).nox (bH st) t/\t { nx:=λ_ H'=>Q .non H',rt:=Q } (start N vs) H):FnOk P w K mg base CX0 (k+1) f fd ps sp:=by
 obtain⟨oc,od,kV,doc,pm,an,cdv,ct,osl,rfl,lk,hcd⟩:=F.ex
 refine fn_of lk hcd S len λA outer s H vs Q E hr hsp=>?_
 obtain⟨t,h,q⟩:=hbody cdv A outer s H vs Q E hr hsp
 exact⟨t,h.nox,q⟩
theorem Fun.binds{x qual:Str}{st:Stmt}{f:Addr}{fd:FuncData}{ps:List Str}(F:Fun K x qual st f fd)
  (h:∀(kV doc pm:Value) (an:Option Addr) (cdv ct:Value) (us:List Value),us.length=ps.length->bindArgs (ACf x qual (fN st) (bH st) (ay st) .none kV doc pm an cdv ct) ⟨us,[]⟩=pure (ps.zip us)):rL K fd ps []:=by
 obtain⟨oc,od,kV,doc,pm,an,cdv,ct,osl,rfl,lk,hcd⟩:=F.ex
 exact .all (h kV doc pm an cdv ct)
theorem Jf{x qual:Str}{st:Stmt}{f:Addr}{oc:Value}{od an:Option Addr}{osl:Array (Option Value)}{kV doc pm cdv ct:Value}(l:K.lookup f=some ⟨oc,od,.func (ACf x qual (fN st) (bH st) (ay st) .none kV doc pm an cdv ct),osl⟩)
  (c:AEN K cdv qual=true) (k:ACT K (.ref f)=true):Fun K x qual st f (ACf x qual (fN st) (bH st) (ay st) .none kV doc pm an cdv ct):=⟨⟨oc,od,kV,doc,pm,an,cdv,ct,osl,rfl,l,c⟩,k⟩
end
theorem small1000(h:n<=1000):n<sizeLine:=Nat.lt_of_le_of_lt h (by decide)
section
variable{X:Cx}
theorem pv(i:Nat)(hN:X.N[i]?=some x:=by rfl)(hv:Vis X.env.scope x:=by first | exact Or.inl rfl | exact Or.inr (Or.inl rfl) | exact Or.inr (Or.inr rfl))(hd:(x==("__debug__":Str))=false:=by decide)
  (hcd:(x==("__classdict__":Str))=false:=by decide):PE X (.Name x pos) (tVar i):=yg hN hv hd hcd
end
theorem ba{A B:Prop}(h:B):if false=true then A else B:=by
 rw[if_neg AAb]
 exact h
theorem aI{A B:Prop}(h:A):if true=true then A else B:=by
 rw[if_pos rfl]
 exact h
end L2
namespace L2
open PySem PySem.Spec PyProof.Rows
section
variable{κ:Type}[DecidableEq κ]
def Du(kvs:List (κ×V))(k:κ):Option V:=(kvs.find? λkv=>decide (kv.1=k)).map (·.2)
def rN(kvs:List (κ×V))(k:κ)(v:V):List (κ×V) :=
 if (kvs.any λkv=>decide (kv.1=k))=true then kvs.map (λkv=>if kv.1=k then(kv.1,v)else kv)else kvs++[(k,v)]
theorem tV{p:κ×V}{r:List (κ×V)}{k:κ}(e:p.1=k):Du (p::r) k=some p.2:=by simp[Du,AB7,e]
theorem tW{p:κ×V}{r:List (κ×V)}{k:κ}(e:¬p.1=k):Du (p::r) k=Du r k:=by simp[Du,AB7,e]
theorem tX(k:κ):∀kvs:List (κ×V),(kvs.any λkv=>decide (kv.1=k))=(Du kvs k).isSome
 | []=>rfl
 | p::r=>by
  rw[ABe]
  by_cases e:p.1=k
  ·simp only[tV e,decide_eq_true e,Bool.true_or,Option.isSome_some]
  ·rw[tW e,decide_eq_false e,Bool.false_or];exact tX k r
theorem fL(kvs:List (κ×V))(k:κ)(v:V):(rN kvs k v).length<=kvs.length+1:=by
 unfold rN
 split
 ·rw[AA6];lia
 ·rw[AA8,AAA,AAW];lia
theorem JY.isSome_eq(r:JY o u):o.isSome=u.isSome:=by
 cases o with
 | none=>cases u with
  | none=>rfl
  | some _=>exact(show False from r).elim
 | some _=>cases u with
  | none=>exact(show False from r).elim
  | some _=>rfl
theorem KV.any(r:KV kvs vs)(k:κ):(kvs.any λkv=>decide (kv.1=k))=vs.any λkv=>decide (kv.1=k):=by
 unfold KV at r
 induction r with
 | nil=>rfl
 | cons h t ih=>rw[ABe,ABe,ih,h.1]
theorem KV.repl(r:KV kvs vs)(k:κ)(ry:aK y u) :
  KV (kvs.map λkv=>if kv.1=k then(kv.1,y)else kv) (vs.map λkv=>if kv.1=k then(kv.1,u)else kv):=by
 unfold KV at r ⊢
 induction r with
 | nil=>exact .nil
 | @cons p q ps qs h t ih =>
  rw[AAM,AAM]
  refine .cons ?_ ih
  obtain⟨h1,h2⟩:=h
  by_cases e:p.1=k
  ·rw[if_pos e,if_pos (h1.symm.trans e)];exact⟨h1,ry⟩
  ·rw[if_neg e,if_neg (λz=>e (h1.trans z))];exact⟨h1,h2⟩
theorem KV.put(r:KV kvs vs)(k:κ)(ry:aK y u):KV (rN kvs k y) (stored vs k u):=by
 unfold rN stored
 rw[r.any k]
 by_cases e:(vs.any λkv=>decide (kv.1=k))=true
 ·rw[if_pos e,if_pos e];exact r.repl k ry
 ·rw[if_neg e,if_neg e];exact Paired.snoc r ⟨rfl,ry⟩
theorem KV.length(r:KV kvs vs):kvs.length=vs.length:=AET r
end
theorem Fa(r:aK (kV k) u):(br P w).is k u=true:=by
 cases k with
 | inl i=>obtain⟨t,e⟩:=(show ∃t,u=Value.int i t from r);subst e;exact sM P w i t
 | inr x=>obtain⟨t,e⟩:=(show ∃t,u=Value.str x t from r);subst e;exact sL P w x t
theorem qO:∀{ks:List Key}{us:List Value},ax (ks.map kV) us->ItemsAre (br P w) ks us
 | [],_,r=>by rw[ACh]at r;cases r;exact .nil
 | k::ks,_,r=>by
  rw[AAM]at r
  cases r with
  | cons h t=>exact .cons (Fa h) (qO t)
abbrev KT(H:Hp):List (List Key×V)->List (List Key×Addr×Value)->Prop:=Paired λp q=>p.1=q.1/\H q.2.1=some (.tup (p.1.map kV))/\aK p.2 q.2.2
theorem KT.val{H:Hp}{kvs:List (List Key×V)}{xs:List (List Key×Addr×Value)}(r:KT H kvs xs)(k:List Key):JY (Du kvs k) ((atKey xs k).map (·.2)):=by
 induction r with
 | nil=>exact AD5
 | @cons p q ps qs h t ih =>
  obtain⟨h1,_,h2⟩:=h
  by_cases e:p.1=k
  ·have e':q.1=k:=h1.symm.trans e
   have b:atKey (q::qs) k=some q.2:=by simp[atKey,AB7,e']
   rw[tV e,b];exact h2
  ·have e':¬q.1=k:=λz=>e (h1.trans z)
   have b:atKey (q::qs) k=atKey qs k:=by simp[atKey,AB7,e']
   rw[tW e,b];exact ih
theorem KT.repl(r:KT H kvs xs)(k:List Key)(ry:aK y u) :
  KT H (kvs.map λkv=>if kv.1=k then(kv.1,y)else kv) (xs.map (putAt k u)):=by
 induction r with
 | nil=>exact .nil
 | @cons p q ps qs h t ih =>
  rw[AAM,AAM]
  refine .cons ?_ ih
  obtain⟨h1,h2,h3⟩:=h
  unfold putAt
  by_cases e:p.1=k
  ·rw[if_pos e,if_pos (h1.symm.trans e)];exact⟨h1,h2,ry⟩
  ·rw[if_neg e,if_neg (λz=>e (h1.trans z))];exact⟨h1,h2,h3⟩
theorem KT.put(r:KT H kvs xs)(k:List Key)(hb:H b=some (.tup (k.map kV)))(ry:aK y u) :
  KT H (rN kvs k y) (storedH xs k b u):=by
 have e:(kvs.any λkv=>decide (kv.1=k))=(atKey xs k).isSome:=by
  rw[tX,(r.val k).isSome_eq,Option.isSome_map]
 unfold rN storedH
 rw[e]
 by_cases q:(atKey xs k).isSome=true
 ·rw[if_pos q,if_pos q];exact r.repl k ry
 ·rw[if_neg q,if_neg q];exact Paired.snoc r ⟨rfl,hb,ry⟩
theorem KT.keeps(r:KT H kvs xs)(ht:∀b ys,H b=some (.tup ys)->H' b=some (.tup ys)):KT H' kvs xs :=
 Paired.mapP r λ_ _ z=>⟨z.1,ht _ _ z.2.1,z.2.2⟩
section
variable{P:Program}{w:World}{H:Hp}{h:Heap}{a:Addr}
theorem GP(ok:HOk P w H h)(e:Rd H a u):bJ P w H h a u:=e.ok ok
theorem dk_rd(ok:HOk P w H h)(e:Rd H a (.dK kvs)):kvs.length<=sizeLine/\(a==sysModules)=false/\∃vs,KV kvs vs/\h.DictOf (br P w) a vs :=
 show bJ P w H h a (.dK kvs)from GP ok e
theorem Jv(ok:HOk P w H h)(e:H a=some (.dK kvs)):kvs.length<=sizeLine/\(a==sysModules)=false/\∃vs,KV kvs vs/\h.DictOf (br P w) a vs:=dk_rd ok (.inl e)
theorem CW(ok:HOk P w H h)(e:H a=some (.tup (ks.map kV))):(tupleKind (br P w)).is h ks a:=by
 obtain⟨_,its,r,o,h1,h2,⟨n,h3⟩,_⟩:=(show bJ P w H h a (.tup (ks.map kV))from ok a _ e)
 exact⟨o,its.toArray,n,h1,h2,h3,by simpa using qO r⟩
theorem dt_rd(ok:HOk P w H h)(e:Rd H a (.dT kvs)):kvs.length<=sizeLine/\(a==sysModules)=false /\
  ∃xs,KT H kvs xs/\h.DictOfH (tupleKind (br P w)) a xs:=by
 obtain⟨z,y,xs,r,o,es,ep,h1,h2,h3,h4,h5⟩:=(show bJ P w H h a (.dT kvs)from GP ok e)
 refine⟨z,y,xs,r,o,es,ep,h1,h2,h3,h4,λx hx=>?_,h5⟩
 have all:∀{l:List (List Key×V)}{m:List (List Key×Addr×Value)},KT H l m->∀x∈m,(tupleKind (br P w)).is h x.1 x.2.1:=by
  intro l m q
  induction q with
  | nil=>intro x hx;exact nomatch hx
  | @cons p q ps qs hq t ih =>
   intro x hx
   rcases AAH.mp hx with e | hx
   ·subst e
    exact CW ok (by rw[←hq.1];exact hq.2.1)
   ·exact ih x hx
 exact all r x hx
theorem dt_of(ok:HOk P w H h)(e:H a=some (.dT kvs)):kvs.length<=sizeLine/\(a==sysModules)=false /\
  ∃xs,KT H kvs xs/\h.DictOfH (tupleKind (br P w)) a xs:=dt_rd ok (.inl e)
end
def DPut(H:Hp)(a:Addr)(y v:V)(H':Hp):Prop :=
 (∃kvs k,H a=some (.dK kvs)/\y=kV k/\kvs.length<sizeLine/\H'=upd H a (.dK (rN kvs k v))) \/
 ∃kvs k b,H a=some (.dT kvs)/\y=.ref b/\H b=some (.tup (k.map kV))/\kvs.length<sizeLine/\H'=upd H a (.dT (rN kvs k v))
section
variable{X:Cx}{pins:List (Addr×Obj)}{σ:St}{H:Hp}{s:Shared}{a:Addr}{y v:V}{u r:Value}{o:Option V}{A:Around}{E:Value->Shared->Prop}
theorem Inv.big(I:Inv X pins σ H s):sysModules<s.heap.objs.size:=by
 have h:mainGlobals<s.heap.objs.size:=(I.mod.glob.keeps I.bk).lt
 exact ADx (by decide) h
theorem og(I:Inv X pins σ H s)(mu:Mut (H a))(hs:ABM a s.heap h')(he:∃q,h'.get? a=some q)(new:bJ X.prog X.w (upd H a ob) h' a ob) :
  Inv X pins σ (upd H a ob) { s with heap:=h',toks:=t' } :=
 I.write (x:=a) (e:=a) mu (.inl rfl) (λb q hb z=>(hs.2 b hb).trans z) he new
theorem Dh(z:kvs.length<=sizeLine)(hd:(a==sysModules)=false)(rel:KV kvs vs)(dd:h'.DictOf (br P w) a vs) :
  bJ P w H' h' a (.dK kvs):=⟨z,hd,vs,rel,dd⟩
theorem zQ(hu:A.units+1<cLine)(I:Inv X pins σ H s)(g:DPut H a y v H')(ry:aK y u)(rv:aK v r)(h:∀s',Inv X pins σ H' s'->Q () s') :
  wpAny (model X.prog X.w) A (setItem (.ref a) u r) Q E s:=by
 rcases g with⟨kvs,k,e,ey,l,eH⟩|⟨kvs,k,b,e,ey,eb,l,eH⟩
 ·subst ey eH
  obtain⟨z,hd,vs,rel,dd⟩:=Jv I.hok e
  have hz:vs.length<=sizeLine:=by rw[←rel.length];exact z
  have hl:(rN kvs k v).length<=sizeLine:=by have:=fL kvs k v;lia
  refine wpAny_setItem_pairs (hsz:=hz) (Fa ry) dd λh' dd' hs=>h _ ?_
  have he:∃q,h'.get? a=some q:=let ⟨q,_,_,hq,_⟩:=dd';⟨q,hq⟩
  exact og I (by rw[e];exact AD5) hs he (Dh hl hd (rel.put k rv) dd')
 ·subst ey eH
  cases (show u=AB3 b from ry)
  obtain⟨z,hd,xs,rel,dd⟩:=dt_of I.hok e
  have hz:xs.length<=sizeLine:=by rw[←AET rel];exact z
  have hl:(rN kvs k v).length<=sizeLine:=by have:=fL kvs k v;lia
  refine wpAny_setItem_heap (hsz:=hz) (tupleKind_room_in1 hu) (CW I.hok eb) dd λh' dd' hs=>h _ ?_
  obtain⟨q,es,ep,hq,h2,h3,h4,_,h5⟩:=dd'
  refine og I (by rw[e];exact AD5) hs ⟨q,hq⟩ ⟨hl,hd,_,(rel.put k eb rv).keeps λc ys ec=>?_,q,es,ep,hq,h2,h3,h4,h5⟩
  rw[av (sJ ec e (λz=>nomatch z))]
  exact ec
end
section
variable{X:Cx}{pins:List (Addr×Obj)}{σ:St}{H:Hp}{s:Shared}{a:Addr}{kvs:List (Key×V)}{k:Key}{u:Value}{A:Around}{E:Value->Shared->Prop}
end
def sDPut(td ty tv:TE):TS:=λD σ H=>tv σ H λv H1=>td σ H1 λx H2=>ty σ H2 λy H3=>∃a H4,x=.ref a/\DPut H3 a y v H4/\D.nx σ H4
section
variable{X:Cx}{o i e value:Expr}{pos pos' tpos:Pos}{td ty tv:TE}
theorem DX(hu:X.A.units+1<cLine)(ho:PE X o td)(hi:PE X i ty)(hv:PE X value tv)(hs:swapsWith value (some (.Subscript o i pos')) pos.line X.env=pure false) :
  PS X (.Assign [.Subscript o i pos'] value pos) (sDPut td ty tv):=by
 intro pins s σ H D I h
 refine wpAny_Assign_Subscript (thn (hv pins s σ H _ I h) λr s1 ⟨v,H1,I1,rv,q1⟩=>thn (ho pins s1 σ H1 _ I1 q1) λu s2 ⟨x,H2,I2,rx,q2⟩=>thn (hi pins s2 σ H2 _ I2 q2) λiv s3 ⟨y,H3,I3,ry,a,H4,ex,g,q3⟩=>?_) hs
 subst ex
 obtain rfl:u=AB3 a:=rx
 exact zQ hu I3 g ry rv λs4 I4=>⟨σ,H4,I4,q3⟩
end
theorem Ce(h:Heap)(hb:sysModules<h.objs.size):bJ P w H (h.push { cls:=.type "dict",data:=.dict #[] }) h.objs.size (.dK []) :=
 ⟨AAT _,beq_eq_false_iff_ne.mpr (AAz (AAQ hb)),[],.nil,Heap.DictOf.new h⟩
section
variable{X:Cx}{pos:Pos}
end
def xB:List (TE×TE)->St->Hp->(List (V×V)->Hp->Prop)->Prop
 | [],_,H,Q=>Q [] H
 | (tk,tv)::r,σ,H,Q=>tk σ H λx H1=>tv σ H1 λy H2=>xB r σ H2 λps H3=>Q ((x,y)::ps) H3
abbrev VV:List (V×V)->List (Value×Value)->Prop:=Paired λp q=>aK p.1 q.1/\aK p.2 q.2
def PPs(X:Cx)(pos:Pos)(keys:List (Option Expr))(values:List Expr)(trs:List (TE×TE)):Prop :=
 ∀(pins:List (Addr×Obj)) (s:Shared) (σ:St) (H:Hp) (Q:List (V×V)->Hp->Prop),Inv X pins σ H s->xB trs σ H Q ->
  wpAny (model X.prog X.w) X.A (evalPairs (pairTrees keys values X.env pos)) (λvs s'=>∃ps H',Inv X pins σ H' s'/\VV ps vs/\Q ps H') X.xe s
theorem DY:PPs X pos [] [] []:=λpins s σ H Q I h=>pairTrees_nil_walk ⟨[],H,I,.nil,h⟩
theorem AV(hk:PE X k tk)(hv:PE X v tv)(hr:PPs X pos ks vs trs) :
  PPs X pos (some k::ks) (v::vs) ((tk,tv)::trs):=λpins s σ H Q I h =>
 pairTrees_cons_walk (thn (hk pins s σ H _ I h) λu s1 ⟨x,H1,I1,rx,q1⟩=>thn (hv pins s1 σ H1 _ I1 q1) λw2 s2 ⟨y,H2,I2,ry,q2⟩ =>
  thn (hr pins s2 σ H2 _ I2 q2) λws s3 ⟨ps,H3,I3,rel,q3⟩=>⟨(x,y)::ps,H3,I3,.cons ⟨rx,ry⟩ rel,q3⟩)
def mG(kvs more:List (Key×V)):List (Key×V):=more.foldl (λacc kv=>rN acc kv.1 kv.2) kvs
theorem KV.merge:∀{more:List (Key×V)}{rs:List (Key×Value)}{kvs:List (Key×V)}{vs:List (Key×Value)},KV more rs->KV kvs vs->KV (mG kvs more) (merged vs rs):=by
 intro more rs kvs vs r
 unfold KV at r
 induction r generalizing kvs vs with
 | nil=>intro q;exact q
 | @cons p q ps qs h t ih =>
  intro r0
  have e:KV (rN kvs p.1 p.2) (stored vs q.1 q.2):=by
   have:=r0.put p.1 h.2
   rw[←h.1];exact this
  exact ih e
theorem gD:∀(more kvs:List (Key×V)),(mG kvs more).length<=kvs.length+more.length
 | [],kvs=>by show kvs.length<=kvs.length+0;lia
 | p::r,kvs=>by
  have h1:=gD r (rN kvs p.1 p.2)
  have h2:=fL kvs p.1 p.2
  show (mG (rN kvs p.1 p.2) r).length<=_
  rw[AAA];lia
theorem mN:∀{kvs:List (Key×V)}{ws:List (Value×Value)},VV (kvs.map λkv=>(kV kv.1,kv.2)) ws->∃rs,Carries (br P w) ws rs/\KV kvs rs
 | [],_,r=>by rw[ACh]at r;cases r;exact⟨[],AD5,.nil⟩
 | p::kvs,_,r=>by
  rw[AAM]at r
  cases r with
  | @cons a b as bs h t =>
   obtain⟨rs,c,q⟩:=mN (P:=P) (w:=w) t
   obtain⟨b1,b2⟩:=b
   exact⟨(p.1,b2)::rs,⟨Fa h.1,rfl,c⟩,.cons ⟨rfl,h.2⟩ q⟩
def tDisp(trs:List (TE×TE)):TE:=λσ H Q=>∀p,H p=none->xB trs σ (upd H p (.dK [])) λps H2=>H2 p=some (.dK [])/\∃kvs:List (Key×V),ps=kvs.map (λkv=>(kV kv.1,kv.2))/\kvs.length<=15/\Q (.ref p) (upd H2 p (.dK (mG [] kvs)))
theorem Ed(h:PPs X pos keys values trs)(hall:keys.all (·.isSome)=true)(hl:keys.length=values.length)(h0:keys≠[])
  (h15:keys.length<=15):PE X (.Dict keys values pos) (tDisp trs):=by
 intro pins s σ H Q I q
 have hn:=I.hok.fresh (AAD s.heap.objs.size)
 have I1:=I.laid (a:=s.heap.objs.size) (o:=.dK []) (h':=s.heap.push { cls:=.type "dict",data:=.dict #[] }) (t':=s.toks) (λ_ _ q=>AA4 _ q) (AAD _) (Ce s.heap I.big)
 refine wpAny_Dict_walk (knd:=br X.prog X.w) hall hl h0 h15 (thn (h pins _ σ _ _ I1 (q _ hn)) λws s2 ⟨ps,H2,I2,rel,e,kvs,ep,lk,q2⟩=>?_)
 subst ep
 obtain⟨rs,c,rk⟩:=mN (P:=X.prog) (w:=X.w) rel
 obtain⟨z,hd,vs0,r0,dd⟩:=Jv I2.hok e
 cases r0
 refine⟨rs,c,dd,λh' dd' hs=>⟨.ref s.heap.objs.size,_,?_,rfl,q2⟩⟩
 have hz:(mG [] kvs).length<=sizeLine:=by
  have h1:=gD kvs []
  rw[AAW]at h1
  rw[ABl];lia
 have he:∃q,h'.get? s.heap.objs.size=some q:=let ⟨q,_,_,hq,_⟩:=dd';⟨q,hq⟩
 exact og I2 (by rw[e];exact AD5) hs he (Dh hz hd (rk.merge .nil) dd')
end L2
namespace DL
open PySem
theorem fO(env:Env):∀(names:List (Str×NameKind)) (acc:List (Str×Addr)),
  (∀p∈names,p.2=ABN->∃c,env.cells.lookup p.1=some c) ->
  ∃cl,(forIn (m:=Sem) names acc λ(p:Str×NameKind) (r:List (Str×Addr)) =>
    if (p.2==ABN)=true then(do let a ←cellOf env p.1;pure (AEA ((p.1,a)::r)))else pure (AEA r))=pure cl /\
   (∀z c,cl.lookup z=some c->acc.lookup z=some c\/env.cells.lookup z=some c) /\
   (∀z c,acc.lookup z=some c->∃c',cl.lookup z=some c') /\
   (∀p∈names,p.2=ABN->∃c,cl.lookup p.1=some c)
 | [],acc,_=>⟨acc,rfl,λ_ _ h=>.inl h,λz c h=>⟨c,h⟩,λ_ h=>nomatch h⟩
 | (n,k)::aN,acc,hyp=>by
  by_cases hk:k=ABN
  ·subst hk
   obtain⟨c0,hc0⟩:=hyp (n,.free) AAI rfl
   obtain⟨cl,e,h1,h2,h3⟩:=fO env aN ((n,c0)::acc) λp hp=>hyp p (AA9 _ hp)
   have ce:cellOf env n=pure c0:=by unfold cellOf;rw[hc0]
   have own:∃c',cl.lookup n=some c':=h2 n c0 (by simp[ABP])
   refine⟨cl,?_,λz c hz=>?_,λz c hz=>?_,λp hp hf=>?_⟩
   ·rw[AEB]
    simp only[beq_self_eq_true,if_true,ce,pure_bind]
    exact e
   ·rcases h1 z c hz with q | q
    ·rw[ABP]at q
     by_cases hz':(z==n)=true
     ·rw[hz']at q
      have:z=n:=by simpa using hz'
      subst this
      cases q
      exact .inr hc0
     ·have hz'':(z==n)=false:=by simpa using hz'
      rw[hz'']at q
      exact .inl q
    ·exact .inr q
   ·by_cases hz':z=n
    ·subst hz';exact own
    ·refine h2 z c ?_
     rw[ABP]
     have hz'':(z==n)=false:=by simpa using hz'
     rw[hz'']
     exact hz
   ·rcases AAH.mp hp with rfl | hp
    ·exact own
    ·exact h3 p hp hf
  ·have hb:(k==ABN)=false:=by simpa using hk
   obtain⟨cl,e,h1,h2,h3⟩:=fO env aN acc λp hp=>hyp p (AA9 _ hp)
   refine⟨cl,?_,h1,h2,λp hp hf=>?_⟩
   ·rw[AEB]
    simp only[hb,AAF,if_false,pure_bind]
    exact e
   ·rcases AAH.mp hp with rfl | hp
    ·exact absurd hf hk
    ·exact h3 p hp hf
theorem iR(hyp:∀p∈scope.names,p.2=ABN->∃c,env.cells.lookup p.1=some c) :
  ∃cl,closureFor scope env=pure cl/\(∀z c,cl.lookup z=some c->env.cells.lookup z=some c)/\(∀p∈scope.names,p.2=ABN->∃c,cl.lookup p.1=some c):=by
 obtain⟨cl,e,h1,h2,h3⟩:=fO env scope.names [] hyp
 refine⟨cl,?_,λz c hz=>?_,h3⟩
 ·unfold closureFor
  simp only[bind_pure]
  exact e
 ·rcases h1 z c hz with q | q
  ·simp at q
  ·exact q
theorem dW{env:Env}:∀{names:List (Str×NameKind)}{x:Str}{k:NameKind},
  (names.map λ(p:Str×NameKind)=>if (p.2==ABN&&env.scope.kind==.function&&env.kindOf p.1==some .cell)=true then(p.1,ACj)else(p.1,p.2)).lookup x=some k ->
   (names.lookup x=some k\/(k=ACj/\names.lookup x=some .free))
 | [],_,_,h=>by simp at h
 | (n,j)::aN,x,k,h=>by
  have ih:=@dW env aN x k
  rw[AAM,ABP]at h
  by_cases hx:(x==n)=true
  ·have hl:List.lookup x ((n,j)::aN)=some j:=by rw[ABP,hx]
   rw[hl]
   by_cases hc:(j==ABN&&env.scope.kind==.function&&env.kindOf n==some .cell)=true
   ·simp only[hc,if_true,hx]at h
    cases h
    have:j=ABN:=by
     simp only[AAC]at hc
     simpa using hc.1.1
    exact .inr ⟨rfl,by rw[this]⟩
   ·simp only[hc,AAF,if_false,hx]at h
    exact .inl h
  ·have hx':(x==n)=false:=by simpa using hx
   have hl:List.lookup x ((n,j)::aN)=List.lookup x aN:=by rw[ABP,hx']
   rw[hl]
   refine ih ?_
   by_cases hc:(j==ABN&&env.scope.kind==.function&&env.kindOf n==some .cell)=true
   ·simp only[hc,if_true,hx']at h
    exact h
   ·simp only[hc,AAF,if_false,hx']at h
    exact h
section
variable{prog:Program}{w:World}{A:Around}{R:Result->Shared->Prop}{s:Shared}
theorem mX(ifs:List Expr)(env:Env):compTests ifs env =
  (forIn ifs true λc r=>if r=true then do let ok ←isTrue c env (eval c env);pure (AEA ok)else pure (AEA r)):=by
 unfold compTests
 simp only[bind_pure]
theorem wD(J:Nat->Shared->Prop)(ne:Value->Shared->Prop)
  (hne:∀e s',ne e s'->notedBy (model prog w) A env (λe s'=>R (.error e) s') e s')
  (turn:∀n s,J n s->wpAny (model prog w) A (pyNext it) (λr s1=>match r with
   | none=>R (.ok .next) s1
   | some v=>wpAny (model prog w) A (letOwnedTupleGo target it v) (λ_ s2=>wpAny (model prog w) A (assign target env v) (λ_ s3 =>
     wpAny (model prog w) A (compTests ifs env) (λok s4 =>
      if ok=true then wpAny (model prog w) A (eval elt env) (λy s5=>wpAny (model prog w) A (call (.builtin "list.append") [acc,y]) (λ_ s6=>∃m,m<n/\J m s6) ne s5) ne s4
      else ∃m,m<n/\J m s4) ne s3) ne s2) ne s1) ne s)
  (n:Nat) (h:J n s):codeAny (model prog w) A (.compLoop (.ListComp elt [⟨target,iter,ifs,0⟩] scope pos) 0 it acc env) R s:=by
 refine codeAny_loop rfl J (λn s hJ=>?_) n h
 show wpAny _ A ((compTurn (.ListComp elt [⟨target,iter,ifs,0⟩] scope pos) 0 it acc env).onRaise (λx=>do noteFrame x env;theTreesLotGoes x)) _ _ s
 refine wpAny_noted ?_
 rw[compTurn_list]
 refine AA0 (wpAny_standAt (AA0 (ABh (turn n s hJ) (λr s1 h1=>?_) hne)))
 cases r with
 | none=>exact AA3 h1
 | some v =>
  refine AA0 (ABh h1 (λ_ s2 h2=>?_) hne)
  refine AA0 (ABh h2 (λ_ s3 h3=>?_) hne)
  rw[mX]at h3
  refine AA0 (ABh h3 (λok s4 h4=>?_) hne)
  cases ok with
  | false=>exact AA3 ⟨rfl,h4⟩
  | true =>
   exact AA0 (AA0 (ABh h4 (λy s5 h5=>AA0 (ABh h5 (λ_ s6 h6=>AA3 (AA3 ⟨rfl,h6⟩)) hne)) hne))
end
end DL
namespace L2
open PySem PySem.Spec PyProof.Rows DL
theorem iJ{env:Env}:∀{names:List (Str×NameKind)}{x:Str},names.lookup x=some .free ->
  ((names.map λ(p:Str×NameKind)=>if (p.2==ABN&&env.scope.kind==.function&&env.kindOf p.1==some .cell)=true then(p.1,ACj)else(p.1,p.2)).lookup x=some .cell \/
   (names.map λ(p:Str×NameKind)=>if (p.2==ABN&&env.scope.kind==.function&&env.kindOf p.1==some .cell)=true then(p.1,ACj)else(p.1,p.2)).lookup x=some .free)
 | [],_,h=>by simp at h
 | (n,j)::aN,x,h=>by
  have ih:=@iJ env aN x
  rw[AAM,ABP]
  rw[ABP]at h
  by_cases hc:(j==ABN&&env.scope.kind==.function&&env.kindOf n==some .cell)=true
  ·by_cases hx:(x==n)=true
   ·simp[hc,hx]
   ·have hx':(x==n)=false:=by simpa using hx
    rw[hx']at h
    simp only[hc,if_true,hx']
    exact ih h
  ·by_cases hx:(x==n)=true
   ·rw[hx]at h
    cases h
    right
    simp only[hc,AAF,if_false,hx]
   ·have hx':(x==n)=false:=by simpa using hx
    rw[hx']at h
    simp only[hc,AAF,if_false,hx']
    exact ih h
def blk(X:Cx)(N':List Str)(scope:Scope)(cl:List (Str×Addr))(s₀:Shared)(H₀:Hp)(ex:List Addr):Cx :=
 { X with N:=N',s₀:=s₀,H₀:=H₀,env:=compEnvC scope cl s₀.heap.objs.size X.env,outer:=X.stack,ex:=ex,fn:=λx=>scope.names.lookup x==some .cell,pn:=[],xe:=λ_ _=>False }
structure BlkSc(X:Cx)(N':List Str)(nt:Nat)(js:List Nat)(scope:Scope):Prop where
 kind:scope.kind=.function
 nocell:∀y∈scope.names,y.2≠.cell
 loc:∀y∈scope.names,y.2=.local->scope.names.lookup y.1=some .local
 free:∀y∈scope.names,y.2=.free->(X.env.kindOf y.1=some .cell\/X.env.kindOf y.1=some .free)
 len:N'.length=nt+js.length
 fr:∀(k j:Nat),js[k]?=some j->∃x,N'[nt+k]?=some x/\X.N[j]?=some x/\scope.names.lookup x=some .free/\(X.env.kindOf x=some .cell\/X.env.kindOf x=some .free)
def bst(nt:Nat)(js:List Nat)(σ:St):St:=ADv nt none++js.map λj=>(σ[j]?).join
theorem Ab(nt:Nat)(js:List Nat)(σ:St):(bst nt js σ).length=nt+js.length:=by simp[bst]
theorem FX(h:(bst nt js σ)[i]?=some (some v)):∃k j,i=nt+k/\js[k]?=some j/\σ[j]?=some (some v):=by
 unfold bst at h
 by_cases hi:i<nt
 ·rw[AAJ (by simpa using hi),ACi]at h
  simp[hi]at h
 ·rw[AAg (by simpa using AD6.mp hi),AD1,AAU]at h
  cases e:js[i-nt]? with
  | none=>rw[e]at h;cases h
  | some j =>
   rw[e]at h
   refine⟨i-nt,j,by lia,e,?_⟩
   have h':(σ[j]?).join=some v:=by simpa using h
   cases q:σ[j]? with
   | none=>rw[q]at h';cases h'
   | some o=>rw[q]at h';exact congrArg some h'
def PTs(X:Cx)(ifs:List Expr)(t:TT):Prop :=
 ∀(pins:List (Addr×Obj)) (s:Shared) (σ:St) (H:Hp) (Q:Bool->Hp->Prop),Inv X pins σ H s->t σ H Q->wpAny (model X.prog X.w) X.A (compTests ifs X.env) (TP X pins σ Q) X.xe s
def ttNil:TT:=λ_ H Q=>Q true H
theorem DQ:PTs X [] ttNil:=λpins s σ H Q I h=>by
 rw[mX]
 exact wpAny_tests_nil ⟨H,I,h⟩
theorem DP(h:PT X c t):PTs X [c] t:=λpins s σ H Q I hq=>by
 rw[mX]
 exact wpAny_tests_one (h pins s σ H Q I hq)
def tLC(nt:Nat)(js:List Nat)(wi:TI)(g:TG)(tt:TT)(te:TE):TE:=λσ H Q=>wi σ H λJ H1=>∃W:Nat->Nat->List V->St->Hp->Prop,(∃m,W 0 m [] (bst nt js σ) H1) /\
 ∀i m vs τ H,W i m vs τ H->(J.stop i H/\∀p,H p=none->Q (.ref p) (upd H p (.lst vs))) \/
  (J.go i H/\∀x H',J.yld i H x H'->g x τ H' λτ2 H2=>tt τ2 H2 λb H3=>if b=true then te τ2 H3 λy H4=>vs.length<sizeLine/\∃m',m' < m/\W (i+1) m' (vs++[y]) τ2 H4 else ∃m',m' < m/\W (i+1) m' vs τ2 H3)
abbrev cf(its:List Value)(k:Nat):Obj:={ cls:=.type "list",data:=.seq its.toArray k }
section
variable{X:Cx}{pins:List (Addr×Obj)}{σ:St}{H:Hp}{s:Shared}
theorem Inv.blkOk(B:BlkSc X N' nt js scope)(I:Inv X pins σ H s)
  (hcl1:∀z c,cl.lookup z=some c->X.env.cells.lookup z=some c) (hcl2:∀p∈scope.names,p.2=ABN->∃c,cl.lookup p.1=some c) (hf:∀b∈fp,vn X pins H b) (hfs:∀b∈fp,b<s.heap.objs.size) :
  (blk X N' scope cl { s with heap:=s.heap.push ob } H (s.heap.objs.size::fp)).Ok:=by
 have J:Inv X pins σ H { s with heap:=s.heap.push ob }:=I.kept (t':=s.toks) λb o e=>AA4 _ e
 have ltc:∀z c,cl.lookup z=some c->c<s.heap.objs.size:=λz c e=>by
  obtain⟨v,q⟩:=I.cell z c (hcl1 z c e)
  exact q.lt
 have hC:(s.heap.push ob).objs.size=s.heap.objs.size+1:=AB1 ..
 refine⟨I.ok.mod,B.kind,I.ok.glob,I.ok.blt,AAD _,λy z c h1 h2=>I.ok.inj y z c (hcl1 y c h1) (hcl1 z c h2),λy hy=>?_,λy c h=>?_,I.ok.hd,I.ok.frames,.inl rfl,λb hb=>?_,λb o e=>?_,?_,λb o e hb=>?_,λb hb=>?_,J.stack,I.stkFree⟩
 ·have key:scope.names.lookup y=some .free:=by
   rcases hy with hy | hy
   ·rcases dW (env:=X.env) (names:=scope.names) (x:=y) (k:=.cell) hy with q | ⟨_,q⟩
    ·exact absurd rfl (B.nocell _ (ABV q))
    ·exact q
   ·rcases dW (env:=X.env) (names:=scope.names) (x:=y) (k:=.free) hy with q | ⟨q,_⟩
    ·exact q
    ·cases q
  exact hcl2 (y,.free) (ABV key) rfl
 ·exact absurd rfl (B.nocell _ (ABV (beq_iff_eq.mp (show (scope.names.lookup y==some ACj)=true from h))))
 ·show b≠(s.heap.push ob).objs.size/\∀x c,cl.lookup x=some c->c≠b
  rw[hC]
  rcases AAH.mp hb with rfl | hb
  ·exact⟨AAQ (AB5 _),λx c e=>AAQ (ltc x c e)⟩
  ·exact⟨AAQ (AC9 (hfs b hb)),λx c e=>(hf b hb).2.2.2.2.1 x c (hcl1 x c e)⟩
 ·exact⟨AA4 _ (I.bs b o e).1,(I.bs b o e).2⟩
 ·show X.base.objs.size<=(s.heap.push ob).objs.size
  rw[hC]
  exact Nat.le_succ_of_le (ABT I.ok.bsz I.sz)
 ·rcases AAH.mp hb with rfl | hb
  ·exact absurd (AAG (I.bs _ o e).1) (AAq _)
  ·rcases(hf b hb).2.2.2.1 with z | z
   ·exact I.ok.noex b o e z
   ·exact absurd (AAd (AAG (I.ok.bs b o e).1) z) (AAq _)
 ·intro hz
  have hz':=I.stkSub b hz
  rcases AAH.mp hb with rfl | hb
  ·rcases AAH.mp hz' with q | q
   ·exact absurd I.lt (by rw[←q];exact AAq _)
   ·exact I.nofs (AAD _) q
  ·rcases AAH.mp hz' with q | q
   ·exact(hf b hb).2.1 q
   ·exact(hf b hb).2.2.1 q
theorem Inv.blkStart(B:BlkSc X N' nt js scope)(I:Inv X pins σ H s)
  (hcl1:∀z c,cl.lookup z=some c->X.env.cells.lookup z=some c) (hcl2:∀p∈scope.names,p.2=ABN->∃c,cl.lookup p.1=some c) (hf:∀b∈fp,vn X pins H b) (hfs:∀b∈fp,b<s.heap.objs.size)
  (old:∀b o,(s.heap.push (cf [] 0)).get? b=some o->h1.get? b=some o) (hn:h1.Ns (s.heap.push (cf [] 0)).objs.size mm) :
  Inv (blk X N' scope cl { s with heap:=s.heap.push (cf [] 0) } H (s.heap.objs.size::fp)) [(s.heap.objs.size,cf [] 0)] (bst nt js σ) H { s with heap:=h1,toks:=tk }:=by
 have old2:∀b o,s.heap.get? b=some o->h1.get? b=some o:=λb o e=>old b o (AA4 _ e)
 have hC:(s.heap.push (cf [] 0)).objs.size=s.heap.objs.size+1:=AB1 ..
 refine⟨I.blkOk B hcl1 hcl2 hf hfs,rfl,I.bare,Un.kept old,⟨mm,hn,λi x v e1 e2 e3=>?_⟩,λx c e=>?_,?_,λx c e=>I.freeC x c (hcl1 x c e),λp hp=>?_,I.hok.kept old2,?_⟩
 ·obtain⟨k,j,rfl,hj,hσ⟩:=FX e2
  obtain⟨x',n1,n2,lf,kf⟩:=B.fr k j hj
  have ex:x=x':=AAR (e1.symm.trans n1)
  subst ex
  obtain⟨m2,hn2,hl2⟩:=I.loc
  have vis:Vis X.env.scope x:=kf.elim (λz=>.inr (.inl z)) λz=>.inr (.inr z)
  obtain⟨u,r,look⟩:=hl2 j x v n2 hσ vis
  refine⟨u,r,?_⟩
  rcases look with⟨q,_⟩|⟨q,c,hc,hcell⟩
  ·rcases kf with z | z<;>(rw[q]at z;cases z)
  ·obtain⟨c',hc'⟩:=hcl2 (x,.free) (ABV lf) rfl
   have:c'=c:=AAR ((hcl1 x c' hc').symm.trans hc)
   subst this
   exact .inr ⟨iJ (env:=X.env) lf,c',hc',hcell.keeps old2⟩
 ·obtain⟨v,q⟩:=I.cell x c (hcl1 x c e)
  exact⟨v,q.keeps old2⟩
 ·exact I.hok.fresh (by show s.heap.objs.size<=(s.heap.push (cf [] 0)).objs.size;rw[hC];exact ADn _)
 ·have e:p=(s.heap.objs.size,cf [] 0):=by simpa [blk]using hp
  subst e
  refine⟨old _ _ (AAE _ rfl),I.hok.fresh (AAD _),?_,?_,λv z=>by cases z⟩
  ·show s.heap.objs.size≠(s.heap.push (cf [] 0)).objs.size
   rw[hC]
   exact AAQ (AB5 _)
  ·intro hz
   rcases AAH.mp (I.stkSub _ hz)with q | q
   ·exact absurd I.lt (by rw[←q];exact AAq _)
   ·exact I.nofs (AAD _) q
 ·rw[Ab]
  exact B.len.symm
theorem Inv.blkEnd(I:Inv X pins σ H s)
  (hf:∀b∈fp,vn X pins H b)
  (I4:Inv (blk X N' scope cl { s with heap:=s.heap.push (cf [] 0) } H (s.heap.objs.size::fp)) [(s.heap.objs.size,cf its k)] τ H' s')
  (rv:ax vs its) (hl:vs.length<=sizeLine) (sb:ABM (s.heap.push (cf [] 0)).objs.size s'.heap h') :
  Inv X pins σ (upd H' s.heap.objs.size (.lst vs)) { s' with heap:=h' }:=by
 have hC:(s.heap.push (cf [] 0)).objs.size=s.heap.objs.size+1:=AB1 ..
 have hDC:s.heap.objs.size≠(s.heap.push (cf [] 0)).objs.size:=by rw[hC];exact AAQ (AB5 _)
 obtain⟨oD,fD,_⟩:=I4.pin (s.heap.objs.size,cf its k) (by simp[blk])
 have oD':s'.heap.get? s.heap.objs.size=some (cf its k):=oD
 have fD':H' s.heap.objs.size=none:=fD
 have fC:H' (s.heap.push (cf [] 0)).objs.size=none:=I4.free
 have u:Un (frs X.stack) (s.heap.objs.size::fp) H H' (s.heap.push (cf [] 0)) s'.heap:=I4.base
 have ne:∀b o,s.heap.get? b=some o->b≠s.heap.objs.size/\b≠(s.heap.push (cf [] 0)).objs.size:=λb o e=>by
  have:=AAG e
  exact⟨AAQ this,by rw[hC];exact AAQ (AC9 this)⟩
 have up:∀b o,s.heap.get? b=some o->(s.heap.push (cf [] 0)).get? b=some o:=λb o e=>AA4 _ e
 have nx:∀b o,s.heap.get? b=some o->b∉fp->b∉s.heap.objs.size::fp:=λb o e hx hz=>by
  rcases AAH.mp hz with q | q
  ·exact(ne b o e).1 q
  ·exact hx q
 refine I.call' (s':={ s' with heap:=h' }) (ch:=fp) I4.os ⟨λb o e n hb hx=>?_,λb o e n hb hx=>?_,λb o e n hx=>?_,λb o e hx=>?_,λb xs e=>?_,λb o w e=>?_,λb ps e=>?_⟩ (λb w q=>?_) I4.bare λb hb=>?_
 ·exact(sb.2 b (ne b o e).2).trans (u.keep b o (up b o e) n hb (nx b o e hx))
 ·obtain⟨sl,z⟩:=u.slot b o (up b o e) n hb (nx b o e hx)
  exact⟨sl,(sb.2 b (ne b o e).2).trans z⟩
 ·rw[av (ne b o e).1]
  exact u.free b o (up b o e) n (nx b o e hx)
 ·obtain⟨o',z⟩:=u.there b o (up b o e) (nx b o e hx)
  exact⟨o',(sb.2 b (ne b o e).2).trans z⟩
 ·have z:=u.tups b xs e
  rw[av (ad z fD')]
  exact z
 ·have z:=u.frzs b o w e
  rw[av (ad z fD')]
  exact z
 ·obtain⟨more,z⟩:=u.tbls b ps e
  exact⟨more,by rw[av (ad z fD')];exact z⟩
 ·by_cases hb:b=s.heap.objs.size
  ·subst hb
   rw[aV]at q
   cases q
   exact⟨hl,its,k,rv,(sb.2 _ hDC).trans oD'⟩
  ·rw[av hb]at q
   refine(I4.hok b w q).stay (λc v hc r=>(sb.2 c ?_).trans r) (λc z=>by rw[av (ad z fD')];exact z) λc xs z=>by rw[av (ad z fD')];exact z
   rcases hc with rfl | hc
   ·exact ad q fC
   ·exact ad hc fC
 ·obtain⟨_,f1,_,f3,f4,f5⟩:=hf b hb
  exact⟨f3,f1,f4,f5⟩
theorem za{elt tg iter:Expr}{ifs:List Expr}{scope:Scope}{pos:Pos}{N':List Str}{cl:List (Str×Addr)}{J:It}{fp:List Addr}{it:Addr}{tn:Nat->Heap->Prop}{g:TG}{tt:TT}{te:TE}{Q:VK}
  {W:Nat->Nat->List V->St->Hp->Prop}{R:Result->Shared->Prop}{s0:Shared}{H0:Hp}{D:Addr} (hc:X.calm=true)
  (hg:PG (blk X N' scope cl s0 H0 (D::fp)) tg g) (ht:PTs (blk X N' scope cl s0 H0 (D::fp)) ifs tt) (he:PE (blk X N' scope cl s0 H0 (D::fp)) elt te)
  (T:Turn X.prog X.w X.K tg J fp it tn) (hDf:D∉fp)
  (turn:∀i m vs τ H,W i m vs τ H->(J.stop i H/\∀p,H p=none->Q (.ref p) (upd H p (.lst vs))) \/
   (J.go i H/\∀x H',J.yld i H x H'->g x τ H' λτ2 H2=>tt τ2 H2 λb H3=>if b=true then te τ2 H3 λy H4=>vs.length<sizeLine/\∃m',m' < m/\W (i+1) m' (vs++[y]) τ2 H4 else ∃m',m' < m/\W (i+1) m' vs τ2 H3))
  (hstat:∀b∈fp,b≠s0.heap.objs.size/\b∉frs X.stack/\∀x c,cl.lookup x=some c->c≠b) (hDC:D≠s0.heap.objs.size) (hDs:D∉frs X.stack) (hDc:∀x c,cl.lookup x=some c->c≠D)
  (fin:∀τ H' s' vs its k,Inv (blk X N' scope cl s0 H0 (D::fp)) [(D,cf its k)] τ H' s'->ax vs its->vs.length<=sizeLine->Q (.ref D) (upd H' D (.lst vs))->R (.ok .next) s')
  (m0:Nat) {τ0:St}{s3:Shared}{H3:Hp} (I3:Inv (blk X N' scope cl s0 H0 (D::fp)) [(D,cf [] 0)] τ0 H3 s3) (st3:tn 0 s3.heap) (fr3:∀b∈fp,H3 b=none) (w0:W 0 m0 [] τ0 H3) :
  codeAny (model X.prog X.w) X.A (.compLoop (.ListComp elt [⟨tg,iter,ifs,0⟩] scope pos) 0 (.ref it) (.ref D) (compEnvC scope cl s0.heap.objs.size X.env)) R s3:=by
 have fok:∀{ob:Obj}{H':Hp},(∀b∈fp,H' b=none)->∀b∈fp,vn (blk X N' scope cl s0 H0 (D::fp)) [(D,ob)] H' b:=λ{ob H'} hn b hb=>by
  obtain⟨a1,a2,a3⟩:=hstat b hb
  refine⟨hn b hb,a1,a2,.inl (AA9 _ hb),a3,λp hp z=>?_⟩
  have e:p=(D,ob):=by simpa [blk]using hp
  subst e
  exact hDf (by rw[show D=b from z];exact hb)
 refine wD (λn s'=>∃i τ H' vs its k,Inv (blk X N' scope cl s0 H0 (D::fp)) [(D,cf its k)] τ H' s'/\tn i s'.heap/\(∀b∈fp,H' b=none)/\ax vs its/\vs.length<=sizeLine/\W i n vs τ H')
  (λ_ _=>False) (λ_ _ z=>z.elim) ?_ m0 ⟨0,τ0,H3,[],[],0,I3,st3,fr3,.nil,AAT _,w0⟩
 rintro n s' ⟨i,τ,H',vs,its,k,I',st',fr',rv,hl,w'⟩
 rcases turn i n vs τ H' w' with⟨stop,q⟩|⟨go,step⟩
 ·refine thn (T.done (blk X N' scope cl s0 H0 (D::fp)) rfl rfl rfl hc i _ s' τ H' (λ_ _=>False) I' (fok fr') st' stop) λr s4 ⟨hr,I4⟩=>?_
  subst hr
  exact fin τ H' s4 vs its k I4 rv hl (q D (I'.pin (D,cf its k) (by simp[blk])).2.1)
 ·refine thn (T.item (blk X N' scope cl s0 H0 (D::fp)) rfl rfl rfl hc i _ s' τ H' (λ_ _=>False) I' (fok fr') st' go) λr s4 ⟨u,hr,h4⟩=>?_
  subst hr
  refine thn h4 λ_ s5 ⟨x,H5,I5,r5,y5,st5,fr5⟩=>?_
  have I5':=I5.pinned (fok fr5) (T.obj _ _ st5)
  refine thn (hg _ s5 τ H5 x u _ I5' r5 (step x H5 y5)) λ_ s6 ⟨τ6,H6,I6,q6⟩=>?_
  refine thn (ht _ s6 τ6 H6 _ I6 q6) λok s7 ⟨H7,I7,q7⟩=>?_
  have memF:∀{b:Addr}{o:Obj},b∈fp->s5.heap.get? b=some o->(b,o)∈(blk X N' scope cl s0 H0 (D::fp)).pn++([(D,cf its k)]++gs fp s5.heap):=λhb e=>AAc _ (AAc _ (eL hb e))
  cases ok with
  | false =>
   obtain⟨m',hm,w7⟩:=(show ∃m',m' < n/\W (i+1) m' vs τ6 H7 from q7)
   refine⟨m',hm,i+1,τ6,H7,vs,its,k,I7.unpinned,T.keep _ _ _ st5 λb hb o e=>(I7.pin (b,o) (memF hb e)).1,λb hb=>?_,rv,hl,w7⟩
   obtain⟨o,e,_⟩:=T.obj _ _ st5 b hb
   exact(I7.pin (b,o) (memF hb e)).2.1
  | true =>
   refine thn (he _ s7 τ6 H7 _ I7 q7) λyv s8 ⟨y,H8,I8,r8,q8⟩=>?_
   obtain⟨hsz,m',hm,w8⟩:=q8
   obtain⟨oD,fD,_⟩:=I8.pin (D,cf its k) (AAc _ (ACY _ (by simp)))
   have fD':H8 D=none:=fD
   refine append_at (its:=its.toArray) (n:=k) oD (λh9 sb9 o9=>?_) (by rw[AAB,←rv.length];exact hl)
   have J8:Inv (blk X N' scope cl s0 H0 (D::fp)) (gs fp s5.heap) τ6 H8 s8:=I8.pins_of λp hp=>I8.pin p (AAc _ (AAc _ hp))
   have J9:Inv (blk X N' scope cl s0 H0 (D::fp)) (gs fp s5.heap) τ6 H8 { s8 with heap:=h9 }:=J8.turned (t':=s8.toks) (it:=D) (λb o hb e=>(sb9.2 b hb).trans e) fD' hDC (.inl AAI) hDc λp hp z=>by
    have hp':p∈gs fp s5.heap:=by simpa [blk]using hp
    exact hDf (by rw[←z];exact(qA hp').1)
   have memG:∀{b:Addr}{o:Obj},b∈fp->s5.heap.get? b=some o->(b,o)∈(blk X N' scope cl s0 H0 (D::fp)).pn++gs fp s5.heap:=λhb e=>AAc _ (eL hb e)
   refine⟨m',hm,i+1,τ6,H8,vs++[y],its++[yv],k+1,J9.pins_of λp hp=>?_,T.keep _ _ _ st5 λb hb o e=>(J9.pin (b,o) (memG hb e)).1,λb hb=>?_,rv.append (.cons r8 .nil),?_,w8⟩
   ·have e:p=(D,cf (its++[yv]) (k+1)):=by simpa using hp
    subst e
    refine⟨?_,fD',hDC,hDs,λv z=>by cases z⟩
    rw[show cf (its++[yv]) (k+1)=({ cls:=.type "list",data:=.seq (its.toArray.push yv) (k+1) }:Obj) by rw[List.push_toArray]]
    exact o9
   ·obtain⟨o,e,_⟩:=T.obj _ _ st5 b hb
    exact(J9.pin (b,o) (memG hb e)).2.1
   ·rw[AA8]
    exact hsz
end
section
variable{X:Cx}
theorem pe_lc{elt tg iter:Expr}{ifs:List Expr}{scope:Scope}{pos:Pos}{N':List Str}{nt:Nat}{js:List Nat}{wi:TI}{g:TG}{tt:TT}{te:TE}(B:BlkSc X N' nt js scope)(hc:X.calm=true)(hi:PI X tg iter wi)
  (hg:∀cl s0 H0 ex,PG (blk X N' scope cl s0 H0 ex) tg g) (ht:∀cl s0 H0 ex,PTs (blk X N' scope cl s0 H0 ex) ifs tt) (he:∀cl s0 H0 ex,PE (blk X N' scope cl s0 H0 ex) elt te)
  (hs:∀x,foldedSetIterable iter X.env x=pure x:=by intro _;rfl):PE X (.ListComp elt [⟨tg,iter,ifs,0⟩] scope pos) (tLC nt js wi g tt te):=by
 intro pins s σ H Q I h
 rw[eval_ListComp]
 obtain⟨cl,ecl,hcl1,hcl2⟩:=iR (scope:=scope) (env:=X.env) λp hp hf=>I.ok.has p.1 (B.free p hp hf)
 refine wpAny_comprehension_free (use:=none) rfl hs ecl B.kind B.loc ?_
 refine thn (hi pins s σ H _ I h) λv s1 h1=>thn h1 λitv s2 h2=>?_
 obtain⟨it,fp,tn,J,H2,e,I2,T,st2,f2,W,⟨m0,w0⟩,turn⟩:=h2
 subst e
 refine AAj (wpAny_newFunctionEnv B.nocell (by intro y hy;simp at hy) (λh1 hns1 hsb1=>?_) B.kind)
 have hfs:∀b∈fp,b<s2.heap.objs.size:=λb hb=>by
  obtain⟨o,e,_⟩:=T.obj _ _ st2 b hb
  exact AAG e
 have hC:(s2.heap.push (cf [] 0)).objs.size=s2.heap.objs.size+1:=AB1 ..
 have old:∀b o,(s2.heap.push (cf [] 0)).get? b=some o->h1.get? b=some o:=λb o e=>(hsb1.2 b (AAQ (AAG e))).trans (AA4 _ e)
 have I3:=I2.blkStart (tk:=s2.toks+([]:List (Str×Value)).length) B hcl1 hcl2 f2 hfs old hns1
 have st3:tn 0 h1:=T.keep _ _ _ st2 λb _ o e=>old b o (AA4 _ e)
 have hDf:s2.heap.objs.size∉fp:=λz=>AAq _ (hfs _ z)
 have hDs:s2.heap.objs.size∉frs X.stack:=λz=>by
  rcases AAH.mp (I2.stkSub _ z)with q | q
  ·exact absurd I2.lt (by rw[←q];exact AAq _)
  ·exact I2.nofs (AAD _) q
 have hDC:s2.heap.objs.size≠(s2.heap.push (cf [] 0)).objs.size:=by rw[hC];exact AAQ (AB5 _)
 have ltc:∀z c,cl.lookup z=some c->c<s2.heap.objs.size:=λz c e=>by
  obtain⟨v,q⟩:=I2.cell z c (hcl1 z c e)
  exact q.lt
 have hstat:∀b∈fp,b≠(s2.heap.push (cf [] 0)).objs.size/\b∉frs X.stack/\∀x c,cl.lookup x=some c->c≠b:=λb hb=>by
  refine⟨by rw[hC];exact AAQ (AC9 (hfs b hb)),λz=>?_,λx c e=>(f2 b hb).2.2.2.2.1 x c (hcl1 x c e)⟩
  rcases AAH.mp (I2.stkSub b z)with q | q
  ·exact(f2 b hb).2.1 q
  ·exact(f2 b hb).2.2.1 q
 have loop:codeAny (model X.prog X.w) X.A (.compLoop (.ListComp elt [⟨tg,iter,ifs,0⟩] scope pos) 0 (.ref it) (.ref s2.heap.objs.size) (compEnvC scope cl (s2.heap.push (cf [] 0)).objs.size X.env))
   (compPost (model X.prog X.w) X.A X.xe none (EP X pins σ Q) (.ref s2.heap.objs.size) (s2.heap.push (cf [] 0)).objs.size) { s2 with heap:=h1,toks:=s2.toks+([]:List (Str×Value)).length }:=by
  refine za (s0:={ s2 with heap:=s2.heap.push (cf [] 0) }) (H0:=H2) (N':=N') (Q:=Q) hc (hg _ _ _ _) (ht _ _ _ _) (he _ _ _ _) T hDf turn hstat hDC hDs (λx c e=>AAQ (ltc x c e)) ?_ m0 I3 st3 (λb hb=>(f2 b hb).1) w0
  intro τ H' s' vs its k I4 rv hl q
  obtain⟨mm,hn,_⟩:=id I4.loc
  exact⟨mm,hn,λh' sb=>⟨.ref s2.heap.objs.size,_,I2.blkEnd f2 I4 rv hl sb,rfl,q⟩⟩
 exact codeAny_compStart_list loop (T.self _ 0 _ _ _ st3 loop)
end
end L2
namespace L2
open PySem PySem.Spec PyProof.Rows DL
inductive D where
 | non | bl (b:Bool) | int (i:Int) | str (x:Str) | ty (n:String) | tup (ds:List D) | ref (n:Nat)
inductive MO where
 | lst (xs:List D)
 | fz (xs:List D)
 | kl (xs:List D)
 | dct (kvs:List (Str×D))
 | dkt (kvs:List (D×D))
abbrev Mem:=List MO
def MO.isL:MO->Bool
 | .dct _=>false
 | .dkt _=>false
 | _=>true
def nD(ks:List Str)(vs:List V):List (Key×V):=(ks.zip vs).map λp=>(AC5 p.1,p.2)
mutual
inductive Rep(K:AA5)(ρ:List Addr)(H:Hp):D->V->Prop
 | non:Rep K ρ H .non .non
 | bl (b:Bool):Rep K ρ H (.bl b) (.bl b)
 | int (i:Int):Rep K ρ H (.int i) (.int i)
 | str (x:Str):Rep K ρ H (.str x) (.str x)
 | ty (n:String):Rep K ρ H (.ty n) (.ty n)
 | tup {a:Addr}{vs:List V}{ds:List D} (h:SqT K H a vs) (r:Reps K ρ H ds vs):Rep K ρ H (.tup ds) (.ref a)
 | ref {n:Nat}{a:Addr} (h:ρ[n]?=some a):Rep K ρ H (.ref n) (.ref a)
inductive Reps(K:AA5)(ρ:List Addr)(H:Hp):List D->List V->Prop
 | nil:Reps K ρ H [] []
 | cons {d:D}{v:V}{ds:List D}{vs:List V} (h:Rep K ρ H d v) (t:Reps K ρ H ds vs):Reps K ρ H (d::ds) (v::vs)
end
def KList(K:AA5)(a:Addr)(xs:List V):Prop :=
 ∃(o:Obj) (its:Array Value) (n:Nat),K.lookup a=some o/\o.cls=.type "list"/\o.dict=none/\o.data=.seq its n/\its.size<=sizeLine/\ax xs its.toList
def cK:Nat->D->Bool
 | _,.str _=>true
 | _,.int _=>true
 | n+1,.tup ds=>ds.all (cK n)
 | _,_=>false
def hkD(w:World):Nat->D->Int
 | _,.str x=>hashStr w x
 | _,.int i=>hashInt i
 | n+1,.tup ds=>reduceHash (ABR (ds.map (hkD w n)))
 | _,_=>0
def dX(a:Addr)(xs:List (D×Addr×Value)):Program->World->Heap->Prop:=λ_ w h =>
 ∃(o:Obj) (es:Array DictEntry),h.get? a=some o/\o.ExactDict/\o.data=.dict es xs.length/\es.toList=xs.map λx=>⟨hkD w 8 x.1,.ref x.2.1,x.2.2⟩
def wP(K:AA5)(ρ:List Addr)(H:Hp)(p:D×D)(q:D×Addr×Value):Prop:=p.1=q.1/\cK 8 p.1=true/\Rep K ρ H p.1 (.ref q.2.1)/\∃v,Rep K ρ H p.2 v/\aK v q.2.2
def wO(K:AA5)(ρ:List Addr)(H:Hp)(a:Addr):MO->Prop
 | .lst ds=>∃vs,H a=some (.lst vs)/\Reps K ρ H ds vs
 | .fz ds=>∃o vs,H a=some (.frz o (.lst vs))/\Reps K ρ H ds vs
 | .kl ds=>∃vs,KList K a vs/\Reps K ρ H ds vs
 | .dct kvs=>∃vs,H a=some (.dK (nD (kvs.map (·.1)) vs))/\Reps K ρ H (kvs.map (·.2)) vs
 | .dkt kvs=>kvs.length<=sizeLine/\(a==sysModules)=false/\(kvs.map (·.1)).Nodup/\∃xs,H a=some (.ext (dX a xs))/\Paired (wP K ρ H) kvs xs
def isK(mo:Option MO):Prop:=∃ds,mo=some (.kl ds)
def al(M:Mem)(n:Nat)(xs:List D):Prop:=M[n]?=some (.lst xs)\/M[n]?=some (.fz xs)\/M[n]?=some (.kl xs)
structure Sim(K:AA5)(ρ:List Addr)(M:Mem)(H:Hp):Prop where
 nd:∀(n m:Nat) (a:Addr),n≠m->ρ[n]?=some a->ρ[m]?=some a->isK M[n]?\/isK M[m]?
 len:ρ.length=M.length
 obj:∀(n:Nat) (a:Addr) (mo:MO),ρ[n]?=some a->M[n]?=some mo->wO K ρ H a mo
structure Grow(K:AA5)(ρ:List Addr)(H:Hp)(ρ':List Addr)(H':Hp):Prop where
 pre:ρ <+: ρ'
 tup:∀a xs,SqT K H a xs->SqT K H' a xs
theorem Grow.refl{K:AA5}{ρ:List Addr}{H:Hp}:Grow K ρ H ρ H:=⟨ACb,λ_ _ h=>h⟩
theorem Grow.trans{K:AA5}{ρ ρ1 ρ2:List Addr}{H H1 H2:Hp}(a:Grow K ρ H ρ1 H1)(b:Grow K ρ1 H1 ρ2 H2):Grow K ρ H ρ2 H2:=⟨a.pre.trans b.pre,λx xs h=>b.tup x xs (a.tup x xs h)⟩
theorem aY{α:Type}{l l':List α}(h:l <+: l'){n:Nat}{a:α}(e:l[n]?=some a):l'[n]?=some a:=by
 obtain⟨t,rfl⟩:=h
 rw[AAJ (AA2.mp e).1]
 exact e
mutual
theorem Rep.grow{K:AA5}{ρ ρ':List Addr}{H H':Hp}(g:Grow K ρ H ρ' H'):∀{d:D}{v:V},Rep K ρ H d v->Rep K ρ' H' d v
 | _,_,.non=>.non
 | _,_,.bl b=>.bl b
 | _,_,.int i=>.int i
 | _,_,.str x=>.str x
 | _,_,.ty n=>.ty n
 | _,_,.tup h r=>.tup (g.tup _ _ h) (Reps.grow g r)
 | _,_,.ref h=>.ref (aY g.pre h)
theorem Reps.grow{K:AA5}{ρ ρ':List Addr}{H H':Hp}(g:Grow K ρ H ρ' H'):∀{ds:List D}{vs:List V},Reps K ρ H ds vs->Reps K ρ' H' ds vs
 | _,_,.nil=>.nil
 | _,_,.cons h t=>.cons (Rep.grow g h) (Reps.grow g t)
end
section
variable{K:AA5}{ρ ρ':List Addr}{H H':Hp}{M:Mem}
theorem Reps.length:∀{ds:List D}{vs:List V},Reps K ρ H ds vs->ds.length=vs.length
 | _,_,.nil=>rfl
 | _,_,.cons _ t=>by rw[AAA,AAA,Reps.length t]
theorem Reps.append:∀{ds es:List D}{vs ws:List V},Reps K ρ H ds vs->Reps K ρ H es ws->Reps K ρ H (ds++es) (vs++ws)
 | _,_,_,_,.nil,s=>s
 | _,_,_,_,.cons r t,s=>.cons r (Reps.append t s)
theorem Reps.get:∀{ds:List D}{vs:List V}{i:Nat}{d:D},Reps K ρ H ds vs->ds[i]?=some d->∃v,vs[i]?=some v/\Rep K ρ H d v
 | _,_,_,_,.nil,e=>by simp at e
 | _,_,0,_,.cons r _,e=>by simp at e;subst e;exact⟨_,rfl,r⟩
 | _,_,i+1,d,.cons _ t,e=>by
  obtain⟨v,h1,h2⟩:=Reps.get (i:=i) (d:=d) t (by simpa using e)
  exact⟨v,by simpa using h1,h2⟩
theorem Reps.getV:∀{ds:List D}{vs:List V}{i:Nat}{v:V},Reps K ρ H ds vs->vs[i]?=some v->∃d,ds[i]?=some d/\Rep K ρ H d v
 | _,_,_,_,.nil,e=>by simp at e
 | _,_,0,_,.cons r _,e=>by simp at e;subst e;exact⟨_,rfl,r⟩
 | _,_,i+1,d,.cons _ t,e=>by
  obtain⟨v,h1,h2⟩:=Reps.getV (i:=i) (v:=d) t (by simpa using e)
  exact⟨v,by simpa using h1,h2⟩
theorem Reps.take:∀{ds:List D}{vs:List V} (n:Nat),Reps K ρ H ds vs->Reps K ρ H (ds.take n) (vs.take n)
 | _,_,0,_=>by simpa using .nil
 | _,_,_+1,.nil=>.nil
 | _,_,n+1,.cons r t=>.cons r (Reps.take n t)
theorem Reps.drop:∀{ds:List D}{vs:List V} (n:Nat),Reps K ρ H ds vs->Reps K ρ H (ds.drop n) (vs.drop n)
 | _,_,0,r=>r
 | _,_,_+1,.nil=>.nil
 | _,_,n+1,.cons _ t=>Reps.drop n t
theorem SqT.laid(hp:H p=none)(h:SqT K H a xs):SqT K (upd H p o) a xs:=by
 rcases h with h | h
 ·rcases h with h | ⟨ob,h⟩
  ·exact .inl (.inl (by rw[av (ad h hp)];exact h))
  ·exact .inl (.inr ⟨ob,by rw[av (ad h hp)];exact h⟩)
 ·exact .inr h
theorem SqT.written(hp:H p=some (.lst vs))(h:SqT K H a xs):SqT K (upd H p o) a xs:=by
 rcases h with h | h
 ·rcases h with h | ⟨ob,h⟩
  ·exact .inl (.inl (by rw[av (sJ h hp (by intro z;cases z))];exact h))
  ·exact .inl (.inr ⟨ob,by rw[av (sJ h hp (by intro z;cases z))];exact h⟩)
 ·exact .inr h
theorem Grow.laid(hp:H p=none):Grow K ρ H ρ (upd H p o):=⟨ACb,λ_ _ h=>SqT.laid hp h⟩
theorem Grow.laidR(hp:H p=none):Grow K ρ H (ρ++[p]) (upd H p o):=⟨ABJ _ _,λ_ _ h=>SqT.laid hp h⟩
theorem Sim.tracked(S:Sim K ρ M H){n:Nat}{a:Addr}(e:ρ[n]?=some a):(∃o,H a=some o)\/isK M[n]?:=by
 have hn:n<M.length:=by rw[←S.len];exact(AA2.mp e).1
 have hm:M[n]?=some M[n]:=AA7 hn
 have h:=S.obj n a _ e hm
 rw[hm]
 cases hmo:M[n] with
 | lst ds=>rw[hmo]at h;obtain⟨vs,h,_⟩:=h;exact .inl ⟨_,h⟩
 | fz ds=>rw[hmo]at h;obtain⟨o,vs,h,_⟩:=h;exact .inl ⟨_,h⟩
 | kl ds=>exact .inr ⟨ds,rfl⟩
 | dct kvs=>rw[hmo]at h;obtain⟨vs,h,_⟩:=h;exact .inl ⟨_,h⟩
 | dkt kvs=>rw[hmo]at h;obtain⟨_,_,_,xs,h,_⟩:=h;exact .inl ⟨_,h⟩
theorem wO.grow(g:Grow K ρ H ρ' H')(hs:H' a=H a\/isK (some mo))(h:wO K ρ H a mo):wO K ρ' H' a mo:=by
 cases mo with
 | lst ds =>
  obtain⟨vs,e,r⟩:=h
  rcases hs with hs | ⟨_,z⟩
  ·exact⟨vs,by rw[hs];exact e,r.grow g⟩
  ·cases z
 | fz ds =>
  obtain⟨o,vs,e,r⟩:=h
  rcases hs with hs | ⟨_,z⟩
  ·exact⟨o,vs,by rw[hs];exact e,r.grow g⟩
  ·cases z
 | kl ds=>obtain⟨vs,e,r⟩:=h;exact⟨vs,e,r.grow g⟩
 | dct kvs =>
  obtain⟨vs,e,r⟩:=h
  rcases hs with hs | ⟨_,z⟩
  ·exact⟨vs,by rw[hs];exact e,r.grow g⟩
  ·cases z
 | dkt kvs =>
  obtain⟨h1,h2,h3,xs,e,r⟩:=h
  rcases hs with hs | ⟨_,z⟩
  ·exact⟨h1,h2,h3,xs,by rw[hs];exact e,Paired.mapP r λ_ _ ⟨q1,q2,q3,v,q4,q5⟩=>⟨q1,q2,q3.grow g,v,q4.grow g,q5⟩⟩
  ·cases z
theorem Sim.keeps{p:Addr}{o:HO}(S:Sim K ρ M H)(hp:H p=none){n:Nat}{a:Addr}{mo:MO}(e1:ρ[n]?=some a)(e2:M[n]?=some mo):upd H p o a=H a\/isK (some mo):=by
 rcases S.tracked e1 with⟨ob,hob⟩ | q
 ·exact .inl (av (ad hob hp))
 ·rw[e2]at q
  exact .inr q
theorem Sim.laid{p:Addr}{o:HO}(S:Sim K ρ M H)(hp:H p=none):Sim K ρ M (upd H p o) :=
 ⟨S.nd,S.len,λn a mo e1 e2=>(S.obj n a mo e1 e2).grow (Grow.laid hp) (S.keeps hp e1 e2)⟩
theorem aP{α:Type}{l:List α}{x y:α}{n:Nat}(h:(l++[x])[n]?=some y):l[n]?=some y\/(n=l.length/\y=x):=by
 by_cases hn:n<l.length
 ·rw[AAJ hn]at h
  exact .inl h
 ·have hn':n=l.length:=by
   have:=(AA2.mp h).1
   rw[AA8,AAX]at this
   lia
  subst hn'
  rw[AAg (AAD _),ABy]at h
  simp at h
  exact .inr ⟨rfl,h.symm⟩
theorem isK.more{mo:MO}{n:Nat}(h:isK M[n]?):isK (M++[mo])[n]?:=by
 obtain⟨ds,e⟩:=h
 exact⟨ds,by rw[AAJ (AA2.mp e).1];exact e⟩
theorem Sim.laidL{p:Addr}{ds:List D}{vs:List V}(S:Sim K ρ M H)(hp:H p=none)(r:Reps K ρ H ds vs):Sim K (ρ++[p]) (M++[.lst ds]) (upd H p (.lst vs)):=by
 have g:Grow K ρ H (ρ++[p]) (upd H p (.lst vs)):=Grow.laidR hp
 have old:∀(n:Nat),ρ[n]?=some p->isK M[n]?:=λn e=>by
  rcases S.tracked e with⟨o,q⟩ | q
  ·rw[hp]at q;cases q
  ·exact q
 refine⟨λn m a hnm e1 e2=>?_,by rw[AA8,AA8,S.len];rfl,λn a mo e1 e2=>?_⟩
 ·rcases aP e1 with f1 | ⟨f1,g1⟩
  ·rcases aP e2 with f2 | ⟨f2,g2⟩
   ·exact(S.nd n m a hnm f1 f2).elim (λz=>.inl z.more) λz=>.inr z.more
   ·subst g2
    exact .inl (old n f1).more
  ·rcases aP e2 with f2 | ⟨f2,g2⟩
   ·subst g1
    exact .inr (old m f2).more
   ·exact absurd (f1.trans f2.symm) hnm
 ·rcases aP e1 with f1 | ⟨f1,g1⟩
  ·have hn:n<M.length:=by rw[←S.len];exact(AA2.mp f1).1
   rw[AAJ hn]at e2
   exact(S.obj n a mo f1 e2).grow g (S.keeps hp f1 e2)
  ·subst g1 f1
   rw[S.len,AAg (AAD _),ABy]at e2
   simp at e2
   subst e2
   exact⟨vs,aV,r.grow g⟩
theorem Sim.last(S:Sim K ρ M H):(ρ++[p])[M.length]?=some p:=by
 rw[←S.len,AAg (AAD _),ABy]
 rfl
theorem Sim.write(S:Sim K ρ M H)(e1:ρ[n]?=some a)(hM:M[n]?=some (.lst ds))(hH:H a=some (.lst vs))(r:Reps K ρ H ds' vs') :
  Sim K ρ (M.set n (.lst ds')) (upd H a (.lst vs'))/\Grow K ρ H ρ (upd H a (.lst vs')):=by
 have g:Grow K ρ H ρ (upd H a (.lst vs')):=⟨ACb,λ_ _ h=>SqT.written hH h⟩
 have hk:∀m,m≠n->(M.set n (.lst ds'))[m]?=M[m]?:=λm hm=>AAt (AAz hm)
 have notK:¬isK M[n]?:=λ⟨_,z⟩=>by rw[hM]at z;cases z
 refine⟨⟨λm m' b hne f1 f2=>?_,by rw[ABO];exact S.len,λm b mo f1 f2=>?_⟩,g⟩
 ·have q:=S.nd m m' b hne f1 f2
  by_cases h1:m=n
  ·subst h1
   rw[hk m' (AAz hne)]
   exact .inr (q.resolve_left notK)
  ·rw[hk m h1]
   by_cases h2:m'=n
   ·subst h2
    exact .inl (q.resolve_right notK)
   ·rw[hk m' h2]
    exact q
 by_cases hm:m=n
 ·subst hm
  have hb:b=a:=AAR (f1.symm.trans e1)
  subst hb
  rw[ABD (by rw[←S.len];exact(AA2.mp e1).1)]at f2
  cases f2
  exact⟨vs',aV,r.grow g⟩
 ·rw[hk m hm]at f2
  by_cases hb:b=a
  ·subst hb
   have q:=S.nd m n b hm f1 e1
   have q':=q.resolve_right notK
   rw[f2]at q'
   exact(S.obj m b mo f1 f2).grow g (.inr q')
  ·exact(S.obj m b mo f1 f2).grow g (.inl (av hb))
theorem al.seq(S:Sim K ρ M H)(h:al M n xs)(e:ρ[n]?=some a):∃vs,SqL K H a vs/\Reps K ρ H xs vs:=by
 rcases h with h | h | h
 ·obtain⟨vs,q,r⟩:=S.obj n a _ e h
  exact⟨vs,.inl (.inl q),r⟩
 ·obtain⟨o,vs,q,r⟩:=S.obj n a _ e h
  exact⟨vs,.inl (.inr ⟨o,q⟩),r⟩
 ·obtain⟨vs,q,r⟩:=S.obj n a _ e h
  exact⟨vs,.inr q,r⟩
theorem Sim.get(S:Sim K ρ M H){n:Nat}{mo:MO}(e:M[n]?=some mo):∃a,ρ[n]?=some a/\wO K ρ H a mo:=by
 have hn:n<ρ.length:=by rw[S.len];exact(AA2.mp e).1
 exact⟨ρ[n],AA7 hn,S.obj n _ mo (AA7 hn) e⟩
end
abbrev SD:=List (Option D)
structure SRep(K:AA5)(ρ:List Addr)(H:Hp)(S:SD)(σ:St):Prop where
 len:S.length=σ.length
 get:∀(i:Nat) (d:D),S[i]?=some (some d)->∃v,σ[i]?=some (some v)/\Rep K ρ H d v
theorem SRep.grow{K:AA5}{ρ ρ':List Addr}{H H':Hp}{S:SD}{σ:St}(r:SRep K ρ H S σ)(g:Grow K ρ H ρ' H'):SRep K ρ' H' S σ :=
 ⟨r.len,λi d e=>let ⟨v,h1,h2⟩:=r.get i d e;⟨v,h1,h2.grow g⟩⟩
theorem SRep.set{K:AA5}{ρ:List Addr}{H:Hp}{S:SD}{σ:St}(r:SRep K ρ H S σ)(i:Nat){d:D}{v:V}(h:Rep K ρ H d v):SRep K ρ H (S.set i (some d)) (σ.set i (some v)):=by
 refine⟨by rw[ABO,ABO];exact r.len,λj e hj=>?_⟩
 by_cases hij:i=j
 ·subst hij
  by_cases hl:i<S.length
  ·rw[ABD hl]at hj
   cases hj
   exact⟨v,by rw[ABD (by rw[←r.len];exact hl)],h⟩
  ·rw[ABW (by rw[ABO];lia)]at hj
   cases hj
 ·rw[AAt hij]at hj
  rw[AAt hij]
  exact r.get j e hj
abbrev DK:=D->Mem->Prop
abbrev DTE:=SD->Mem->DK->Prop
abbrev DTT:=SD->Mem->(Bool->Mem->Prop)->Prop
abbrev DTA:=SD->Mem->(List D->Mem->Prop)->Prop
structure DEnds where
 nx:SD->Mem->Prop
 rt:DK
 bk:SD->Mem->Prop:=λ_ _=>False
 ct:SD->Mem->Prop:=λ_ _=>False
abbrev DTS:=DEnds->SD->Mem->Prop
abbrev DTG:=D->SD->Mem->(SD->Mem->Prop)->Prop
abbrev Dk:=List D->SD->Mem->(SD->Mem->Prop)->Prop
abbrev DR2:=D->D->Mem->DK->Prop
abbrev DR1:=D->Mem->DK->Prop
abbrev DRA:=List D->Mem->DK->Prop
section
variable(K:AA5)
inductive VQ(ρ:List Addr)(H:Hp)(Q:DK)(v:V)(H':Hp):Prop
 | mk (d:D) (M':Mem) (ρ':List Addr) (s:Sim K ρ' M' H') (g:Grow K ρ H ρ' H') (r:Rep K ρ' H' d v) (q:Q d M')
inductive BQ(ρ:List Addr)(H:Hp)(Q:Bool->Mem->Prop)(b:Bool)(H':Hp):Prop
 | mk (M':Mem) (ρ':List Addr) (s:Sim K ρ' M' H') (g:Grow K ρ H ρ' H') (q:Q b M')
inductive AQ(ρ:List Addr)(H:Hp)(Q:List D->Mem->Prop)(vs:List V)(H':Hp):Prop
 | mk (ds:List D) (M':Mem) (ρ':List Addr) (s:Sim K ρ' M' H') (g:Grow K ρ H ρ' H') (r:Reps K ρ' H' ds vs) (q:Q ds M')
inductive SQ(ρ:List Addr)(H:Hp)(Q:SD->Mem->Prop)(σ':St)(H':Hp):Prop
 | mk (S':SD) (M':Mem) (ρ':List Addr) (s:Sim K ρ' M' H') (g:Grow K ρ H ρ' H') (r:SRep K ρ' H' S' σ') (q:Q S' M')
structure Ups(ρ:List Addr)(H:Hp)(F:DEnds)(E:Ends):Prop where
 nx:∀σ' H',SQ K ρ H F.nx σ' H'->E.nx σ' H'
 rt:∀v H',VQ K ρ H F.rt v H'->E.rt v H'
 bk:∀σ' H',SQ K ρ H F.bk σ' H'->E.bk σ' H'
 ct:∀σ' H',SQ K ρ H F.ct σ' H'->E.ct σ' H'
inductive lowE(t:DTE)(σ:St)(H:Hp)(R:VK):Prop
 | mk (S:SD) (M:Mem) (ρ:List Addr) (Q:DK) (s:Sim K ρ M H) (sr:SRep K ρ H S σ) (q:t S M Q) (k:∀v H',VQ K ρ H Q v H'->R v H')
inductive lowT(t:DTT)(σ:St)(H:Hp)(R:Bool->Hp->Prop):Prop
 | mk (S:SD) (M:Mem) (ρ:List Addr) (Q:Bool->Mem->Prop) (s:Sim K ρ M H) (sr:SRep K ρ H S σ) (q:t S M Q) (k:∀v H',BQ K ρ H Q v H'->R v H')
inductive lowA(t:DTA)(σ:St)(H:Hp)(R:List V->Hp->Prop):Prop
 | mk (S:SD) (M:Mem) (ρ:List Addr) (Q:List D->Mem->Prop) (s:Sim K ρ M H) (sr:SRep K ρ H S σ) (q:t S M Q) (k:∀v H',AQ K ρ H Q v H'->R v H')
inductive lowS(t:DTS)(E:Ends)(σ:St)(H:Hp):Prop
 | mk (S:SD) (M:Mem) (ρ:List Addr) (F:DEnds) (s:Sim K ρ M H) (sr:SRep K ρ H S σ) (q:t F S M) (k:Ups K ρ H F E)
inductive lowG(g:DTG)(v:V)(σ:St)(H:Hp)(R:St->Hp->Prop):Prop
 | mk (d:D) (S:SD) (M:Mem) (ρ:List Addr) (Q:SD->Mem->Prop) (s:Sim K ρ M H) (sr:SRep K ρ H S σ) (r:Rep K ρ H d v) (q:g d S M Q) (k:∀σ' H',SQ K ρ H Q σ' H'->R σ' H')
inductive lowGs(g:Dk)(vs:List V)(σ:St)(H:Hp)(R:St->Hp->Prop):Prop
 | mk (ds:List D) (S:SD) (M:Mem) (ρ:List Addr) (Q:SD->Mem->Prop) (s:Sim K ρ M H) (sr:SRep K ρ H S σ) (r:Reps K ρ H ds vs) (q:g ds S M Q) (k:∀σ' H',SQ K ρ H Q σ' H'->R σ' H')
inductive lowR(r:DR2)(vx vy:V)(H:Hp)(R:VK):Prop
 | mk (x y:D) (M:Mem) (ρ:List Addr) (Q:DK) (s:Sim K ρ M H) (r1:Rep K ρ H x vx) (r2:Rep K ρ H y vy) (q:r x y M Q) (k:∀v H',VQ K ρ H Q v H'->R v H')
inductive lowU(r:DR1)(vx:V)(H:Hp)(R:VK):Prop
 | mk (x:D) (M:Mem) (ρ:List Addr) (Q:DK) (s:Sim K ρ M H) (r1:Rep K ρ H x vx) (q:r x M Q) (k:∀v H',VQ K ρ H Q v H'->R v H')
inductive lowC(r:DRA)(vs:List V)(H:Hp)(R:VK):Prop
 | mk (ds:List D) (M:Mem) (ρ:List Addr) (Q:DK) (s:Sim K ρ M H) (r1:Reps K ρ H ds vs) (q:r ds M Q) (k:∀v H',VQ K ρ H Q v H'->R v H')
end
def DE(X:Cx)(e:Expr)(t:DTE):Prop:=PE X e (lowE X.K t)
def DT(X:Cx)(e:Expr)(t:DTT):Prop:=PT X e (lowT X.K t)
def DW(X:Cx)(e:Expr)(t:DTT):Prop:=PW X e (lowT X.K t)
def DA(X:Cx)(es:List Expr)(t:DTA):Prop:=PA X es (lowA X.K t)
def DS(X:Cx)(st:Stmt)(t:DTS):Prop:=PS X st (lowS X.K t)
def DSs(X:Cx)(st:List Stmt)(t:DTS):Prop:=PSs X st (lowS X.K t)
def DG(X:Cx)(tg:Expr)(g:DTG):Prop:=PG X tg (lowG X.K g)
def DGs(X:Cx)(tg:List Expr)(g:Dk):Prop:=PGs X tg (lowGs X.K g)
def OpD(X:Cx)(f:Value->Value->Sem Value)(r:DR2):Prop:=OpR X f (lowR X.K r)
def UnD(X:Cx)(f:Value->Sem Value)(r:DR1):Prop:=UnR X f (lowU X.K r)
def iY(X:Cx)(f:Value)(r:DRA):Prop:=dz X f (lowC X.K r)
section
variable{K:AA5}{ρ ρ1:List Addr}{H H1:Hp}
theorem VQ.trans(g:Grow K ρ H ρ1 H1)(h:VQ K ρ1 H1 Q v H'):VQ K ρ H Q v H':=by
 obtain⟨d,M',ρ',s,g',r,q⟩:=h
 exact⟨d,M',ρ',s,g.trans g',r,q⟩
theorem BQ.trans(g:Grow K ρ H ρ1 H1)(h:BQ K ρ1 H1 Q v H'):BQ K ρ H Q v H':=by
 obtain⟨M',ρ',s,g',q⟩:=h
 exact⟨M',ρ',s,g.trans g',q⟩
theorem SQ.trans(g:Grow K ρ H ρ1 H1)(h:SQ K ρ1 H1 Q v H'):SQ K ρ H Q v H':=by
 obtain⟨d,M',ρ',s,g',r,q⟩:=h
 exact⟨d,M',ρ',s,g.trans g',r,q⟩
theorem Ups.trans(g:Grow K ρ H ρ1 H1)(h:Ups K ρ H F E):Ups K ρ1 H1 F E :=
 ⟨λσ' H' q=>h.nx σ' H' (SQ.trans g q),λv H' q=>h.rt v H' (VQ.trans g q),λσ' H' q=>h.bk σ' H' (SQ.trans g q),λσ' H' q=>h.ct σ' H' (SQ.trans g q)⟩
theorem VQ.now(s:Sim K ρ M H)(r:Rep K ρ H d v)(q:Q d M):VQ K ρ H Q v H:=⟨d,M,ρ,s,.refl,r,q⟩
end
section
variable{K:AA5}{ρ:List Addr}{H:Hp}{v:V}{vs:List V}
theorem Rep.inv_non(h:Rep K ρ H .non v):v=.non:=by cases h;rfl
theorem Rep.inv_bl(h:Rep K ρ H (.bl b) v):v=.bl b:=by cases h;rfl
theorem Rep.inv_int(h:Rep K ρ H (.int i) v):v=.int i:=by cases h;rfl
theorem Rep.inv_str(h:Rep K ρ H (.str x) v):v=.str x:=by cases h;rfl
theorem Rep.inv_ty(h:Rep K ρ H (.ty n) v):v=.ty n:=by cases h;rfl
theorem Rep.inv_tup(h:Rep K ρ H (.tup ds) v):∃a vs,v=.ref a/\SqT K H a vs/\Reps K ρ H ds vs:=by cases h with | tup h r=>exact⟨_,_,rfl,h,r⟩
theorem Rep.inv_ref(h:Rep K ρ H (.ref n) v):∃a,v=.ref a/\ρ[n]?=some a:=by cases h with | ref h=>exact⟨_,rfl,h⟩
theorem ax.inv_cons(h:ax (x::vs) us):∃u ws,us=u::ws/\aK x u/\ax vs ws:=by cases h with | cons h t=>exact⟨_,_,rfl,h,t⟩
theorem ax.inv_nil(h:ax [] us):us=[]:=by cases h;rfl
theorem Reps.inv_nil(h:Reps K ρ H [] vs):vs=[]:=by cases h;rfl
theorem Reps.inv_cons(h:Reps K ρ H (d::ds) vs):∃v ws,vs=v::ws/\Rep K ρ H d v/\Reps K ρ H ds ws:=by cases h with | cons h t=>exact⟨_,_,rfl,h,t⟩
end
end L2
namespace L2
open PySem PySem.Spec PyProof.Rows DL
theorem PE.imp(h:PE X e t')(i:∀σ H R,t σ H R->t' σ H R):PE X e t:=λpins s σ H R I q=>h pins s σ H R I (i σ H R q)
theorem PT.imp(h:PT X e t')(i:∀σ H R,t σ H R->t' σ H R):PT X e t:=λpins s σ H R I q=>h pins s σ H R I (i σ H R q)
theorem PW.imp(h:PW X e t')(i:∀σ H R,t σ H R->t' σ H R):PW X e t:=λw pins s σ H R I q=>h w pins s σ H R I (i σ H R q)
theorem PA.imp(h:PA X e t')(i:∀σ H R,t σ H R->t' σ H R):PA X e t:=λpos pins s σ H R I q=>h pos pins s σ H R I (i σ H R q)
theorem PS.imp(h:PS X e t')(i:∀E σ H,t E σ H->t' E σ H):PS X e t:=λpins s σ H R I q=>h pins s σ H R I (i R σ H q)
theorem PSs.imp(h:PSs X e t')(i:∀E σ H,t E σ H->t' E σ H):PSs X e t:=λpins s σ H R I q=>h pins s σ H R I (i R σ H q)
theorem OpR.imp(h:OpR X f r')(i:∀x y H R,r x y H R->r' x y H R):OpR X f r:=λpins s σ H x y v u R I a b q=>h pins s σ H x y v u R I a b (i x y H R q)
theorem dz.imp(h:dz X f r')(i:∀xs H R,r xs H R->r' xs H R):dz X f r:=λpins s σ H xs us R I a q=>h pins s σ H xs us R I a (i xs H R q)
section
variable{X:Cx}{a b c:Expr}{ta tb tc:DTE}{pos:Pos}
def ab(i:Nat):DTE:=λS M Q=>match S[i]? with
 | some (some d)=>Q d M
 | _=>False
def dC(d:D):DTE:=λ_ M Q=>Q d M
theorem Bp{K:AA5}{i:Nat}(σ:St)(H:Hp)(R:VK)(h:lowE K (ab i) σ H R):tVar i σ H R:=by
 obtain⟨S,M,ρ,Q,s,r,q,k⟩:=h
 unfold ab at q
 cases e:S[i]? with
 | none=>rw[e]at q;exact q.elim
 | some o =>
  cases o with
  | none=>rw[e]at q;exact q.elim
  | some d =>
   rw[e]at q
   obtain⟨v,hv,rv⟩:=r.get i d e
   exact⟨v,hv,k v H (VQ.now s rv q)⟩
theorem d_var(hN:X.N[i]?=some x:=by rfl)(hv:Vis X.env.scope x:=by first | exact Or.inl rfl | exact Or.inr (Or.inl rfl) | exact Or.inr (Or.inr rfl))(hd:(x==("__debug__":Str))=false:=by decide)
  (hcd:(x==("__classdict__":Str))=false:=by decide):DE X (.Name x pos) (ab i):=PE.imp (yg hN hv hd hcd) Bp
def cV:D->Option V
 | .non=>some .non
 | .bl b=>some (.bl b)
 | .int i=>some (.int i)
 | .str x=>some (.str x)
 | .ty n=>some (.ty n)
 | _=>none
theorem zZ{K:AA5}{ρ:List Addr}{H:Hp}{d:D}{v:V}(h:cV d=some v):Rep K ρ H d v:=by
 cases d with
 | non=>cases h;exact .non
 | bl b=>cases h;exact .bl b
 | int b=>cases h;exact .int b
 | str b=>cases h;exact .str b
 | ty b=>cases h;exact .ty b
 | tup b=>cases h
 | ref b=>cases h
theorem mI{K:AA5}{d:D}{v:V}(hd:cV d=some v)(σ:St)(H:Hp)(R:VK)(h:lowE K (dC d) σ H R):tC v σ H R:=by
 obtain⟨S,M,ρ,Q,s,r,q,k⟩:=h
 exact k v H (VQ.now s (zZ hd) q)
theorem d_int{i:Int}{j:Nat}:DE X (.Constant (.int i) j pos) (dC (.int i)):=PE.imp Hn (mI rfl)
theorem d_bl{i:Bool}{j:Nat}:DE X (.Constant (.bool i) j pos) (dC (.bl i)):=PE.imp Hq (mI rfl)
theorem d_non{j:Nat}:DE X (.Constant .none j pos) (dC .non):=PE.imp Hk (mI rfl)
theorem d_str{i:Str}{j:Nat}:DE X (.Constant (.str i) j pos) (dC (.str i)):=PE.imp Hh (mI rfl)
theorem JD(hm:X.mg x=some u)(hd:cV d=some v)(r:aK v u)(hg:Gl X x:=by rfl)(hb:(x==("__debug__":Str))=false:=by decide):DE X (.Name x pos) (dC d):=PE.imp (su hg hm r hb) (mI hd)
theorem JC{x:Str}{T:String}(hm:X.mg x=none)(hv:bootBuiltins x=some (.type T))(hg:Gl X x:=by rfl)(hn:x≠"__name__":=by decide)(hb:(x==("__debug__":Str))=false:=by decide):DE X (.Name x pos) (dC (.ty T)) :=
 PE.imp (Eg (v:=.ty T) hg hm hv rfl hn hb) (mI rfl)
theorem low2{K:AA5}{S:SD}{M:Mem}{ρ:List Addr}{σ:St}{H:Hp}{P:D->D->Mem->Prop}{G:V->V->Hp->Prop}(s:Sim K ρ M H)(r:SRep K ρ H S σ)(h:ta S M λx M1=>tb S M1 λy M2=>P x y M2)
  (k:∀x y vx vy M2 ρ2 H2,Sim K ρ2 M2 H2->Grow K ρ H ρ2 H2->Rep K ρ2 H2 x vx->Rep K ρ2 H2 y vy->P x y M2->G vx vy H2):lowE K ta σ H λvx H1=>lowE K tb σ H1 λvy H2=>G vx vy H2:=by
 refine⟨S,M,ρ,_,s,r,h,λvx H1 ⟨x,M1,ρ1,s1,g1,r1,q1⟩=>⟨S,M1,ρ1,_,s1,r.grow g1,q1,λvy H2 ⟨y,M2,ρ2,s2,g2,r2,q2⟩=>?_⟩⟩
 exact k x y vx vy M2 ρ2 H2 s2 (g1.trans g2) (r1.grow g2) r2 q2
def dOp(r:DR2)(ta tb:DTE):DTE:=λS M Q=>ta S M λx M1=>tb S M1 λy M2=>r x y M2 Q
theorem nE{K:AA5}{r:DR2}(σ:St)(H:Hp)(R:VK)(h:lowE K (dOp r ta tb) σ H R):tOp (lowR K r) (lowE K ta) (lowE K tb) σ H R:=by
 obtain⟨S,M,ρ,Q,s,sr,q,k⟩:=h
 exact low2 s sr q λx y vx vy M2 ρ2 H2 s2 g2 r1 r2 q2=>⟨x,y,M2,ρ2,Q,s2,r1,r2,q2,λv H' w=>k v H' (VQ.trans g2 w)⟩
theorem d_op(ho:OpD X (binaryOp op) r)(ha:DE X a ta)(hb:DE X b tb):DE X (.BinOp a op b pos) (dOp r ta tb):=PE.imp (pe_op ho ha hb) nE
theorem d_cmp(ho:OpD X (compareOp op) r)(ha:DE X a ta)(hb:DE X b tb)(hm:behindInMarks op b=false:=by with_unfolding_all rfl):DE X (.Compare a [op] [b] pos) (dOp r ta tb):=PE.imp (Ee ho ha hb hm) nE
def ak(t:DTE):DTT:=λS M Q=>t S M λx M'=>match x with
 | .bl b=>Q b M'
 | _=>False
theorem gv{K:AA5}{t:DTE}(σ:St)(H:Hp)(R:Bool->Hp->Prop)(h:lowT K (ak t) σ H R):Dw (lowE K t) σ H R:=by
 obtain⟨S,M,ρ,Q,s,sr,q,k⟩:=h
 refine⟨S,M,ρ,_,s,sr,q,λv H' ⟨d,M',ρ',s',g',r',q'⟩=>?_⟩
 cases r' with
 | bl b=>exact⟨b,rfl,k b H' ⟨M',ρ',s',g',q'⟩⟩
 | _=>exact q'.elim
theorem Jo(ho:OpD X (compareOp op) r)(ha:DE X a ta)(hb:DE X b tb)(hm:behindInMarks op b=false:=by with_unfolding_all rfl):DT X (.Compare a [op] [b] pos) (ak (dOp r ta tb)):=by
 refine PT.imp (xY ho ha hb hm) λσ H R h=>?_
 obtain⟨S,M,ρ,Q,s,sr,q,k⟩:=gv σ H R h
 exact nE σ H _ ⟨S,M,ρ,Q,s,sr,q,k⟩
theorem Jm(h:DE X e t)(he:∀whole,isTrue e X.env whole=(do let v ←whole;standAt e.pos;holding [v] (truthy v)):=by intro _;rfl):DT X e (ak t):=PT.imp (GW h he) gv
def onB(z:D)(k:Bool->Prop):Prop:=match z with
 | .bl b=>k b
 | _=>False
theorem qo{b:Bool}{k:Bool->Prop}:onB (.bl b) k=k b:=rfl
def cA(r r':DR2)(ta tb tc:DTE):DTE:=λS M Q=>ta S M λx M1=>tb S M1 λy M2=>r x y M2 λz M3=>onB z λb=>if b=true then tc S M3 λw M4=>r' y w M4 Q else Q (.bl false) M3
theorem mH{K:AA5}{r r':DR2}(σ:St)(H:Hp)(R:VK)(h:lowE K (cA r r' ta tb tc) σ H R):xC (lowR K r) (lowR K r') (lowE K ta) (lowE K tb) (lowE K tc) σ H R:=by
 obtain⟨S,M,ρ,Q,s,sr,q,k⟩:=h
 refine low2 s sr q λx y vx vy M2 ρ2 H2 s2 g2 r1 r2 q2=>⟨x,y,M2,ρ2,_,s2,r1,r2,q2,λvz H3 ⟨z,M3,ρ3,s3,g3,r3,q3⟩=>?_⟩
 cases r3 with
 | bl b =>
  cases b with
  | false=>exact⟨false,rfl,ba (k _ H3 ⟨_,M3,ρ3,s3,g2.trans g3,.bl false,(show Q (.bl false) M3 from q3)⟩)⟩
  | true =>
   refine⟨true,rfl,aI ⟨S,M3,ρ3,_,s3,sr.grow (g2.trans g3),(show tc S M3 _ from q3),λvw H4 ⟨w,M4,ρ4,s4,g4,r4,q4⟩=>?_⟩⟩
   exact⟨y,w,M4,ρ4,Q,s4,r2.grow (g3.trans g4),r4,q4,λv H' w'=>k v H' (VQ.trans ((g2.trans g3).trans g4) w')⟩
 | _=>exact q3.elim
theorem FR(ho:OpD X (compareOp op) r)(ho':OpD X (compareOp op') r')(ha:DE X a ta)(hb:DE X b tb)(hc:DE X c tc)(hm:lastMarks [op,op'] [b,c]=false:=by with_unfolding_all rfl) :
  DE X (.Compare a [op,op'] [b,c] pos) (cA r r' ta tb tc):=PE.imp (AZ ho ho' ha hb hc hm) mH
theorem Cc(ho:OpD X (compareOp op) r)(ho':OpD X (compareOp op') r')(ha:DE X a ta)(hb:DE X b tb)(hc:DE X c tc)(hm:lastMarks [op,op'] [b,c]=false:=by with_unfolding_all rfl) :
  DT X (.Compare a [op,op'] [b,c] pos) (ak (cA r r' ta tb tc)):=by
 refine PT.imp (AS ho ho' ha hb hc hm) λσ H R h=>?_
 obtain⟨S,M,ρ,Q,s,sr,q,k⟩:=gv σ H R h
 exact mH σ H _ ⟨S,M,ρ,Q,s,sr,q,k⟩
variable{tA tB:DTT}{aN:List Expr}
def zS(t u:DTT):DTT:=λS M Q=>t S M λb M1=>if b=true then u S M1 Q else Q false M1
def dOr(t u:DTT):DTT:=λS M Q=>t S M λb M1=>if b=true then Q true M1 else u S M1 Q
def dF(t:DTT):DTT:=λS M Q=>t S M λb M1=>Q (!b) M1
theorem Fx(ha:DT X a tA):DW X (.BoolOp .And [a] pos) tA:=DN ha
theorem Jk(ha:DT X a tA):DW X (.BoolOp .Or [a] pos) tA:=GU ha
theorem Jl(ha:DT X a tA)(hb:DW X (.BoolOp .And (b::aN) pos) tB):DW X (.BoolOp .And (a::b::aN) pos) (zS tA tB):=by
 refine PW.imp (GV ha hb) λσ H R ⟨S,M,ρ,Q,s,sr,q,k⟩=>⟨S,M,ρ,_,s,sr,q,λc H1 ⟨M1,ρ1,s1,g1,q1⟩=>?_⟩
 cases c with
 | true=>exact aI ⟨S,M1,ρ1,Q,s1,sr.grow g1,(show tB S M1 Q from q1),λv H' w=>k v H' (BQ.trans g1 w)⟩
 | false=>exact ba (k false H1 ⟨M1,ρ1,s1,g1,q1⟩)
theorem dw_or(ha:DT X a tA)(hb:DW X (.BoolOp .Or (b::aN) pos) tB):DW X (.BoolOp .Or (a::b::aN) pos) (dOr tA tB):=by
 refine PW.imp (pw_or ha hb) λσ H R ⟨S,M,ρ,Q,s,sr,q,k⟩=>⟨S,M,ρ,_,s,sr,q,λc H1 ⟨M1,ρ1,s1,g1,q1⟩=>?_⟩
 cases c with
 | false=>exact ba ⟨S,M1,ρ1,Q,s1,sr.grow g1,(show tB S M1 Q from q1),λv H' w=>k v H' (BQ.trans g1 w)⟩
 | true=>exact aI (k true H1 ⟨M1,ρ1,s1,g1,q1⟩)
theorem dw_t(h:DW X e t):DT X e t:=PW.pt h
theorem Jn(ha:DT X a tA):DT X (.UnaryOp .Not a pos) (dF tA) :=
 PT.imp (GX ha) λσ H R ⟨S,M,ρ,Q,s,sr,q,k⟩=>⟨S,M,ρ,_,s,sr,q,λc H1 ⟨M1,ρ1,s1,g1,q1⟩=>k (!c) H1 ⟨M1,ρ1,s1,g1,q1⟩⟩
def bj(ta tb:DTE):DTE:=λS M Q=>ta S M λx M1=>onB x λb=>if b=true then tb S M1 Q else Q (.bl false) M1
def JF(ta tb:DTE):DTE:=λS M Q=>ta S M λx M1=>onB x λb=>if b=true then Q (.bl true) M1 else tb S M1 Q
def zR(ta:DTE):DTE:=λS M Q=>ta S M λx M1=>match x with
 | .bl b=>Q (.bl (!b)) M1
 | _=>False
theorem d_one{op}(h:DE X a ta):DE X (.BoolOp op [a] pos) ta:=Hi h
theorem d_and(ha:DE X a ta)(hb:DE X (.BoolOp .And (b::aN) pos) tb):DE X (.BoolOp .And (a::b::aN) pos) (bj ta tb):=by
 refine PE.imp (Hr ha hb) λσ H R ⟨S,M,ρ,Q,s,sr,q,k⟩=>⟨S,M,ρ,_,s,sr,q,λv H1 ⟨d,M1,ρ1,s1,g1,r1,q1⟩=>?_⟩
 cases r1 with
 | bl c =>
  cases c with
  | true=>exact⟨true,rfl,aI ⟨S,M1,ρ1,Q,s1,sr.grow g1,(show tb S M1 Q from q1),λv H' w=>k v H' (VQ.trans g1 w)⟩⟩
  | false=>exact⟨false,rfl,ba (k _ H1 ⟨_,M1,ρ1,s1,g1,.bl false,(show Q (.bl false) M1 from q1)⟩)⟩
 | _=>exact q1.elim
theorem d_or(ha:DE X a ta)(hb:DE X (.BoolOp .Or (b::aN) pos) tb):DE X (.BoolOp .Or (a::b::aN) pos) (JF ta tb):=by
 refine PE.imp (pe_or ha hb) λσ H R ⟨S,M,ρ,Q,s,sr,q,k⟩=>⟨S,M,ρ,_,s,sr,q,λv H1 ⟨d,M1,ρ1,s1,g1,r1,q1⟩=>?_⟩
 cases r1 with
 | bl c =>
  cases c with
  | false=>exact⟨false,rfl,ba ⟨S,M1,ρ1,Q,s1,sr.grow g1,(show tb S M1 Q from q1),λv H' w=>k v H' (VQ.trans g1 w)⟩⟩
  | true=>exact⟨true,rfl,aI (k _ H1 ⟨_,M1,ρ1,s1,g1,.bl true,(show Q (.bl true) M1 from q1)⟩)⟩
 | _=>exact q1.elim
theorem d_not(ha:DE X a ta):DE X (.UnaryOp .Not a pos) (zR ta):=by
 refine PE.imp (Hj ha) λσ H R ⟨S,M,ρ,Q,s,sr,q,k⟩=>⟨S,M,ρ,_,s,sr,q,λv H1 ⟨d,M1,ρ1,s1,g1,r1,q1⟩=>?_⟩
 cases r1 with
 | bl c=>exact⟨c,rfl,k _ H1 ⟨_,M1,ρ1,s1,g1,.bl (!c),q1⟩⟩
 | _=>exact q1.elim
variable{e:Expr}{es:List Expr}{te:DTE}{t:DTA}
def ac:DTA:=λ_ M Q=>Q [] M
def aa(te:DTE)(t:DTA):DTA:=λS M Q=>te S M λd M1=>t S M1 λds M2=>Q (d::ds) M2
theorem JB:DA X [] ac:=PA.imp Hs λσ H R ⟨S,M,ρ,Q,s,sr,q,k⟩=>k [] H ⟨[],M,ρ,s,.refl,.nil,q⟩
theorem FN(ha:DE X e te)(hr:DA X es t)(hs:starEach (e::es) X.env=(false,eval e X.env)::starEach es X.env:=by rfl):DA X (e::es) (aa te t) :=
 PA.imp (Ei ha hr hs) λσ H R ⟨S,M,ρ,Q,s,sr,q,k⟩=>⟨S,M,ρ,_,s,sr,q,λv H1 ⟨d,M1,ρ1,s1,g1,r1,q1⟩=>⟨S,M1,ρ1,_,s1,sr.grow g1,q1,λvs H2 ⟨ds,M2,ρ2,s2,g2,r2,q2⟩ =>
  k _ H2 ⟨d::ds,M2,ρ2,s2,g1.trans g2,.cons (r1.grow g2) r2,q2⟩⟩⟩
def dE(t:DTA):DTE:=λS M Q=>t S M λds M1=>ds.length<=sizeLine/\Q (.tup ds) M1
def dB(t:DTA):DTE:=λS M Q=>t S M λds M1=>ds.length<=sizeLine/\Q (.ref M1.length) (M1++[.lst ds])
theorem VQ.laidT{K:AA5}{ρ ρ1:List Addr}{H H1:Hp}{M1:Mem}{ds:List D}{vs:List V}{Q:DK}{p:Addr}(s1:Sim K ρ1 M1 H1)(g1:Grow K ρ H ρ1 H1)(r1:Reps K ρ1 H1 ds vs)(hp:H1 p=none)(q:Q (.tup ds) M1):VQ K ρ H Q (.ref p) (upd H1 p (.tup vs)) :=
 ⟨.tup ds,M1,ρ1,s1.laid hp,g1.trans (Grow.laid hp),.tup (SqT.of aV) (r1.grow (Grow.laid hp)),q⟩
theorem VQ.laidL{K:AA5}{ρ ρ1:List Addr}{H H1:Hp}{M1:Mem}{ds:List D}{vs:List V}{Q:DK}{p:Addr}(s1:Sim K ρ1 M1 H1)(g1:Grow K ρ H ρ1 H1)(r1:Reps K ρ1 H1 ds vs)(hp:H1 p=none)(q:Q (.ref M1.length) (M1++[.lst ds])):VQ K ρ H Q (.ref p) (upd H1 p (.lst vs)) :=
 ⟨.ref M1.length,M1++[.lst ds],ρ1++[p],s1.laidL hp r1,g1.trans (Grow.laidR hp),.ref s1.last,q⟩
theorem d_tup{x1}(h:DA X es t):DE X (.Tuple es x1 pos) (dE t) :=
 PE.imp (Hg h) λσ H R ⟨S,M,ρ,Q,s,sr,q,k⟩=>⟨S,M,ρ,_,s,sr,q,λvs H1 ⟨ds,M1,ρ1,s1,g1,r1,z,q1⟩=>⟨by rw[←r1.length];exact z,λp hp=>k _ _ (VQ.laidT s1 g1 r1 hp q1)⟩⟩
theorem d_lst(h:DA X es t):DE X (.List es pos) (dB t) :=
 PE.imp (Hl h) λσ H R ⟨S,M,ρ,Q,s,sr,q,k⟩=>⟨S,M,ρ,_,s,sr,q,λvs H1 ⟨ds,M1,ρ1,s1,g1,r1,z,q1⟩=>⟨by rw[←r1.length];exact z,λp hp=>k _ _ (VQ.laidL s1 g1 r1 hp q1)⟩⟩
def dCB(r:DRA)(t:DTA):DTE:=λS M Q=>t S M λds M1=>r ds M1 Q
theorem yP{K:AA5}{r:DRA}(σ:St)(H:Hp)(R:VK)(h:lowE K (dCB r t) σ H R):tCB (lowC K r) (lowA K t) σ H R:=by
 obtain⟨S,M,ρ,Q,s,sr,q,k⟩:=h
 exact⟨S,M,ρ,_,s,sr,q,λvs H1 ⟨ds,M1,ρ1,s1,g1,r1,q1⟩=>⟨ds,M1,ρ1,Q,s1,r1,q1,λv H' w=>k v H' (VQ.trans g1 w)⟩⟩
theorem FS{x:Str}{p:Pos}{id:String}{r:DRA}(hc:iY X (.builtin id) r)(hm:X.mg x=none)(hv:bootBuiltins x=some (.builtin id))(ha:DA X (e::es) t)(hg:Gl X x:=by rfl)(hn:x≠"__name__":=by decide)(hdb:(x==("__debug__":Str))=false:=by decide)
  (he:starEach (e::es) X.env=(false,eval e X.env)::starEach es X.env:=by rfl) (hpl:(backTo pos (starEach es X.env)).any (·.1)=false:=by rfl):DE X (.Call (.Name x p) (e::es) [] pos) (dCB r t) :=
 PE.imp (Ba hc hg hm hv ha hn hdb he hpl) yP
theorem Cj(hc:iY X (.type T) r)(hm:X.mg x=none)(hv:bootBuiltins x=some (.type T))(ha:DA X (e::es) t)(hg:Gl X x:=by rfl)(hn:x≠"__name__":=by decide)(hdb:(x==("__debug__":Str))=false:=by decide)
  (he:starEach (e::es) X.env=(false,eval e X.env)::starEach es X.env:=by rfl) (hpl:(backTo pos (starEach es X.env)).any (·.1)=false:=by rfl):DE X (.Call (.Name x p) (e::es) [] pos) (dCB r t) :=
 PE.imp (yh hc hg hm hv ha hn hdb he hpl) yP
abbrev DSp:=List D->Mem->DK->Prop
def spL(K:AA5)(P:DSp):Sp:=λvs H Q _=>∃ds M ρ R,Sim K ρ M H/\Reps K ρ H ds vs/\P ds M R/\∀v H',VQ K ρ H R v H'->Q v H'
theorem yN{K:AA5}{P:DSp}(σ:St)(H:Hp)(R:VK)(h:lowE K (dCB P t) σ H R):GE (spL K P) [] E0 (lowA K t) σ H R:=by
 obtain⟨S,M,ρ,Q,s,sr,q,k⟩:=h
 exact⟨S,M,ρ,_,s,sr,q,λvs H1 ⟨ds,M1,ρ1,s1,g1,r1,q1⟩=>⟨ds,M1,ρ1,Q,s1,by rw[ACZ];exact r1,q1,λv H' w=>k v H' (VQ.trans g1 w)⟩⟩
theorem JE(F:FnOk X.prog X.w X.K X.mg X.base CX0 k f fd ps (spL X.K P))(hr:Room k X.A)(hm:X.mg x=some (.ref f))(hk:ACT X.K (.ref f)=true)(hb:rL X.K fd ps [])
  (ha:DA X (e::es) t) (hg:Gl X x:=by rfl) (hdb:(x==("__debug__":Str))=false:=by decide) (he:starEach (e::es) X.env=(false,eval e X.env)::starEach es X.env:=by rfl) (hpl:(backTo pos (starEach es X.env)).any (·.1)=false:=by rfl) :
  DE X (.Call (.Name x p) (e::es) [] pos) (dCB P t):=PE.imp (Ef F hr hg hm hk hb .nil pass0 ha hdb he hpl) yN
end
section
variable{X:Cx}{st:Stmt}{aN:List Stmt}{t u:DTS}{e:Expr}{te:DTE}{pos:Pos}
def aA:DTS:=λE S M=>E.nx S M
def aC(t u:DTS):DTS:=λE S M=>t { E with nx:=λS' M'=>u E S' M' } S M
theorem Js:DSs X [] aA:=PSs.imp DU λE σ H ⟨S,M,ρ,F,s,sr,q,k⟩=>k.nx σ H ⟨S,M,ρ,s,.refl,sr,q⟩
theorem Jr(h:DS X st t):DSs X [st] t:=DR h
theorem FD(h1:DS X st t)(h2:DSs X aN u):DSs X (st::aN) (aC t u) :=
 PSs.imp (AT h1 h2) λE σ H ⟨S,M,ρ,F,s,sr,q,k⟩=>⟨S,M,ρ,_,s,sr,q,⟨λσ' H' ⟨S',M',ρ',s',g',sr',q'⟩=>⟨S',M',ρ',F,s',sr',q',k.trans g'⟩,k.rt,k.bk,k.ct⟩⟩
def rj(te:DTE):DTS:=λE S M=>te S M λ_ M1=>E.nx S M1
theorem FB(he:DE X e te)(hs:swapsWith e none pos.line X.env=pure false:=by rfl):DS X (.Expr e pos) (rj te) :=
 PS.imp (DV he hs) λE σ H ⟨S,M,ρ,F,s,sr,q,k⟩=>⟨S,M,ρ,_,s,sr,q,λv H1 ⟨d,M1,ρ1,s1,g1,r1,q1⟩=>k.nx σ H1 ⟨S,M1,ρ1,s1,g1,sr.grow g1,q1⟩⟩
def aF(te:DTE):DTS:=λE S M=>te S M E.rt
theorem Jq(he:DE X e te):DS X (.Return (some e) pos) (aF te) :=
 PS.imp (GZ he) λE σ H ⟨S,M,ρ,F,s,sr,q,k⟩=>⟨S,M,ρ,_,s,sr,q,λv H1 w=>k.rt v H1 w⟩
def dIf(c:DTT)(t u:DTS):DTS:=λE S M=>c S M λb M1=>if b=true then t E S M1 else u E S M1
theorem ds_if(hc:DT X c tc)(ha:DSs X a t)(hb:DSs X b u):DS X (.If c a b pos) (dIf tc t u):=by
 refine PS.imp (ps_if hc ha hb) λE σ H ⟨S,M,ρ,F,s,sr,q,k⟩=>⟨S,M,ρ,_,s,sr,q,λc H1 ⟨M1,ρ1,s1,g1,q1⟩=>?_⟩
 cases c with
 | true=>exact aI ⟨S,M1,ρ1,F,s1,sr.grow g1,(show t F S M1 from q1),k.trans g1⟩
 | false=>exact ba ⟨S,M1,ρ1,F,s1,sr.grow g1,(show u F S M1 from q1),k.trans g1⟩
def bT(te:DTE)(i:Nat):DTS:=λE S M=>te S M λd M1=>E.nx (S.set i (some d)) M1
theorem Jp(hN:X.N.Nodup)(he:DE X e te)(hi:X.N[i]?=some x:=by rfl)(hx:Loc X.env.scope x:=by first | exact Or.inl rfl | exact Or.inr rfl)(hs:swapsWith e (some (.Name x pos')) pos.line X.env=pure false:=by rfl)
  (hf:X.fn x=true\/X.env.scope.names.lookup x=some .local:=by first | exact .inl rfl | exact .inr rfl | assumption):DS X (.Assign [.Name x pos'] e pos) (bT te i) :=
 PS.imp (GY hN hi hx he hs hf) λE σ H ⟨S,M,ρ,F,s,sr,q,k⟩=>⟨S,M,ρ,_,s,sr,q,λv H1 ⟨d,M1,ρ1,s1,g1,r1,q1⟩=>k.nx _ H1 ⟨_,M1,ρ1,s1,g1,(sr.grow g1).set i r1,q1⟩⟩
def ar(i:Nat):DTG:=λd S M Q=>Q (S.set i (some d)) M
theorem tL(hN:X.N.Nodup)(hi:X.N[i]?=some x:=by rfl)(hx:Loc X.env.scope x:=by first | exact Or.inl rfl | exact Or.inr rfl)(hf:X.fn x=true\/X.env.scope.names.lookup x=some .local:=by first | exact .inl rfl | exact .inr rfl | assumption):DG X (.Name x pos) (ar i) :=
 λpins s σ H v u R I r ⟨d,S,M,ρ,Q,sm,sr,rd,q,k⟩=>Ec hN hi hx hf pins s σ H v u R I r (k _ H ⟨_,M,ρ,sm,.refl,sr.set i rd,q⟩)
end
end L2
namespace L2
open PySem PySem.Spec PyProof.Rows DL
theorem vK{P:Program}{w:World}{K:AA5}{tg:Expr}(it:Addr)(n:Nat)(PV:Nat->Value->Prop)(PX:Nat->V->Prop)(Sx:Nat->Heap->Prop)
  (W:∀A':Around,A'.handled=none->Walks P w A' it [it] [it] n PV Sx) (hrel:∀i v,PV i v->∃x,aK x v/\PX i x)
  (hobj:∀i h,Sx i h->∃(o:Obj) (nm:String) (vs:Array Value),h.get? it=some o/\o.cls=.type nm/\o.data=.fields vs/\["enumerate","zip","dict_itemiterator","dict_reverseitemiterator","odict_iterator","itertools.zip_longest","itertools.pairwise"].contains nm=false)
  (hframe:∀(i:Nat) (h h':Heap),Sx i h->(∀o,h.get? it=some o->h'.get? it=some o)->Sx i h')
  (hself:∀(A:Around) (i:Nat) (s:Shared) (Q:Value->Shared->Prop) (E:Value->Shared->Prop),Sx i s.heap->Q (.ref it) s->wpAny (model P w) A (pyIter (.ref it)) Q E s) :
  Turn P w K tg ⟨λi _=>i<n,λi H x H'=>H'=H/\PX i x,λi _=>i=n⟩ [it] it Sx where
 mem:=by simp
 obj:=λi h st b hb=>by
  have e:b=it:=by simpa using hb
  subst e
  obtain⟨o,nm,vs,e,_,d,_⟩:=hobj i h st
  exact⟨o,e,λv z=>by rw[d]at z;cases z⟩
 keep:=λi h h' st k=>hframe i h h' st λo e=>k it (by simp) o e
 item:=by
  intro X hP hw hK hc i pins s σ H E I hf st hg
  subst hP hw hK
  obtain⟨f0,f1,f2,f3,f4,f5⟩:=hf it (by simp)
  refine(W X.A (I.ok.hd hc)).item i s _ _ hg st λv h' tk hv st' kk=>?_
  obtain⟨x,rx,px⟩:=hrel i v hv
  have I1:Inv X pins σ H { s with heap:=h',toks:=tk }:=I.turned (λb o hb e=>kk b o (by simpa using hb) e) f0 f1 f3 f4 f5
  obtain⟨o,nm,vs,e,c,d,hn⟩:=hobj _ _ st'
  exact⟨v,rfl,BW (s:={ s with heap:=h',toks:=tk }) e c d hn ⟨x,H,I1,rx,⟨rfl,px⟩,st',λb hb=>(hf b hb).1⟩⟩
 done:=by
  intro X hP hw hK hc i pins s σ H E I hf st hg
  subst hP hw hK
  obtain⟨f0,f1,f2,f3,f4,f5⟩:=hf it (by simp)
  have hi:i=n:=hg
  subst hi
  exact(W X.A (I.ok.hd hc)).done s _ _ st λh' tk kk=>⟨rfl,I.turned (λb o hb e=>kk b o (by simpa using hb) e) f0 f1 f3 f4 f5⟩
 self:=hself
def signs(x:Str):List D:=x.cps.toList.map λc=>.str ⟨#[c]⟩
structure Src where
 items:List D
 ok:Mem->Prop
abbrev DTI:=SD->Mem->(Src->Mem->Prop)->Prop
structure ItD(K:AA5)(src:Src)(ρ0:List Addr)(H0:Hp)(J:It):Prop where
 go:∀(i:Nat) ρ M H,Sim K ρ M H->Grow K ρ0 H0 ρ H->src.ok M->i<src.items.length->J.go i H
 yld:∀(i:Nat) ρ M H x H',Sim K ρ M H->Grow K ρ0 H0 ρ H->src.ok M->i<src.items.length->J.yld i H x H'->∃d ρ',src.items[i]?=some d/\Sim K ρ' M H'/\Grow K ρ H ρ' H'/\Rep K ρ' H' d x
 stop:∀(ρ:List Addr) M H,Sim K ρ M H->Grow K ρ0 H0 ρ H->src.ok M->J.stop src.items.length H
def IQ(K:AA5)(ρ:List Addr)(H:Hp)(Q:Src->Mem->Prop):It->Hp->Prop:=λJ H'=>∃src M' ρ',Sim K ρ' M' H'/\Grow K ρ H ρ' H'/\ItD K src ρ' H' J/\Q src M'
def lowI(K:AA5)(di:DTI):TI:=λσ H R=>∃S M ρ Q,Sim K ρ M H/\SRep K ρ H S σ/\di S M Q/\∀J H',IQ K ρ H Q J H'->R J H'
def DI(X:Cx)(tg iter:Expr)(di:DTI):Prop:=PI X tg iter (lowI X.K di)
theorem ItD.tup{K:AA5}{ρ:List Addr}{H:Hp}{a:Addr}{vs:List V}{ds:List D}(h:SqT K H a vs)(r:Reps K ρ H ds vs)(uniq:∀ys,SqT K H a ys->ys=vs):ItD K ⟨ds,λ_=>True⟩ ρ H (Itt K a) where
 go:=λi ρ' M H' s g _ hi=>by
  have hl:i<vs.length:=by rw[←r.length];exact hi
  exact⟨vs,vs[i],g.tup a vs h,AA7 hl⟩
 yld:=λi ρ' M H' x H2 s g _ hi y=>by
  obtain⟨rfl,y⟩:=y
  obtain⟨d,hd,rd⟩:=(r.grow g).getV (y vs (g.tup a vs h))
  exact⟨d,ρ',hd,s,.refl,rd⟩
 stop:=λρ' M H' s g _=>⟨vs,g.tup a vs h,by rw[←r.length];exact AAD _⟩
theorem ItD.lst{K:AA5}{ρ:List Addr}{H:Hp}{n:Nat}{a:Addr}{ds:List D}(e:ρ[n]?=some a):ItD K ⟨ds,λM=>al M n ds⟩ ρ H (Itl K a) where
 go:=λi ρ' M H' s g ok hi=>by
  obtain⟨vs,h,r⟩:=al.seq s ok (aY g.pre e)
  have hl:i<vs.length:=by rw[←r.length];exact hi
  exact⟨vs,vs[i],h,AA7 hl⟩
 yld:=λi ρ' M H' x H2 s g ok hi y=>by
  obtain⟨rfl,y⟩:=y
  obtain⟨vs,h,r⟩:=al.seq s ok (aY g.pre e)
  obtain⟨d,hd,rd⟩:=r.getV (y vs h)
  exact⟨d,ρ',hd,s,.refl,rd⟩
 stop:=λρ' M H' s g ok=>by
  obtain⟨vs,h,r⟩:=al.seq s ok (aY g.pre e)
  exact⟨vs,h,by rw[←r.length];exact AAD _⟩
theorem ItD.plain{K:AA5}{ρ:List Addr}{H:Hp}{ds:List D}{J:It}(hg:∀i H,i<ds.length->J.go i H)(hy:∀i H x H',i<ds.length->J.yld i H x H'->H'=H/\∃d,ds[i]?=some d/\cV d=some x)(hs:∀H,J.stop ds.length H):ItD K ⟨ds,λ_=>True⟩ ρ H J where
 go:=λi ρ' M H' s g _ hi=>hg i H' hi
 yld:=λi ρ' M H' x H2 s g _ hi y=>by
  obtain⟨rfl,d,hd,hv⟩:=hy i _ x H2 hi y
  exact⟨d,ρ',hd,s,.refl,zZ hv⟩
 stop:=λρ' M H' s g _=>hs H'
section
variable{X:Cx}{tg:Expr}
def bK(te:DTE):DTI:=λS M R=>te S M λd M1=>match d with
 | .tup ds=>ds.length<=sizeLine->R ⟨ds,λ_=>True⟩ M1
 | .str x=>R ⟨signs x,λ_=>True⟩ M1
 | .ref n=>∃xs,al M1 n xs/\(xs.length<=sizeLine->R ⟨xs,λM=>al M n xs⟩ M1)
 | _=>False
theorem Jx(hl:DE X l tl):DI X tg l (bK tl):=by
 intro pins s σ H R I h
 obtain⟨S,M,ρ,Q,sm,sr,q,k⟩:=h
 refine thn (hl pins s σ H _ I ⟨S,M,ρ,_,sm,sr,q,λv H' w=>w⟩) λu s1 ⟨v,H1,I1,rv,d,M1,ρ1,sm1,g1,r1,q1⟩=>?_
 cases r1 with
 | non=>exact q1.elim
 | bl b=>exact q1.elim
 | int i=>exact q1.elim
 | ty n=>exact q1.elim
 | @tup a vs ds hq r =>
  cases rv
  obtain⟨its,rr,p,hz⟩:=I1.tuple hq
  refine wpAny_pyIter_tuple (show s1.heap.IsTuple a its.toArray from p) ?_
  refine⟨s1.heap.objs.size,[s1.heap.objs.size],_,_,H1,rfl,I1.kept (t':=s1.toks) λb o e=>AA4 _ e,vL a _,⟨_,AAE _ rfl,rfl,rfl⟩,λb hb=>?_,k _ H1 ⟨⟨ds,λ_=>True⟩,M1,ρ1,sm1,g1,ItD.tup hq r λys hy=>I1.tuple_inj hy hq,?_⟩⟩
  ·have e:b=s1.heap.objs.size:=by simpa using hb
   subst e
   exact I1.fpOk (AAD _) (I1.hok.fresh (AAD _))
  ·exact(show ds.length<=sizeLine->Q ⟨ds,λ_=>True⟩ M1 from q1) (by rw[r.length];exact hz)
 | @ref n a hn =>
  cases rv
  obtain⟨xs,hL,q2⟩:=(show ∃xs,al M1 n xs/\(xs.length<=sizeLine->Q ⟨xs,λM=>al M n xs⟩ M1)from q1)
  obtain⟨vs,hq,r⟩:=al.seq sm1 hL hn
  obtain⟨its,rr,p,hz⟩:=I1.list hq
  refine ADo p.isList ?_
  refine⟨s1.heap.objs.size,[s1.heap.objs.size],_,_,H1,rfl,I1.kept (t':=s1.toks) λb o e=>AA4 _ e,wV a _,⟨_,AAE _ rfl,rfl,rfl⟩,λb hb=>?_,k _ H1 ⟨⟨xs,λM=>al M n xs⟩,M1,ρ1,sm1,g1,ItD.lst hn,q2 (by rw[r.length];exact hz)⟩⟩
  have e:b=s1.heap.objs.size:=by simpa using hb
  subst e
  exact I1.fpOk (AAD _) (I1.hok.fresh (AAD _))
 | str x =>
  obtain⟨t,rfl⟩:=rv
  have fin:∀(nm:String) (ob:Obj),(ob.cls=.type nm/\ob.data=.fields #[.str x t,.int 0 0]) ->
    (∀A':Around,A'.handled=none->Walks X.prog X.w A' s1.heap.objs.size [s1.heap.objs.size] [s1.heap.objs.size] x.cps.size (SignAt x) (λi h=>h.IsStrIter s1.heap.objs.size nm x t i)) ->
    (∀(A:Around) (i:Nat) (s:Shared) (Q:Value->Shared->Prop) (E:Value->Shared->Prop),s.heap.IsStrIter s1.heap.objs.size nm x t i->Q (.ref s1.heap.objs.size) s->wpAny (model X.prog X.w) A (pyIter (.ref s1.heap.objs.size)) Q E s) ->
    ["enumerate","zip","dict_itemiterator","dict_reverseitemiterator","odict_iterator","itertools.zip_longest","itertools.pairwise"].contains nm=false->(s1.heap.push ob).IsStrIter s1.heap.objs.size nm x t 0 ->
    PIE X pins σ tg R (.ref s1.heap.objs.size) { s1 with heap:=s1.heap.push ob }:=λnm ob hob W hself hnm st=>by
   refine⟨s1.heap.objs.size,[s1.heap.objs.size],_,_,H1,rfl,I1.kept (t':=s1.toks) λb o e=>AA4 _ e,
    vK (PX:=λi v=>∃c,x.cps[i]?=some c/\v=.str ⟨#[c]⟩) _ _ _ _ W (λi v ⟨c,u,e1,e2⟩=>⟨.str ⟨#[c]⟩,⟨u,e2⟩,c,e1,rfl⟩) (λi h st=>?_) (λi h h' st k=>?_) hself,st,λb hb=>?_,k _ H1 ⟨⟨signs x,λ_=>True⟩,M1,ρ1,sm1,g1,ItD.plain ?_ ?_ ?_,q1⟩⟩
   ·obtain⟨o,e,c,d⟩:=st
    exact⟨o,nm,_,e,c,d,hnm⟩
   ·obtain⟨o,e,r⟩:=st
    exact⟨o,k o e,r⟩
   ·have e:b=s1.heap.objs.size:=by simpa using hb
    subst e
    exact I1.fpOk (AAD _) (I1.hok.fresh (AAD _))
   ·intro i _ hi
    simpa [signs]using hi
   ·rintro i H x' H' _ ⟨rfl,c,e,rfl⟩
    exact⟨rfl,.str ⟨#[c]⟩,by simp[signs,e],rfl⟩
   ·intro H
    simp[signs]
  cases ha:x.cps.all (· < 128)
  ·exact wpAny_pyIter_wide ha (fin _ _ ⟨rfl,rfl⟩ (λA' hA=>Walks.strWide hA _ x t) (λ_ _ _ _ _ st h=>wpAny_pyIter_striter_wide st h) (by decide) ⟨_,AAE _ rfl,rfl,rfl⟩)
  ·exact wpAny_pyIter_ascii ha (fin _ _ ⟨rfl,rfl⟩ (λA' hA=>Walks.strAscii hA _ x t) (λ_ _ _ _ _ st h=>wpAny_pyIter_striter_ascii st h) (by decide) ⟨_,AAE _ rfl,rfl,rfl⟩)
def oz(lo:Int)(n:Nat):List D:=(AAe n).map λi=>.int (lo+((i:Nat):Int))
theorem ItD.rng{K:AA5}{ρ:List Addr}{H:Hp}(lo:Int)(n:Nat):ItD K ⟨oz lo n,λ_=>True⟩ ρ H (Itr lo n):=by
 refine ItD.plain (λi _ hi=>?_) (λi H x H' hi y=>?_) λH=>?_
 ·show i<n
  simpa [oz]using hi
 ·obtain⟨e,rfl⟩:=y
  have hi':i<n:=by simpa [oz]using hi
  exact⟨e,.int (lo+i),by simp[oz,hi'],rfl⟩
 ·show n<=(oz lo n).length
  simp[oz]
def cL(ta:DTA):DTI:=λS M R=>ta S M λds M1=>match ds with
 | [.int j]=>(-(2 ^ 62)<=j/\j<2 ^ 62)/\R ⟨oz 0 j.toNat,λ_=>True⟩ M1
 | _=>False
def ip(ta:DTA):DTI:=λS M R=>ta S M λds M1=>match ds with
 | [.int i,.int j]=>(-(2 ^ 62)<=i/\i<2 ^ 62/\-(2 ^ 62)<=j/\j<2 ^ 62)/\R ⟨oz i (j-i).toNat,λ_=>True⟩ M1
 | _=>False
theorem PI.imp(h:PI X tg iter t')(i:∀σ H R,t σ H R->t' σ H R):PI X tg iter t:=λpins s σ H R I q=>h pins s σ H R I (i σ H R q)
theorem zO(hm:X.mg "range" = none)(ha:DA X [a] ta)(hg:Gl X "range":=by rfl)(hs:starEach [a] X.env=[(false,eval a X.env)]:=by rfl):DI X tg (.Call (.Name "range" p) [a] [] pos) (cL ta):=by
 refine PI.imp (yd hg hm ha hs) λσ H R ⟨S,M,ρ,Q,s,sr,q,k⟩=>⟨S,M,ρ,_,s,sr,q,λvs H1 ⟨ds,M1,ρ1,s1,g1,r1,q1⟩=>?_⟩
 try dsimp only at q1
 split at q1
 ·rename_i j
  obtain⟨⟨h1,h2⟩,q2⟩:=q1
  first | have hzz:=Reps.inv_cons r1 | have hzz:=ax.inv_cons r1
  clear r1
  obtain⟨_,_,rfl,r,t⟩:=hzz
  cases r
  cases t
  exact⟨j,rfl,h1,h2,k _ H1 ⟨_,M1,ρ1,s1,g1,ItD.rng 0 j.toNat,q2⟩⟩
 ·exact q1.elim
theorem zN(hm:X.mg "range" = none)(ha:DA X [a,b] ta)(hg:Gl X "range":=by rfl)(hs:starEach [a,b] X.env=[(false,eval a X.env),(false,eval b X.env)]:=by rfl)(hs2:starEach [b] X.env=[(false,eval b X.env)]:=by rfl) :
  DI X tg (.Call (.Name "range" p) [a,b] [] pos) (ip ta):=by
 refine PI.imp (yc hg hm ha hs hs2) λσ H R ⟨S,M,ρ,Q,s,sr,q,k⟩=>⟨S,M,ρ,_,s,sr,q,λvs H1 ⟨ds,M1,ρ1,s1,g1,r1,q1⟩=>?_⟩
 try dsimp only at q1
 split at q1
 ·rename_i i j
  obtain⟨h,q2⟩:=q1
  first | have hzz:=Reps.inv_cons r1 | have hzz:=ax.inv_cons r1
  clear r1
  obtain⟨_,_,rfl,r,t⟩:=hzz
  cases r
  cases t with
  | cons r t =>
   cases r
   cases t
   exact⟨i,j,rfl,h,k _ H1 ⟨_,M1,ρ1,s1,g1,ItD.rng i (j-i).toNat,q2⟩⟩
 ·exact q1.elim
end
end L2
namespace L2
open PySem PySem.Spec PyProof.Rows DL
mutual
inductive Bel(k:Nat):D->Prop
 | non:Bel k .non
 | bl (b:Bool):Bel k (.bl b)
 | int (i:Int):Bel k (.int i)
 | str (x:Str):Bel k (.str x)
 | ty (n:String):Bel k (.ty n)
 | tup {ds:List D} (h:Bels k ds):Bel k (.tup ds)
 | ref {n:Nat} (h:n<k):Bel k (.ref n)
inductive Bels(k:Nat):List D->Prop
 | nil:Bels k []
 | cons {d:D}{ds:List D} (h:Bel k d) (t:Bels k ds):Bels k (d::ds)
end
def MO.items:MO->List D
 | .lst xs=>xs
 | .fz xs=>xs
 | .kl xs=>xs
 | .dct kvs=>kvs.map (·.2)
 | .dkt kvs=>kvs.map (·.2)
mutual
theorem Rep.bel{K:AA5}{ρ:List Addr}{H:Hp}:∀{d:D}{v:V},Rep K ρ H d v->Bel ρ.length d
 | _,_,.non=>.non
 | _,_,.bl b=>.bl b
 | _,_,.int i=>.int i
 | _,_,.str x=>.str x
 | _,_,.ty n=>.ty n
 | _,_,.tup h r=>.tup (Reps.bel r)
 | _,_,.ref h=>.ref (AA2.mp h).1
theorem Reps.bel{K:AA5}{ρ:List Addr}{H:Hp}:∀{ds:List D}{vs:List V},Reps K ρ H ds vs->Bels ρ.length ds
 | _,_,.nil=>.nil
 | _,_,.cons h t=>.cons (Rep.bel h) (Reps.bel t)
end
mutual
theorem Rep.cut{K:AA5}{ρ:List Addr}{H:Hp}{k:Nat}:∀{d:D}{v:V},Rep K ρ H d v->Bel k d->Rep K (ρ.take k) H d v
 | _,_,.non,_=>.non
 | _,_,.bl b,_=>.bl b
 | _,_,.int i,_=>.int i
 | _,_,.str x,_=>.str x
 | _,_,.ty n,_=>.ty n
 | _,_,.tup h r,.tup b=>.tup h (Reps.cut r b)
 | _,_,.ref h,.ref b=>.ref (by rw[ABj b];exact h)
theorem Reps.cut{K:AA5}{ρ:List Addr}{H:Hp}{k:Nat}:∀{ds:List D}{vs:List V},Reps K ρ H ds vs->Bels k ds->Reps K (ρ.take k) H ds vs
 | _,_,.nil,_=>.nil
 | _,_,.cons h t,.cons b c=>.cons (Rep.cut h b) (Reps.cut t c)
end
mutual
theorem Bel.mono{j k:Nat}(h:j<=k):∀{d:D},Bel j d->Bel k d
 | _,.non=>.non
 | _,.bl b=>.bl b
 | _,.int i=>.int i
 | _,.str x=>.str x
 | _,.ty n=>.ty n
 | _,.tup b=>.tup (Bels.mono h b)
 | _,.ref b=>.ref (AAd b h)
theorem Bels.mono{j k:Nat}(h:j<=k):∀{ds:List D},Bels j ds->Bels k ds
 | _,.nil=>.nil
 | _,.cons b c=>.cons (Bel.mono h b) (Bels.mono h c)
end
theorem Bels.of:∀{xs:List D},(∀d∈xs,Bel k d)->Bels k xs
 | [],_=>.nil
 | d::ds,h=>.cons (h d AAI) (Bels.of λe he=>h e (AA9 _ he))
section
variable{K:AA5}{ρ ρ':List Addr}{H H':Hp}{M M':Mem}
theorem BF:∀(n:Nat) (d:D),cK n d=true->Bel k d:=by
 intro n
 induction n with
 | zero =>
  intro d h
  cases d with
  | str x=>exact .str x
  | int x=>exact .int x
  | _=>cases h
 | succ n ih =>
  intro d h
  cases d with
  | str x=>exact .str x
  | int x=>exact .int x
  | tup ds=>exact .tup (Bels.of λx hx=>ih x (AAK.mp (show ds.all (cK n)=true from h) x hx))
  | _=>cases h
theorem EJ(r:Paired (wP K ρ H) kvs xs):Bels ρ.length (kvs.map (·.2)):=by
 induction r with
 | nil=>exact .nil
 | cons q _ ih =>
  obtain⟨_,_,_,v,q4,_⟩:=q
  exact .cons q4.bel ih
theorem EI(r:Paired (wP K ρ H) kvs xs)(b:Bels k (kvs.map (·.2))):Paired (wP K (ρ.take k) H) kvs xs:=by
 induction r with
 | nil=>exact .nil
 | cons q _ ih =>
  obtain⟨q1,q2,q3,v,q4,q5⟩:=q
  rw[AAM]at b
  cases b with
  | cons b1 b2=>exact .cons ⟨q1,q2,q3.cut (BF _ _ q2),v,q4.cut b1,q5⟩ (ih b2)
theorem wO.bels(h:wO K ρ H a mo):Bels ρ.length mo.items:=by
 cases mo with
 | lst ds=>obtain⟨vs,_,r⟩:=h;exact r.bel
 | fz ds=>obtain⟨o,vs,_,r⟩:=h;exact r.bel
 | kl ds=>obtain⟨vs,_,r⟩:=h;exact r.bel
 | dct kvs=>obtain⟨vs,_,r⟩:=h;exact r.bel
 | dkt kvs=>obtain⟨_,_,_,xs,_,r⟩:=h;exact EJ r
theorem wO.cut(h:wO K ρ H a mo)(b:Bels k mo.items):wO K (ρ.take k) H a mo:=by
 cases mo with
 | lst ds=>obtain⟨vs,e,r⟩:=h;exact⟨vs,e,r.cut b⟩
 | fz ds=>obtain⟨o,vs,e,r⟩:=h;exact⟨o,vs,e,r.cut b⟩
 | kl ds=>obtain⟨vs,e,r⟩:=h;exact⟨vs,e,r.cut b⟩
 | dct kvs=>obtain⟨vs,e,r⟩:=h;exact⟨vs,e,r.cut b⟩
 | dkt kvs=>obtain⟨h1,h2,h3,xs,e,r⟩:=h;exact⟨h1,h2,h3,xs,e,EI r b⟩
theorem Sim.bels(S:Sim K ρ M H){n:Nat}{mo:MO}(e:M[n]?=some mo):Bels M.length mo.items:=by
 obtain⟨a,_,h⟩:=S.get e
 rw[←S.len]
 exact h.bels
theorem Sim.cut(S:Sim K ρ M H)(k:Nat)(hb:∀(n:Nat) (mo:MO),n<k->M[n]?=some mo->Bels k mo.items):Sim K (ρ.take k) (M.take k) H:=by
 have lt:∀{n:Nat}{a:Addr},(ρ.take k)[n]?=some a->n<k/\ρ[n]?=some a:=λ{n a} e=>by
  have h1:=(AA2.mp e).1
  rw[AAh]at h1
  have h2:n<k:=by lia
  rw[ABj h2]at e
  exact⟨h2,e⟩
 refine⟨λn m a hne e1 e2=>?_,by rw[AAh,AAh,S.len],λn a mo e1 e2=>?_⟩
 ·obtain⟨l1,f1⟩:=lt e1
  obtain⟨l2,f2⟩:=lt e2
  rw[ABj l1,ABj l2]
  exact S.nd n m a hne f1 f2
 ·obtain⟨l1,f1⟩:=lt e1
  rw[ABj l1]at e2
  exact(S.obj n a mo f1 e2).cut (hb n mo l1 e2)
theorem SRep.cut(r:SRep K ρ H S σ)(hl:S'.length=S.length)(h:∀(i:Nat) d,S'[i]?=some (some d)->S[i]?=some (some d)/\Bel k d):SRep K (ρ.take k) H S' σ :=
 ⟨hl.trans r.len,λi d e=>let ⟨e',b⟩:=h i d e;let ⟨v,hv,rv⟩:=r.get i d e';⟨v,hv,rv.cut b⟩⟩
theorem Grow.cut(g:Grow K ρ H ρ' H')(h:ρ.length<=k):Grow K ρ H (ρ'.take k) H':=by
 refine⟨?_,g.tup⟩
 obtain⟨t,rfl⟩:=g.pre
 rw[List.take_append]
 rw[ACG h]
 exact ABJ _ _
end
inductive FgtS(k:Nat):SD->SD->Prop
 | nil:FgtS k [] []
 | keep {d:D}{S S':SD} (h:Bel k d) (t:FgtS k S S'):FgtS k (some d::S) (some d::S')
 | drop {o:Option D}{S S':SD} (t:FgtS k S S'):FgtS k (o::S) (none::S')
theorem FgtS.len(h:FgtS k S S'):S'.length=S.length:=by
 induction h with
 | nil=>rfl
 | keep _ _ ih=>rw[AAA,AAA,ih]
 | drop _ ih=>rw[AAA,AAA,ih]
theorem FgtS.get(h:FgtS k S S'):∀(i:Nat) d,S'[i]?=some (some d)->S[i]?=some (some d)/\Bel k d:=by
 induction h with
 | nil=>intro i d e;simp at e
 | keep b _ ih =>
  intro i d e
  cases i with
  | zero=>simp at e;subst e;exact⟨rfl,b⟩
  | succ i=>exact ih i d (by simpa using e)
 | drop _ ih =>
  intro i d e
  cases i with
  | zero=>simp at e
  | succ i=>exact ih i d (by simpa using e)
def Fgt(M0:Mem)(P:SD->Mem->Prop)(S:SD)(M:Mem):Prop :=
 P S M\/(∃k S',M0.length<=k/\FgtS k S S'/\(∀(n:Nat) mo,n<k->M[n]?=some mo->Bels k mo.items)/\P S' (M.take k))\/∃S',FgtS M0.length S S'/\M0 <+: M/\P S' M0
theorem AG{α:Type}{l l':List α}(h:l <+: l'):l'.take l.length=l:=by
 obtain⟨t,rfl⟩:=h
 rw[List.take_append_of_le_length (AAD _),AC2]
theorem SQ.fgt{K:AA5}{ρ:List Addr}{H:Hp}{M0:Mem}{P:SD->Mem->Prop}{σ':St}{H':Hp}(s0:Sim K ρ M0 H)(h:SQ K ρ H (Fgt M0 P) σ' H'):SQ K ρ H P σ' H':=by
 have hk:ρ.length<=M0.length:=by rw[s0.len];exact AAD _
 obtain⟨S',M',ρ',s',g',sr',q'⟩:=h
 rcases q' with q' | ⟨k,S2,h1,h2,h4,q⟩|⟨S2,h2,hp,q⟩
 ·exact⟨S',M',ρ',s',g',sr',q'⟩
 ·exact⟨S2,M'.take k,ρ'.take k,s'.cut k h4,g'.cut (ABT hk h1),sr'.cut h2.len h2.get,q⟩
 ·have sc:=s'.cut M0.length λn mo hn e=>by
   obtain⟨t,rfl⟩:=hp
   rw[AAJ hn]at e
   exact s0.bels e
  rw[AG hp]at sc
  exact⟨S2,M0,ρ'.take M0.length,sc,g'.cut hk,sr'.cut h2.len h2.get,q⟩
def lQ(ok:Mem->Prop)(g:DTG)(tb:DTS)(E:DEnds)(k0:Mem):List D->SD->Mem->Prop
 | [],S,M=>ok M/\E.nx S M
 | x::xs,S,M=>ok M/\g x S M λS2 M2=>tb ⟨Fgt k0 (lQ ok g tb E k0 xs),E.rt,E.nx,Fgt k0 (lQ ok g tb E k0 xs)⟩ S2 M2
def tN(di:DTI)(g:DTG)(tb:DTS):DTS:=λE S M=>di S M λsrc M1=>lQ src.ok g tb E M1 src.items S M1
theorem qZ{α:Type}{l:List α}{i:Nat}{x:α}(h:l[i]?=some x):l.drop i=x::l.drop (i+1):=by
 obtain⟨hi,e⟩:=AA2.mp h
 rw[List.drop_eq_getElem_cons hi,e]
theorem Bn{K:AA5}{di:DTI}{g:DTG}{tb:DTS}(E:Ends)(σ:St)(H:Hp)(h:lowS K (tN di g tb) E σ H):tFor (lowI K di) (lowG K g) (lowS K tb) E σ H:=by
 obtain⟨S,M,ρ,F,s,sr,q,k⟩:=h
 refine⟨S,M,ρ,_,s,sr,q,λJ H1 ⟨src,M1,ρ1,s1,g1,it,q1⟩=>?_⟩
 have k1:=k.trans g1
 refine⟨λi m τ H2=>∃S2 M2 ρ2,Sim K ρ2 M2 H2/\Grow K ρ1 H1 ρ2 H2/\SRep K ρ2 H2 S2 τ/\i<=src.items.length/\m=src.items.length-i/\lQ src.ok g tb F M1 (src.items.drop i) S2 M2,
  ⟨_,S,M1,ρ1,s1,.refl,sr.grow g1,AAT _,rfl,q1⟩,?_⟩
 rintro i m τ H2 ⟨S2,M2,ρ2,s2,g2,sr2,hi,rfl,q2⟩
 by_cases hlt:i<src.items.length
 ·have hx:src.items[i]?=some src.items[i]:=AA7 hlt
  rw[qZ hx]at q2
  obtain⟨ok,q3⟩:=(show src.ok M2/\g src.items[i] S2 M2 _ from q2)
  refine .inr ⟨it.go i ρ2 M2 H2 s2 g2 ok hlt,_,λτ' H' z=>z,λx H3 y=>?_⟩
  obtain⟨d,ρ3,hd,s3,g3,r3⟩:=it.yld i ρ2 M2 H2 x H3 s2 g2 ok hlt y
  have ed:d=src.items[i]:=AAR (hd.symm.trans hx)
  subst ed
  refine⟨_,S2,M2,ρ3,_,s3,sr2.grow g3,r3,q3,λτ4 H4 ⟨S4,M4,ρ4,s4,g4,sr4,q4⟩=>?_⟩
  have g14:=(g2.trans g3).trans g4
  refine⟨S4,M4,ρ4,_,s4,sr4,q4,?_⟩
  have again:∀τ5 H5,SQ K ρ4 H4 (Fgt M1 (lQ src.ok g tb F M1 (src.items.drop (i+1)))) τ5 H5 ->
    ∃m',m' < src.items.length-i/\∃S2 M2 ρ2,Sim K ρ2 M2 H5/\Grow K ρ1 H1 ρ2 H5/\SRep K ρ2 H5 S2 τ5/\i+1<=src.items.length/\m'=src.items.length-(i+1)/\lQ src.ok g tb F M1 (src.items.drop (i+1)) S2 M2:=λτ5 H5 z=>by
   obtain⟨S5,M5,ρ5,s5,g5,sr5,q5⟩:=SQ.fgt (ρ:=ρ1) (H:=H1) s1 (SQ.trans g14 z)
   exact⟨_,by lia,S5,M5,ρ5,s5,g5,sr5,hlt,rfl,q5⟩
  exact⟨again,λv H5 z=>k1.rt v H5 (VQ.trans g14 z),λτ5 H5 z=>k1.nx τ5 H5 (SQ.trans g14 z),again⟩
 ·have e:i=src.items.length:=by lia
  subst e
  rw[List.drop_of_length_le (AAD _)]at q2
  obtain⟨ok,q3⟩:=(show src.ok M2/\F.nx S2 M2 from q2)
  exact .inl ⟨it.stop ρ2 M2 H2 s2 g2 ok,k1.nx τ H2 ⟨S2,M2,ρ2,s2,g2,sr2,q3⟩⟩
section
variable{X:Cx}
theorem Jt(hi:DI X tg iter di)(hg:DG X tg g)(hb:DSs X body tb)(hp:PassesOwn (model X.prog X.w) X.A X.env X.xe:=by exact PassesOwn.never)(hc:X.calm=true:=by rfl)
  (hs:∀x,foldedSetIterable iter X.env x=pure x:=by intro _;rfl):DS X (.For tg iter body [] pos) (tN di g tb):=PS.imp (Ha hp hc hi hg hb hs) Bn
def Gn(nt:Nat)(js:List Nat)(S:SD):SD:=ADv nt none++js.map λj=>(S[j]?).join
def lz(ok:Mem->Prop)(g:DTG)(tt:DTT)(te:DTE)(Q:DK):List D->List D->SD->Mem->Prop
 | [],acc,S,M=>ok M/\Q (.ref M.length) (M++[.lst acc])
 | x::xs,acc,S,M=>ok M/\g x S M λS2 M2=>tt S2 M2 λb M3=>if b=true then te S2 M3 λy M4=>acc.length<sizeLine/\lz ok g tt te Q xs (acc++[y]) S2 M4 else lz ok g tt te Q xs acc S2 M3
def dLC(nt:Nat)(js:List Nat)(di:DTI)(g:DTG)(tt:DTT)(te:DTE):DTE:=λS M Q=>di S M λsrc M1=>lz src.ok g tt te Q src.items [] (Gn nt js S) M1
theorem SRep.bst{K:AA5}{ρ:List Addr}{H:Hp}{S:SD}{σ:St}(r:SRep K ρ H S σ)(nt:Nat)(js:List Nat):SRep K ρ H (Gn nt js S) (L2.bst nt js σ):=by
 refine⟨by simp[Gn,Ab],λi d e=>?_⟩
 unfold Gn at e
 unfold L2.bst
 by_cases hi:i<nt
 ·rw[AAJ (by simpa using hi),ACi]at e
  simp[hi]at e
 ·rw[AAg (by simpa using AD6.mp hi),AD1,AAU]at e
  rw[AAg (by simpa using AD6.mp hi),AD1,AAU]
  cases q:js[i-nt]? with
  | none=>rw[q]at e;cases e
  | some j =>
   rw[q]at e
   have e':(S[j]?).join=some d:=by simpa using e
   cases q2:S[j]? with
   | none=>rw[q2]at e';cases e'
   | some o =>
    rw[q2]at e'
    have e2:o=some d:=e'
    subst e2
    obtain⟨v,hv,rv⟩:=r.get j d q2
    exact⟨v,by simp[hv],rv⟩
theorem yO{K:AA5}{nt:Nat}{js:List Nat}{di:DTI}{g:DTG}{tt:DTT}{te:DTE}(σ:St)(H:Hp)(R:VK)(h:lowE K (dLC nt js di g tt te) σ H R):tLC nt js (lowI K di) (lowG K g) (lowT K tt) (lowE K te) σ H R:=by
 obtain⟨S,M,ρ,Q,s,sr,q,k⟩:=h
 refine⟨S,M,ρ,_,s,sr,q,λJ H1 ⟨src,M1,ρ1,s1,g1,it,q1⟩=>?_⟩
 refine⟨λi m vs τ H2=>∃S2 M2 ρ2 acc,Sim K ρ2 M2 H2/\Grow K ρ1 H1 ρ2 H2/\SRep K ρ2 H2 S2 τ/\Reps K ρ2 H2 acc vs/\i<=src.items.length/\m=src.items.length-i/\lz src.ok g tt te Q (src.items.drop i) acc S2 M2,
  ⟨_,_,M1,ρ1,[],s1,.refl,(sr.grow g1).bst nt js,.nil,AAT _,rfl,q1⟩,?_⟩
 rintro i m vs τ H2 ⟨S2,M2,ρ2,acc,s2,g2,sr2,ra,hi,rfl,q2⟩
 by_cases hlt:i<src.items.length
 ·have hx:src.items[i]?=some src.items[i]:=AA7 hlt
  rw[qZ hx]at q2
  obtain⟨ok,q3⟩:=(show src.ok M2/\g src.items[i] S2 M2 _ from q2)
  refine .inr ⟨it.go i ρ2 M2 H2 s2 g2 ok hlt,λx H3 y=>?_⟩
  obtain⟨d,ρ3,hd,s3,g3,r3⟩:=it.yld i ρ2 M2 H2 x H3 s2 g2 ok hlt y
  have ed:d=src.items[i]:=AAR (hd.symm.trans hx)
  subst ed
  refine⟨_,S2,M2,ρ3,_,s3,sr2.grow g3,r3,q3,λτ4 H4 ⟨S4,M4,ρ4,s4,g4,sr4,q4⟩=>?_⟩
  refine⟨S4,M4,ρ4,_,s4,sr4,q4,λb H5 ⟨M5,ρ5,s5,g5,q5⟩=>?_⟩
  have g15:=((g2.trans g3).trans g4).trans g5
  cases b with
  | false=>exact ba ⟨_,by lia,S4,M5,ρ5,acc,s5,g15,sr4.grow g5,ra.grow ((g3.trans g4).trans g5),hlt,rfl,(show lz src.ok g tt te Q (src.items.drop (i+1)) acc S4 M5 from q5)⟩
  | true =>
   refine aI ⟨S4,M5,ρ5,_,s5,sr4.grow g5,(show te S4 M5 _ from q5),λv H6 ⟨y',M6,ρ6,s6,g6,r6,hl,q6⟩=>?_⟩
   have ra6:=ra.grow (((g3.trans g4).trans g5).trans g6)
   exact⟨by rw[←ra.length];exact hl,_,by lia,S4,M6,ρ6,acc++[y'],s6,g15.trans g6,sr4.grow (g5.trans g6),ra6.append (.cons r6 .nil),hlt,rfl,q6⟩
 ·have e:i=src.items.length:=by lia
  subst e
  rw[List.drop_of_length_le (AAD _)]at q2
  obtain⟨ok,q3⟩:=(show src.ok M2/\Q (.ref M2.length) (M2++[.lst acc])from q2)
  exact .inl ⟨it.stop ρ2 M2 H2 s2 g2 ok,λp hp=>k _ _ (VQ.laidL s2 (g1.trans g2) ra hp q3)⟩
theorem d_lc(B:BlkSc X N' nt js scope)(hi:DI X tg iter di)
  (hg:∀cl s0 H0 ex,DG (blk X N' scope cl s0 H0 ex) tg g) (ht:∀cl s0 H0 ex,PTs (blk X N' scope cl s0 H0 ex) ifs (lowT X.K tt)) (he:∀cl s0 H0 ex,DE (blk X N' scope cl s0 H0 ex) elt te) (hc:X.calm=true:=by rfl)
  (hs:∀x,foldedSetIterable iter X.env x=pure x:=by intro _;rfl):DE X (.ListComp elt [⟨tg,iter,ifs,0⟩] scope pos) (dLC nt js di g tt te):=PE.imp (pe_lc (g:=lowG X.K g) (tt:=lowT X.K tt) (te:=lowE X.K te) B hc hi (λcl s0 H0 ex=>hg cl s0 H0 ex) ht (λcl s0 H0 ex=>he cl s0 H0 ex) hs) yO
def lh:DTT:=λ_ M Q=>Q true M
theorem Fz:PTs X [] (lowT X.K lh):=λpins s σ H R I ⟨S,M,ρ,Q,sm,sr,q,k⟩=>DQ pins s σ H R I (k true H ⟨M,ρ,sm,.refl,q⟩)
theorem Fy(h:DT X c t):PTs X [c] (lowT X.K t):=DP h
end
def Chg(M M1:Mem):Prop:=M1.length=M.length/\∀(i:Nat) (mo:MO),M1[i]?=some mo->M[i]?=some mo\/Bels M.length mo.items
theorem Chg.refl:Chg M M:=⟨rfl,λ_ _ h=>.inl h⟩
def aq(M:Mem)(R:DK):DK:=λd M'=>R d M'\/(∃M1,Chg M M1/\Bel M.length d/\M1 <+: M'/\R d M1)\/∃M1 n xs,Chg M M1/\d=.ref n/\M.length<=n/\M'[n]?=some (.lst xs)/\M1 <+: M'/\Bels M.length xs/\R (.ref M.length) (M1++[.lst xs])
theorem cJ{α:Type}{l l':List α}(h:l <+: l'):l'.take l.length=l:=by
 obtain⟨t,rfl⟩:=h
 rw[List.take_append_of_le_length (AAD _),AC2]
theorem VQ.endq{K:AA5}{ρ:List Addr}{M:Mem}{H:Hp}{R:DK}{v:V}{H':Hp}(s:Sim K ρ M H)(h:VQ K ρ H (aq M R) v H'):VQ K ρ H R v H':=by
 obtain⟨d,M',ρ',s',g',r',q'⟩:=h
 have hρ:ρ'.take M.length=ρ:=by rw[←s.len];exact cJ g'.pre
 rcases q' with q | ⟨M1,c,b,pre,q⟩|⟨M1,n,xs,c,rfl,hnM,e,pre,b,q⟩
 ·exact⟨d,M',ρ',s',g',r',q⟩
 ·have sc:=s'.cut M.length λn mo hn e=>by
   have e':M1[n]?=some mo:=by
    obtain⟨t,rfl⟩:=pre
    rw[AAJ (by rw[c.1];exact hn)]at e
    exact e
   exact(c.2 n mo e').elim (λz=>s.bels z) id
  have tk:M'.take M.length=M1:=by rw[←c.1];exact cJ pre
  rw[hρ,tk]at sc
  have rc:=r'.cut b
  rw[hρ]at rc
  exact⟨d,M1,ρ,sc,⟨ACb,g'.tup⟩,rc,q⟩
 ·have sc:=s'.cut M.length λn mo hn e=>by
   have e':M1[n]?=some mo:=by
    obtain⟨t,rfl⟩:=pre
    rw[AAJ (by rw[c.1];exact hn)]at e
    exact e
   exact(c.2 n mo e').elim (λz=>s.bels z) id
  have tk:M'.take M.length=M1:=by rw[←c.1];exact cJ pre
  rw[hρ,tk]at sc
  obtain⟨a,rfl,hn⟩:=Rep.inv_ref r'
  obtain⟨vs,hH,rr⟩:=s'.obj n a _ hn e
  have rc:=rr.cut b
  rw[hρ]at rc
  have g2:Grow K ρ H' (ρ++[a]) H':=⟨ABJ _ _,λ_ _ h=>h⟩
  have old:∀(m:Nat),ρ[m]?=some a->isK M1[m]?:=λm em=>by
   have hm:m≠n:=λz=>by
    have:m<M.length:=by rw[←s.len];exact(AA2.mp em).1
    lia
   have q:=s'.nd m n a hm (aY g'.pre em) hn
   have hlt:m<M.length:=by rw[←s.len];exact(AA2.mp em).1
   rcases q with⟨ds,z⟩|⟨ds,z⟩
   ·refine⟨ds,?_⟩
    have hlt1:m<M1.length:=by rw[c.1];exact hlt
    have:=aY pre (AA7 hlt1)
    rw[z]at this
    rw[AA7 hlt1]
    exact this.symm
   ·rw[e]at z;cases z
  refine⟨.ref M.length,M1++[.lst xs],ρ++[a],⟨λn1 m1 a1 hne e1 e2=>?_,by rw[AA8,AA8,sc.len];rfl,λn1 a1 mo e1 e2=>?_⟩,⟨ABJ _ _,g'.tup⟩,.ref (by have:=sc.last (p:=a);rw[c.1]at this;exact this),q⟩
  ·rcases aP e1 with f1 | ⟨f1,w1⟩
   ·rcases aP e2 with f2 | ⟨f2,w2⟩
    ·exact(sc.nd n1 m1 a1 hne f1 f2).elim (λz=>.inl z.more) λz=>.inr z.more
    ·subst w2
     exact .inl (old n1 f1).more
   ·rcases aP e2 with f2 | ⟨f2,w2⟩
    ·subst w1
     exact .inr (old m1 f2).more
    ·exact absurd (f1.trans f2.symm) hne
  ·rcases aP e1 with f1 | ⟨f1,w1⟩
   ·have hn1:n1<M1.length:=by rw[←sc.len];exact(AA2.mp f1).1
    rw[AAJ hn1]at e2
    exact(sc.obj n1 a1 mo f1 e2).grow g2 (.inl rfl)
   ·subst w1 f1
    rw[sc.len,AAg (AAD _),ABy]at e2
    simp at e2
    subst e2
    exact⟨vs,hH,rc.grow g2⟩
def bC(N:List Str)(ds:List D):SD:=ds.map some++ADv (N.length-ds.length) none
theorem SRep.start{K:AA5}{ρ:List Addr}{H:Hp}{ds:List D}{vs:List V}(r:Reps K ρ H ds vs)(N:List Str):SRep K ρ H (bC N ds) (L2.start N vs):=by
 refine⟨by simp[bC,L2.start,r.length],λi d e=>?_⟩
 unfold bC at e
 unfold L2.start
 by_cases hi:i<ds.length
 ·rw[AAJ (by simpa using hi),AAU]at e
  rw[AAJ (by simpa [←r.length]using hi),AAU]
  have e':ds[i]?=some d:=by
   rw[AA7 hi]at e ⊢
   simpa using e
  obtain⟨v,hv,rv⟩:=r.get e'
  exact⟨v,by rw[hv];rfl,rv⟩
 ·rw[AAg (by simpa using AD6.mp hi),ACi]at e
  split at e<;>cases e
theorem d_fn{P:Program}{w:World}{K:AA5}{mg:Str->Option Value}{base:Heap}{x qual:Str}{st:Stmt}{f:Addr}{fd:FuncData}{N ps:List Str}{k:Nat}(Pr:DSp)(F:Fun K x qual st f fd)(Sc:FnScope N ps (ay st))
  (len:∀ds M R,Pr ds M R->ds.length=ps.length)
  (hbody:∀(cdv:Value) (A:Around) (outer:List Env) (s:Shared) (H:Hp) (E:XK),Room k (A.deeper (envOfC qual (ay st) s.heap.objs.size f cdv)) ->
   ∃t,DSs (wM CX0 P w K mg base N qual (ay st) f cdv A outer s H E).nox (bH st) t/\∀ds M R,Pr ds M R->t ⟨λ_ M'=>aq M R .non M',aq M R,λ_ _=>False,λ_ _=>False⟩ (bC N ds) M) :
  FnOk P w K mg base CX0 (k+1) f fd ps (spL K Pr):=by
 refine F.ok Sc (λvs H Q E ⟨ds,M,ρ,R,s,r,q,_⟩=>by rw[←r.length];exact len ds M R q) λcdv A outer s H vs Q E hr h=>?_
 obtain⟨ds,M,ρ,R,sm,r,q,kk⟩:=h
 obtain⟨t,ht,hq⟩:=hbody cdv A outer s H E hr
 refine⟨lowS K t,ht,bC N ds,M,ρ,_,sm,SRep.start r N,hq ds M R q,⟨λσ' H' ⟨S',M',ρ',s',g',sr',q'⟩=>?_,λv H' z=>kk v H' (VQ.endq sm z),λσ' H' ⟨S',M',ρ',s',g',sr',q'⟩=>q'.elim,λσ' H' ⟨S',M',ρ',s',g',sr',q'⟩=>q'.elim⟩⟩
 exact kk .non H' (VQ.endq sm ⟨.non,M',ρ',s',g',.non,q'⟩)
end L2
namespace L2
open PySem PySem.Spec PyProof.Rows DL
section
variable{X:Cx}
theorem dfin(I:Inv X pins σ H s)(sm:Sim X.K ρ M H)(k:∀v H',VQ X.K ρ H Q v H'->R v H')(hv:cV d=some v)(rel:aK v u)(q:Q d M):EP X pins σ R u s :=
 ⟨v,H,I,rel,k v H (VQ.now sm (zZ hv) q)⟩
theorem eE(I:Inv X pins σ H s)(sm:Sim X.K ρ M H)(k:∀v H',VQ X.K ρ H Q v H'->R v H')(q:Q (.bl b) M):EP X pins σ R (.bool b) s :=
 ⟨.bl b,H,I,rfl,k _ H (VQ.now sm (.bl b) q)⟩
def qAdd:DR2:=λx y M Q=>match x,y with
 | .int i,.int j=>Q (.int (i+j)) M
 | .str a,.str b=>a.length+b.length<=sizeLine/\Q (.str (a++b)) M
 | .ref n,.ref m=>∃xs ys,M[n]?=some (.lst xs)/\M[m]?=some (.lst ys)/\xs.length+ys.length<=sizeLine/\Q (.ref M.length) (M++[.lst (xs++ys)])
 | _,_=>False
theorem HU:OpD X (binaryOp .Add) qAdd:=by
 refine OpR.imp (HH.or (vV.or HF)) λvx vy H R ⟨x,y,M,ρ,Q,sm,r1,r2,q,k⟩=>?_
 unfold qAdd at q
 split at q
 ·cases r1
  cases r2
  exact .inl ⟨_,_,rfl,rfl,k _ H (VQ.now sm (.int _) q)⟩
 ·cases r1
  cases r2
  exact .inr (.inl ⟨_,_,rfl,rfl,q.1,k _ H (VQ.now sm (.str _) q.2)⟩)
 ·obtain⟨xs,ys,e1,e2,hl,q⟩:=q
  obtain⟨_,rfl,h1⟩:=Rep.inv_ref r1
  obtain⟨_,rfl,h2⟩:=Rep.inv_ref r2
  obtain⟨vs,f1,g1⟩:=sm.obj _ _ _ h1 e1
  obtain⟨ws,f2,g2⟩:=sm.obj _ _ _ h2 e2
  exact .inr (.inr ⟨_,_,vs,ws,rfl,rfl,f1,f2,by rw[←g1.length,←g2.length];exact hl,λp hp=>k _ _ (VQ.laidL sm .refl (g1.append g2) hp q)⟩)
 ·exact q.elim
def An:DR2:=λx y M Q=>match x,y with
 | .int i,.int j=>Q (.int (i-j)) M
 | _,_=>False
theorem HM:OpD X (binaryOp .Sub) An:=by
 refine OpR.imp Hw λvx vy H R ⟨x,y,M,ρ,Q,sm,r1,r2,q,k⟩=>?_
 unfold An at q
 split at q
 ·cases r1
  cases r2
  exact⟨_,_,rfl,rfl,k _ H (VQ.now sm (.int _) q)⟩
 ·exact q.elim
def JZ(i j:Int):Prop:=0<j/\j<340282366920938463463374607431768211456
theorem Bb:OpR X (binaryOp .FloorDiv) (rI JZ λi j=>.int (i / j)):=opI λi j _ _ _ _ _ hc q=>by
 have h1:(0:Int)<j:=hc.1
 have h2:j<340282366920938463463374607431768211456:=hc.2
 have h3:j.natAbs.log2<128:=(Nat.log2_lt (by lia)).mpr (by rw[show (2:Nat) ^ 128=340282366920938463463374607431768211456 by decide];lia)
 exact floordiv_int (by lia) (by rw[Int.fdiv_eq_ediv_of_nonneg i (by lia)];exact q) (.inl (PyProof.noPylong_of_log2 (by lia)))
def nk:DR2:=λx y M Q=>match x,y with
 | .int i,.int j=>JZ i j/\Q (.int (i / j)) M
 | _,_=>False
theorem Eu:OpD X (binaryOp .FloorDiv) nk:=by
 refine OpR.imp Bb λvx vy H R ⟨x,y,M,ρ,Q,sm,r1,r2,q,k⟩=>?_
 unfold nk at q
 split at q
 ·cases r1
  cases r2
  exact⟨_,_,rfl,rfl,q.1,k _ H (VQ.now sm (.int _) q.2)⟩
 ·exact q.elim
def vS:DR2:=λx y M Q=>match x,y with
 | .int i,.int j=>0<j/\Q (.int (i % j)) M
 | _,_=>False
theorem HP:OpD X (binaryOp .Mod) vS:=by
 refine OpR.imp HD λvx vy H R ⟨x,y,M,ρ,Q,sm,r1,r2,q,k⟩=>?_
 unfold vS at q
 split at q
 ·cases r1
  cases r2
  exact⟨_,_,rfl,rfl,q.1,k _ H (VQ.now sm (.int _) q.2)⟩
 ·exact q.elim
def bt(a b:Str):Bool:=decide (a.cps.toList<b.cps.toList)
def qLt:DR2:=λx y M Q=>match x,y with
 | .int i,.int j=>Q (.bl (decide (i<j))) M
 | .str a,.str b=>Q (.bl (bt a b)) M
 | _,_=>False
def qLe:DR2:=λx y M Q=>match x,y with
 | .int i,.int j=>Q (.bl (decide (i<=j))) M
 | .str a,.str b=>Q (.bl (!bt b a)) M
 | _,_=>False
def qGt:DR2:=λx y M Q=>match x,y with
 | .int i,.int j=>Q (.bl (decide (j<i))) M
 | .str a,.str b=>Q (.bl (bt b a)) M
 | _,_=>False
def qGe:DR2:=λx y M Q=>match x,y with
 | .int i,.int j=>Q (.bl (decide (j<=i))) M
 | .str a,.str b=>Q (.bl (!bt a b)) M
 | _,_=>False
theorem HR:OpD X (compareOp .Lt) qLt:=by
 intro pins s σ H vx vy v u R I rx ry ⟨x,y,M,ρ,Q,sm,r1,r2,q,k⟩
 unfold qLt at q
 split at q
 ·cases r1
  cases r2
  exact op_lt pins s σ H _ _ v u R I rx ry ⟨_,_,rfl,rfl,k _ H (VQ.now sm (.bl _) q)⟩
 ·cases r1
  cases r2
  obtain⟨t,rfl⟩:=rx
  obtain⟨t',rfl⟩:=ry
  exact PySem.P.lt_str (eE I sm k q)
 ·exact q.elim
theorem od_le:OpD X (compareOp .LtE) qLe:=by
 intro pins s σ H vx vy v u R I rx ry ⟨x,y,M,ρ,Q,sm,r1,r2,q,k⟩
 unfold qLe at q
 split at q
 ·cases r1
  cases r2
  exact op_le pins s σ H _ _ v u R I rx ry ⟨_,_,rfl,rfl,k _ H (VQ.now sm (.bl _) q)⟩
 ·cases r1
  cases r2
  obtain⟨t,rfl⟩:=rx
  obtain⟨t',rfl⟩:=ry
  exact PySem.P.le_str (eE I sm k q)
 ·exact q.elim
theorem od_gt:OpD X (compareOp .Gt) qGt:=by
 intro pins s σ H vx vy v u R I rx ry ⟨x,y,M,ρ,Q,sm,r1,r2,q,k⟩
 unfold qGt at q
 split at q
 ·cases r1
  cases r2
  exact op_gt pins s σ H _ _ v u R I rx ry ⟨_,_,rfl,rfl,k _ H (VQ.now sm (.bl _) q)⟩
 ·cases r1
  cases r2
  obtain⟨t,rfl⟩:=rx
  obtain⟨t',rfl⟩:=ry
  exact PySem.P.gt_str (eE I sm k q)
 ·exact q.elim
theorem od_ge:OpD X (compareOp .GtE) qGe:=by
 intro pins s σ H vx vy v u R I rx ry ⟨x,y,M,ρ,Q,sm,r1,r2,q,k⟩
 unfold qGe at q
 split at q
 ·cases r1
  cases r2
  exact op_ge pins s σ H _ _ v u R I rx ry ⟨_,_,rfl,rfl,k _ H (VQ.now sm (.bl _) q)⟩
 ·cases r1
  cases r2
  obtain⟨t,rfl⟩:=rx
  obtain⟨t',rfl⟩:=ry
  exact PySem.P.ge_str (eE I sm k q)
 ·exact q.elim
def qIs:DR2:=λx y M Q=>match x,y with
 | .bl a,.bl b=>Q (.bl (a==b)) M
 | .non,.non=>Q (.bl true) M
 | _,.non=>Q (.bl false) M
 | _,_=>False
theorem DF{K:AA5}{ρ:List Addr}{H:Hp}{x:D}{v:V}(r:Rep K ρ H x v)(h:x≠.non):v≠.non:=by
 cases r<;>first | exact absurd rfl h | (intro z;cases z)
theorem od_is:OpD X (compareOp .Is) qIs:=by
 intro pins s σ H vx vy v u R I rx ry ⟨x,y,M,ρ,Q,sm,r1,r2,q,k⟩
 unfold qIs at q
 split at q
 ·cases r1
  cases r2
  cases rx
  cases ry
  exact is_bool (eE I sm k q)
 ·cases r1
  cases r2
  cases rx
  cases ry
  exact is_none_gen (dfin (d:=.bl true) I sm k rfl rfl q)
 ·rename_i h1 h2
  cases r2
  cases ry
  refine is_none_gen (dfin (d:=.bl false) I sm k rfl ?_ q)
  have:=DF r1 λz=>by subst z;exact h2 rfl
  rw[rx.none_iff,decide_eq_false this]
  rfl
 ·exact q.elim
def tyD(M:Mem):D->String
 | .non=>"NoneType"
 | .bl _=>"bool"
 | .int _=>"int"
 | .str _=>"str"
 | .ty _=>"type"
 | .tup _=>"tuple"
 | .ref n=>match M[n]? with
  | some mo=>if mo.isL=true then "list" else "?"
  | none=>"?"
def eM(t T:String):Bool:=t==T||(t == "bool" && T == "int")
def lG:List String:=["NoneType","bool","int","str","list","tuple"]
def Gy:List String:=["bool","int","str","list","tuple"]
theorem ER(K:AA5)(ht:t∈lG)(hT:T∈Gy):PySem.W.kitOne K (.type t) (.type T)=some (eM t T):=by
 simp only[lG,Gy,AAH,AAf,or_false]at ht hT
 rcases ht with rfl | rfl | rfl | rfl | rfl | rfl<;>rcases hT with rfl | rfl | rfl | rfl | rfl<;>kernel_rfl
theorem CY(I:Inv X pins σ H s)(sm:Sim X.K ρ M H)(r:Rep X.K ρ H d v)(rv:aK v u)(hd:tyD M d∈lG)
  (step:∀(Hx:Heap->Prop),PySem.W.KitX X.K u (.type (tyD M d)) Hx->Hx s.heap->u≠.builtin "__main__.__loader__#opaque"->wpAny (model X.prog X.w) X.A (call (.builtin "isinstance") [u,c]) Q X.xe s):wpAny (model X.prog X.w) X.A (call (.builtin "isinstance") [u,c]) Q X.xe s:=by
 cases r with
 | non=>cases rv;exact step _ PySem.W.kitx_none AD5 (λz=>nomatch z)
 | bl y=>cases rv;exact step _ PySem.W.kitx_bool AD5 (λz=>nomatch z)
 | int i=>obtain⟨t,rfl⟩:=rv;exact step _ PySem.W.kitx_int AD5 (λz=>nomatch z)
 | str i=>obtain⟨t,rfl⟩:=rv;exact step _ PySem.W.kitx_str AD5 (λz=>nomatch z)
 | ty n=>exact absurd hd (by simp only[tyD];decide)
 | tup h rr =>
  cases rv
  obtain⟨its,_,⟨o,h1,h2,_⟩,_⟩:=I.tuple h
  exact step _ PySem.W.kitx_tuple ⟨o,h1,h2⟩ (λz=>nomatch z)
 | @ref n a e =>
  cases rv
  have hn:n<M.length:=by rw[←sm.len];exact(AA2.mp e).1
  have hm:M[n]?=some M[n]:=AA7 hn
  have hd':(match M[n]? with | some mo=>if mo.isL=true then "list" else "?" | none=>"?")∈lG:=hd
  rw[hm]at hd'
  have hil:M[n].isL=true:=by
   cases q:M[n].isL with
   | true=>rfl
   | false =>
    simp only[q,AAF,if_false]at hd'
    exact absurd hd' (by decide)
  have hL:al M n M[n].items:=by
   cases q:M[n] with
   | lst xs=>exact .inl (by rw[hm,q];rfl)
   | fz xs=>exact .inr (.inl (by rw[hm,q];rfl))
   | kl xs=>exact .inr (.inr (by rw[hm,q];rfl))
   | dct xs=>rw[q]at hil;cases hil
   | dkt xs=>rw[q]at hil;cases hil
  obtain⟨vs,hq,_⟩:=al.seq sm hL e
  obtain⟨its,_,⟨o,n',h1,h2,_⟩,_⟩:=I.list hq
  have ht:tyD M (.ref n) = "list":=by
   show (match M[n]? with | some mo=>if mo.isL=true then "list" else "?" | none=>"?") = "list"
   rw[hm]
   exact if_pos hil
  rw[ht]at step
  exact step _ PySem.W.kitx_list ⟨o,h1,h2⟩ (λz=>nomatch z)
def eK:DRA:=λds M Q=>match ds with
 | [d,.ty T]=>(tyD M d∈lG/\T∈Gy)/\Q (.bl (eM (tyD M d) T)) M
 | [d,.tup [.ty T,.ty T']]=>(tyD M d∈lG/\T∈Gy/\T'∈Gy)/\Q (.bl (eM (tyD M d) T||eM (tyD M d) T')) M
 | _=>False
theorem JJ:iY X (.builtin "isinstance") eK:=by
 intro pins s σ H vs us R I rv ⟨ds,M,ρ,Q,sm,rs,q,k⟩
 unfold eK at q
 split at q
 ·rename_i d T
  obtain⟨⟨h1,h2⟩,q⟩:=q
  first | have hzz:=Reps.inv_cons rs | have hzz:=ax.inv_cons rs
  clear rs
  obtain⟨_,_,rfl,r1,rs⟩:=hzz
  first | have hzz:=Reps.inv_cons rs | have hzz:=ax.inv_cons rs
  clear rs
  obtain⟨_,_,rfl,r2,rs⟩:=hzz
  cases rs
  cases r2
  obtain⟨u,u',rfl,e1,e2⟩:=ax.two rv
  cases e2
  refine CY I sm r1 e1 h1 λHx Z p hx=>?_
  exact PySem.W.kia_one Z I.kIn p (ER X.K h1 h2) hx λtk=>eE (I.tok tk) sm k q
 ·rename_i d T T'
  obtain⟨⟨h1,h2,h3⟩,q⟩:=q
  first | have hzz:=Reps.inv_cons rs | have hzz:=ax.inv_cons rs
  clear rs
  obtain⟨_,_,rfl,r1,rs⟩:=hzz
  first | have hzz:=Reps.inv_cons rs | have hzz:=ax.inv_cons rs
  clear rs
  obtain⟨_,_,rfl,r2,rs⟩:=hzz
  cases rs
  obtain⟨u,u',rfl,e1,e2⟩:=ax.two rv
  obtain⟨a,ws,rfl,hq,rt⟩:=Rep.inv_tup r2
  cases e2
  obtain⟨its,rr,⟨o,g1,g2,n,g3⟩,_⟩:=I.tuple hq
  first | have hzz:=Reps.inv_cons rt | have hzz:=ax.inv_cons rt
  clear rt
  obtain⟨_,_,rfl,t1,rt⟩:=hzz
  first | have hzz:=Reps.inv_cons rt | have hzz:=ax.inv_cons rt
  clear rt
  obtain⟨_,_,rfl,t2,rt⟩:=hzz
  cases rt
  cases t1
  cases t2
  obtain⟨w1,w2,rfl,f1,f2⟩:=ax.two rr
  cases f1
  cases f2
  obtain⟨oc,od,odt,osl⟩:=o
  cases g2
  cases g3
  refine CY I sm r1 e1 h1 λHx Z p hx=>?_
  refine PySem.W.kia_tup Z I.kIn p g1 (b:=eM (tyD M d) T||eM (tyD M d) T') ?_ hx λtk=>eE (I.tok tk) sm k q
  show (match PySem.W.kitOne X.K (.type (tyD M d)) (.type T)with | some true=>some true | some false=>PySem.W.kitAny X.K (.type (tyD M d)) [.type T'] | none=>none)=_
  rw[ER X.K h1 h2]
  cases eM (tyD M d) T with
  | true=>rfl
  | false =>
   show (match PySem.W.kitOne X.K (.type (tyD M d)) (.type T')with | some true=>some true | some false=>some false | none=>none)=_
   rw[ER X.K h1 h3]
   cases eM (tyD M d) T'<;>rfl
 ·exact q.elim
def fj:DRA:=λds M Q=>match ds with
 | [.str x]=>x.length<=sizeLine/\Q (.int x.length) M
 | [.tup xs]=>Q (.int xs.length) M
 | [.ref n]=>∃xs,al M n xs/\Q (.int xs.length) M
 | _=>False
theorem JI:iY X (.builtin "len") fj:=by
 refine dz.imp (rC.or rB) λvs H R ⟨ds,M,ρ,Q,sm,rs,q,k⟩=>?_
 unfold fj at q
 split at q
 ·first | have hzz:=Reps.inv_cons rs | have hzz:=ax.inv_cons rs
  clear rs
  obtain⟨_,_,rfl,r1,rs⟩:=hzz
  cases rs
  cases r1
  exact .inr ⟨_,rfl,q.1,k _ H (VQ.now sm (.int _) q.2)⟩
 ·first | have hzz:=Reps.inv_cons rs | have hzz:=ax.inv_cons rs
  clear rs
  obtain⟨_,_,rfl,r1,rs⟩:=hzz
  cases rs
  cases r1 with
  | tup h r=>exact .inl ⟨_,_,rfl,.inr h,k _ H (VQ.now sm (by rw[←r.length];exact .int _) q)⟩
 ·obtain⟨xs,hL,q⟩:=q
  first | have hzz:=Reps.inv_cons rs | have hzz:=ax.inv_cons rs
  clear rs
  obtain⟨_,_,rfl,r1,rs⟩:=hzz
  cases rs
  obtain⟨_,rfl,e⟩:=Rep.inv_ref r1
  obtain⟨ws,hq,r⟩:=al.seq sm hL e
  exact .inl ⟨_,_,rfl,.inl hq,k _ H (VQ.now sm (by rw[←r.length];exact .int _) q)⟩
 ·exact q.elim
def bls(bs:List Bool):List D:=bs.map .bl
theorem Reps.bls{K:AA5}{ρ:List Addr}{H:Hp}:∀{bs:List Bool}{vs:List V},Reps K ρ H (L2.bls bs) vs->vs=bs.map V.bl
 | [],_,h=>by cases h;rfl
 | b::bs,_,h=>by
  cases h with
  | cons r t =>
   cases r
   rw[Reps.bls t]
   rfl
theorem tU:∀{bs:List Bool}{us:List Value},ax (bs.map V.bl) us->us=bs.map AD3
 | [],_,h=>by cases h;rfl
 | b::bs,_,h=>by
  cases h with
  | cons r t =>
   cases r
   rw[tU t]
   rfl
theorem wF{pins:List (Addr×Obj)}{σ:St}{H:Hp}{s:Shared}{a:Addr}{bs:List Bool}{G:Shared->Prop}(I:Inv X pins σ H s)(hc:X.calm=true)(hq:SqL X.K H a (bs.map V.bl))(fin:∀s',Inv X pins σ H s'->G s') :
  ∀(E:Value->Shared->Prop),wpAny (model X.prog X.w) X.A.in1 (pyIter (.ref a)) (λit s₂=>∃I fp wr n P St tr,it=AB3 I/\Walks X.prog X.w X.A.in1 I fp wr n P St/\St 0 s₂.heap/\TruthOf X.prog X.w X.A.in1 P tr /\
   (n=bs.length/\(∀i,i<bs.length->tr i=bs.getD i false))/\∀h' tk,(∀b o,b∉wr->s₂.heap.get? b=some o->h'.get? b=some o)->G { s₂ with heap:=h',toks:=tk }) E s:=by
 intro E
 obtain⟨its,rr,p,hz⟩:=I.list hq
 have eits:=tU rr
 subst eits
 have hl:=p.isList
 have hlt:a<s.heap.objs.size:=by obtain⟨o,n,e,_⟩:=p;exact AAG e
 refine ADo hl ?_
 have I1:Inv X pins σ H { s with heap:=s.heap.push { cls:=.type "list_iterator",data:=.fields #[.ref a,.int 0 0] } }:=I.kept (t':=s.toks) λb o e=>AA4 _ e
 refine⟨s.heap.objs.size,_,_,_,_,_,λi=>bs.getD i false,rfl,Walks.list (A:=X.A.in1) (I.ok.hd hc) s.heap.objs.size a (AAQ hlt) (bs.map AD3).toArray,⟨⟨_,AAE _ rfl,rfl,rfl⟩,hl.push _⟩,?_,⟨by simp,λi _=>rfl⟩,λh' tk kk=>?_⟩
 ·intro i v s' Q' E' hP hQ
  have hP':(bs.map AD3).toArray[i]?=some v:=hP
  rw[ADy,AAU]at hP'
  cases e:bs[i]? with
  | none=>rw[e]at hP';cases hP'
  | some b =>
   rw[e]at hP'
   cases hP'
   refine ABi ?_
   have:bs.getD i false=b:=by rw[AAP,e];rfl
   have hQ':Q' (bs.getD i false) s':=hQ
   rw[this]at hQ'
   exact hQ'
 ·have f:=I.fpOk (H':=H) (AAD _) (I.hok.fresh (AAD _))
  obtain⟨f0,f1,f2,f3,f4,f5⟩:=f
  exact fin _ (I1.turned (t':=tk) (it:=s.heap.objs.size) (λb o hb e=>kk b o (by simpa using hb) e) f0 f1 f3 f4 f5)
theorem Ai{bs:List Bool}{tr:Nat->Bool}(h:∀i,i<bs.length->tr i=bs.getD i false):(AAe bs.length).all tr=bs.all id:=by
 rw[ABm,AAK,AAK]
 constructor
 ·intro g b hb
  obtain⟨i,hi,e⟩:=List.mem_iff_getElem.mp hb
  have:=g i (AAk.mpr hi)
  rw[h i hi,AAP,AA7 hi]at this
  rw[←e]
  exact this
 ·intro g i hi
  have hi':=AAk.mp hi
  rw[h i hi',AAP,AA7 hi']
  exact g _ (AAo hi')
def AN:DRA:=λds M Q=>match ds with
 | [.ref n]=>∃bs,al M n (bls bs)/\Q (.bl (bs.all id)) M
 | _=>False
theorem JK(hc:X.calm=true:=by rfl):iY X (.builtin "all") AN:=by
 intro pins s σ H vs us R I rv ⟨ds,M,ρ,Q,sm,rs,q,k⟩
 unfold AN at q
 split at q
 ·obtain⟨bs,hL,q⟩:=q
  first | have hzz:=Reps.inv_cons rs | have hzz:=ax.inv_cons rs
  clear rs
  obtain⟨_,_,rfl,r1,rs⟩:=hzz
  cases rs
  obtain⟨u,rfl,e1⟩:=ax.one rv
  obtain⟨_,rfl,e⟩:=Rep.inv_ref r1
  cases e1
  obtain⟨ws,hq,r⟩:=al.seq sm hL e
  rw[r.bls]at hq
  refine call_all_walk (thn (wF (G:=λs'=>EP X pins σ R (.bool (bs.all id)) s') I hc hq (λs' I'=>eE I' sm k q) _) λit s2 ⟨J,fp,wr,n,P,Sx,tr,e1,W,st,T,⟨en,et⟩,fin⟩=>?_)
  subst en
  exact⟨J,fp,wr,_,P,Sx,tr,e1,W,st,T,λh' tk kk=>by rw[Ai et];exact fin h' tk kk⟩
 ·exact q.elim
end
end L2
namespace L2
open PySem PySem.Spec PyProof.Rows DL _root_.HT
section
variable{prog:Program}{w:World}{A:Around}{E:Value->Shared->Prop}{s:Shared}
theorem nV{t sl:Addr}{items:Array Value}{vl vu:Value}{lo hi:Option Int}{Q:Value->Shared->Prop}(ht:IsTup s.heap t items)(hs:s.heap.IsSliceOf sl vl vu .none)(pl:IsPart vl lo)(pu:IsPart vu hi)
  (hw:sIx items.size 0 lo=0/\sIx items.size items.size hi=items.size) (h:Q (.ref t) s):wpAny (model prog w) A (getItem (.ref t) (.ref sl)) Q E s:=by
 obtain⟨os,hos,hcs,hds⟩:=id hs
 have hTs:s.TypeIs (.ref sl) "slice":=⟨os,hos,hcs⟩
 unfold getItem
 try with_reducible refine AAp ?_
 first | refine AA0 (AA3 ?_) | skip
 refine AA0 (wpAny_sequenceKey ht.typeIs (by decide) (AA0 (AAm (name:=AA1 "__getitem__") ht.typeIs ABH (AAn ABH ht.typeIs entry_tuple_getitem ?_ (args_tuple_getitem _ _)))))
 refine(show wpAny (model prog w) _ (ACI (.ref t) >>= _) _ _ s from AA0 (tupleItemsOf_ ht (AA0 (ACg hTs ?_))))
 rw[if_pos (by decide)]
 refine AA0 (dA hs pl pu ?_)
 refine(show wpAny (model prog w) _ (if (((sIx items.size 0 lo:Nat):Int)==0&&(1:Int)==1&&(sIx items.size items.size hi-sIx items.size 0 lo)==items.size)=true then _ else _) _ _ s from ?_)
 rw[if_pos (by rw[hw.1,hw.2];simp)]
 unfold Builtin.Tuple.tupleIsExact
 refine AA0 (AA0 (ACg ht.typeIs (AA3 ?_)))
 rw[if_pos (by decide)]
 exact AA0 (ACK (AA3 ⟨_,rfl,AA3 h⟩))
end
end L2
namespace L2
open PySem PySem.Spec PyProof.Rows DL
section
variable{X:Cx}{a b:Expr}{ta tb:DTE}{pos:Pos}
theorem IxR.imp(h:IxR X r')(i:∀x y H R,r x y H R->r' x y H R):IxR X r:=λvalue slice pins s σ H x y v u R I rx ry q hs=>h value slice pins s σ H x y v u R I rx ry (i x y H R q) hs
theorem Reps.atI{K:AA5}{ρ:List Addr}{H:Hp}{ds:List D}{vs:List V}{i:Int}{d:D}(r:Reps K ρ H ds vs)(h:L2.atI ds i=some d):∃v,L2.atI vs i=some v/\Rep K ρ H d v:=by
 unfold L2.atI at h ⊢
 rw[r.length]at h
 cases e:ixN vs.length i with
 | none=>rw[e]at h;cases h
 | some j =>
  rw[e]at h
  obtain⟨v,hv,rv⟩:=r.get (show ds[j]?=some d from h)
  exact⟨v,hv,rv⟩
def qIx:DR2:=λx y M Q=>match x,y with
 | .tup xs,.int i=>match L2.atI xs i with
  | some d=>Q d M
  | none=>False
 | .str z,.int i=>z.length<=sizeLine/\match L2.atI z.cps.toList i with
  | some c=>Q (.str ⟨#[c]⟩) M
  | none=>False
 | .ref n,.int i=>∃xs,al M n xs/\match L2.atI xs i with
  | some d=>Q d M
  | none=>False
 | _,_=>False
theorem Fc:IxR X (lowR X.K qIx):=by
 refine IxR.imp IE λvx vy H R ⟨x,y,M,ρ,Q,sm,r1,r2,q,k⟩=>?_
 unfold qIx at q
 split at q
 ·rename_i xs i
  split at q
  ·rename_i d e
   cases r2
   obtain⟨_,_,rfl,h,r⟩:=Rep.inv_tup r1
   obtain⟨v,hv,rv⟩:=r.atI e
   exact .inr (.inl ⟨_,_,_,v,rfl,rfl,h,hv,k _ H (VQ.now sm rv q)⟩)
  ·exact q.elim
 ·rename_i z i
  obtain⟨hz,q⟩:=q
  split at q
  ·rename_i c e
   cases r2
   cases r1
   exact .inr (.inr ⟨z,i,c,rfl,rfl,hz,e,k _ H (VQ.now sm (.str _) q)⟩)
  ·exact q.elim
 ·rename_i n i
  obtain⟨xs,hL,q⟩:=q
  split at q
  ·rename_i d e
   cases r2
   obtain⟨_,rfl,hn⟩:=Rep.inv_ref r1
   obtain⟨vs,hq,r⟩:=al.seq sm hL hn
   obtain⟨v,hv,rv⟩:=r.atI e
   exact .inl ⟨_,_,_,v,rfl,rfl,hq,hv,k _ H (VQ.now sm rv q)⟩
  ·exact q.elim
 ·exact q.elim
theorem d_ix(ha:DE X a ta)(hb:DE X b tb)(hs:ou b:=by intro _ _;rfl):DE X (.Subscript a b pos) (dOp qIx ta tb):=PE.imp (Hm Fc ha hb hs) nE
abbrev DTO:=SD->Mem->(Option Int->Mem->Prop)->Prop
def HX(K:AA5)(t:DTO):TO:=λσ H R=>∃S M ρ Q,Sim K ρ M H/\SRep K ρ H S σ/\t S M Q/\∀o H',(∃M' ρ',Sim K ρ' M' H'/\Grow K ρ H ρ' H'/\Q o M')->R o H'
def aU:DTO:=λ_ M Q=>Q none M
def cb(t:DTE):DTO:=λS M Q=>t S M λx M1=>match x with
 | .int i=>Q (some i) M1
 | _=>False
theorem PO.imp(h:PO X e t')(i:∀σ H R,t σ H R->t' σ H R):PO X e t:=λpins s σ H R I q=>h pins s σ H R I (i σ H R q)
theorem FG:PO X none (HX X.K aU):=PO.imp Ea λσ H R ⟨S,M,ρ,Q,s,sr,q,k⟩=>k none H ⟨M,ρ,s,.refl,q⟩
theorem FF(h:DE X e te):PO X (some e) (HX X.K (cb te)):=by
 refine PO.imp (DZ h) λσ H R ⟨S,M,ρ,Q,s,sr,q,k⟩=>⟨S,M,ρ,_,s,sr,q,λv H1 ⟨d,M1,ρ1,s1,g1,r1,q1⟩=>?_⟩
 cases r1 with
 | int i=>exact⟨i,rfl,k _ H1 ⟨M1,ρ1,s1,g1,q1⟩⟩
 | _=>exact q1.elim
theorem GK:SlR X (λx lo hi H Q=>∃z,x=.str z/\z.length<=sizeLine/\Q (.str (ABn z lo hi)) H):=by
 intro pins s σ H x v vl vu lo hi sl Q I rx hs pl pu h
 obtain⟨z,rfl,hz,q⟩:=h
 obtain⟨t,rfl⟩:=rx
 have part:∀{v:Value}{o:Option Int},IsPart v o->∃p:Option (Int×Tok),v=partValue p/\p.map (·.1)=o:=λh=>by
  cases h with
  | none=>exact⟨none,rfl,rfl⟩
  | int i t=>exact⟨some (i,t),rfl,rfl⟩
 obtain⟨p1,rfl,e1⟩:=part pl
 obtain⟨p2,rfl,e2⟩:=part pu
 subst e1 e2
 refine⟨"str",_,slot_str_getitem.lookup,typeIs_str _ _ _,wpAny_getItem_str_slice (l:=p1) (u:=p2) (st:=none) hs rfl ?_⟩
 exact post_val_or_str ⟨ABT (Txt.slice_le z _ _) hz,λt' k=>⟨.str _,H,I.tok k,⟨t',rfl⟩,q⟩⟩
def cutD(xs:List D)(lo hi:Option Int):List D:=(xs.drop (HT.sIx xs.length 0 lo)).take (HT.sIx xs.length xs.length hi-HT.sIx xs.length 0 lo)
theorem Reps.cutD{K:AA5}{ρ:List Addr}{H:Hp}{ds:List D}{vs:List V}(r:Reps K ρ H ds vs)(lo hi:Option Int):Reps K ρ H (L2.cutD ds lo hi) (Di vs lo hi):=by
 unfold L2.cutD Di
 rw[r.length]
 exact(r.drop _).take _
def qSl:D->Option Int->Option Int->Mem->DK->Prop:=λx lo hi M Q=>match x with
 | .str z=>z.length<=sizeLine/\Q (.str (ABn z lo hi)) M
 | .ref n=>∃xs,al M n xs/\Q (.ref M.length) (M++[.lst (cutD xs lo hi)])
 | .tup xs=>Q (.tup (cutD xs lo hi)) M
 | _=>False
def lowSl(K:AA5)(r:D->Option Int->Option Int->Mem->DK->Prop):V->Option Int->Option Int->Hp->VK->Prop:=λvx lo hi H R=>∃x M ρ Q,Sim K ρ M H/\Rep K ρ H x vx/\r x lo hi M Q/\∀v H',VQ K ρ H Q v H'->R v H'
theorem sld:SlR X (lowSl X.K qSl):=by
 intro pins s σ H x v vl vu lo hi sl R I rx hs pl pu ⟨d,M,ρ,Q,sm,r1,q,k⟩
 unfold qSl at q
 split at q
 ·cases r1
  exact GK pins s σ H _ v vl vu lo hi sl R I rx hs pl pu ⟨_,rfl,q.1,k _ H (VQ.now sm (.str _) q.2)⟩
 ·obtain⟨xs,hL,q⟩:=q
  obtain⟨_,rfl,hn⟩:=Rep.inv_ref r1
  obtain⟨vs,hq,r⟩:=al.seq sm hL hn
  exact DC pins s σ H _ v vl vu lo hi sl R I rx hs pl pu ⟨_,vs,rfl,hq,λp hp=>k _ _ (VQ.laidL sm .refl (r.cutD lo hi) hp q)⟩
 ·obtain⟨_,_,rfl,h,r⟩:=Rep.inv_tup r1
  rename_i xs a vs
  by_cases hw:HT.sIx xs.length 0 lo=0/\HT.sIx xs.length xs.length hi=xs.length
  ·cases rx
   obtain⟨its,rr,ht,hz⟩:=I.tuple h
   have hlen:its.toArray.size=xs.length:=by rw[AAB,r.length];exact rr.length.symm
   have e:L2.cutD xs lo hi=xs:=by unfold L2.cutD;rw[hw.1,hw.2,List.drop_zero,Nat.sub_zero,AC2]
   rw[e]at q
   exact⟨"tuple",_,ABH.lookup,ht.typeIs,nV ht hs pl pu (by rw[hlen];exact hw) ⟨.ref _,H,I,rfl,k _ H (VQ.now sm (.tup h r) q)⟩⟩
  ·exact GJ pins s σ H _ v vl vu lo hi sl R I rx hs pl pu ⟨_,_,rfl,h,by rw[←r.length];exact hw,λp hp=>k _ _ (VQ.laidT sm .refl (r.cutD lo hi) hp q)⟩
 ·exact q.elim
def dSl(te:DTE)(tl th:DTO):DTE:=λS M Q=>te S M λx M1=>tl S M1 λl M2=>th S M2 λu M3=>qSl x l u M3 Q
theorem FO{e:Expr}{te:DTE}{lo hi:Option Expr}{tl th:DTO}{p2:Pos}(he:DE X e te)(hl:PO X lo (HX X.K tl))(hu:PO X hi (HX X.K th)):DE X (.Subscript e (.Slice lo hi none p2) pos) (dSl te tl th):=by
 refine PE.imp (AY sld he hl hu) λσ H R ⟨S,M,ρ,Q,s,sr,q,k⟩=>⟨S,M,ρ,_,s,sr,q,λv H1 ⟨d,M1,ρ1,s1,g1,r1,q1⟩=>⟨S,M1,ρ1,_,s1,sr.grow g1,q1,λl H2 ⟨M2,ρ2,s2,g2,q2⟩=>⟨S,M2,ρ2,_,s2,sr.grow (g1.trans g2),q2,λu H3 ⟨M3,ρ3,s3,g3,q3⟩=>?_⟩⟩⟩
 exact⟨d,M3,ρ3,Q,s3,r1.grow (g2.trans g3),q3,λv H' w=>k v H' (VQ.trans ((g1.trans g2).trans g3) w)⟩
def jX:DR2:=λx y M Q=>match x,y with
 | .int i,.int j=>CMul i j/\Q (.int (i*j)) M
 | .str z,.int n=>(0<=n/\n<2 ^ 63/\z.length*n.toNat<=sizeLine)/\Q (.str (Txt.mul z n)) M
 | _,_=>False
theorem sK(h0:0<=n)(h:z.length*n.toNat<=sizeLine)(hn:n<2 ^ 63):MulOk z n:=by
 refine⟨?_,λh1 h2=>?_,λh1 h2=>?_⟩
 ·have e1:decide (n < -(2 ^ 63:Int))=false:=decide_eq_false (by lia)
  have e2:decide (n ≥ 2 ^ 63)=false:=decide_eq_false (by lia)
  rw[e1,e2]
  rfl
 ·have hz:(z.length:Int)*n<=2 ^ 24:=by
   have e:((z.length*n.toNat:Nat):Int)=(z.length:Int)*n:=by
    rw[Int.natCast_mul,Int.toNat_of_nonneg h0]
   have h':((z.length*n.toNat:Nat):Int)<=(2 ^ 24:Nat):=Int.ofNat_le.mpr h
   rw[e]at h'
   exact h'
  have hpos:0<n:=by lia
  intro hgt
  have:=Int.lt_of_lt_of_le (Int.lt_mul_of_ediv_lt hpos hgt) hz
  lia
 ·unfold PySem.Builtin.Str.tooLong
  simpa using h
theorem Et:OpD X (binaryOp .Mult) jX:=by
 intro pins s σ H vx vy v u R I rx ry ⟨x,y,M,ρ,Q,sm,r1,r2,q,k⟩
 unfold jX at q
 split at q
 ·cases r1
  cases r2
  exact Hz pins s σ H _ _ v u R I rx ry ⟨_,_,rfl,rfl,q.1,k _ H (VQ.now sm (.int _) q.2)⟩
 ·rename_i z n
  cases r1
  cases r2
  obtain⟨t,rfl⟩:=rx
  obtain⟨t',rfl⟩:=ry
  obtain⟨⟨h0,h2,h1⟩,q⟩:=q
  exact PySem.SB.mul (sK h0 h1 h2) λt' j=>⟨.str _,H,I.tok j,⟨t',rfl⟩,k _ H (VQ.now sm (.str _) q)⟩
 ·exact q.elim
def Gh:DRA:=λds M Q=>match ds with
 | [.str x]=>x.length=1/\Q (.int (x.cps.getD 0 0:Nat)) M
 | _=>False
theorem JH:iY X (.builtin "ord") Gh:=by
 refine dz.imp Cq λvs H R ⟨ds,M,ρ,Q,sm,rs,q,k⟩=>?_
 unfold Gh at q
 split at q
 ·first | have hzz:=Reps.inv_cons rs | have hzz:=ax.inv_cons rs
  clear rs
  obtain⟨_,_,rfl,r1,rs⟩:=hzz
  cases rs
  cases r1
  exact⟨_,rfl,q.1,k _ H (VQ.now sm (.int _) q.2)⟩
 ·exact q.elim
variable{o e:Expr}{es:List Expr}{to:DTE}{t:DTA}{name:Str}{apos cpos:Pos}{id:String}
def Bo(K:AA5)(r:Str->DRA):V->List V->Hp->VK->Prop:=λvx vs H R=>∃z ds M ρ Q,vx=.str z/\Sim K ρ M H/\Reps K ρ H ds vs/\r z ds M Q/\∀v H',VQ K ρ H Q v H'->R v H'
def yL(K:AA5)(r:Nat->DRA):V->List V->Hp->VK->Prop:=λvx vs H R=>∃n a ds M ρ Q,vx=.ref a/\ρ[n]?=some a/\Sim K ρ M H/\Reps K ρ H ds vs/\r n ds M Q/\∀v H',VQ K ρ H Q v H'->R v H'
def dMs(r:Str->DRA)(to:DTE)(t:DTA):DTE:=λS M Q=>to S M λx M1=>match x with
 | .str z=>t S M1 λds M2=>r z ds M2 Q
 | _=>False
def dMl(r:Nat->DRA)(to:DTE)(t:DTA):DTE:=λS M Q=>to S M λx M1=>match x with
 | .ref n=>(∃xs,al M1 n xs)/\t S M1 λds M2=>r n ds M2 Q
 | _=>False
theorem d_ms(slot:Slot "str" name id)(hty:typeOf (.builtin id)=pure (.type "method_descriptor"))(hm:MtR X id (Bo X.K r))(ho:DE X o to)(ha:DA X (e::es) t)
  (hbase:attributeBase o name X.env (eval o X.env)=eval o X.env:=by rfl)
  (hfew:((backTo cpos (starEach (e::es) X.env)).all (λx=>!x.1)&&(backToKw cpos (keywordEach [] X.env)).all (λx=>x.1.isSome)
   && decide ((e::es).length+([]:List Keyword).length+(if ([]:List Keyword).isEmpty then 0 else 1)<30))=true:=by rfl)
  (hline:(apos.endLine==cpos.line)=true:=by rfl) (hs:starEach (e::es) X.env=(false,eval e X.env)::starEach es X.env:=by rfl) (hplain:(backTo cpos (starEach es X.env)).any (·.1)=false:=by rfl) :
  DE X (.Call (.Attribute o name apos) (e::es) [] cpos) (dMs r to t):=by
 refine PE.imp (Ho PySem.F.plainAttrs_str slot hty hm ho ha hbase hfew hline hs hplain) λσ H R ⟨S,M,ρ,Q,s,sr,q,k⟩=>⟨S,M,ρ,_,s,sr,q,λv H1 ⟨d,M1,ρ1,s1,g1,r1,q1⟩=>?_⟩
 cases r1 with
 | str z=>exact⟨rfl,S,M1,ρ1,_,s1,sr.grow g1,q1,λvs H2 ⟨ds,M2,ρ2,s2,g2,r2,q2⟩=>⟨z,ds,M2,ρ2,Q,rfl,s2,r2,q2,λv H' w=>k v H' (VQ.trans (g1.trans g2) w)⟩⟩
 | _=>exact q1.elim
theorem d_ml(slot:Slot "list" name id)(hty:typeOf (.builtin id)=pure (.type "method_descriptor"))(hm:MtR X id (yL X.K r))(ho:DE X o to)(ha:DA X (e::es) t)
  (hbase:attributeBase o name X.env (eval o X.env)=eval o X.env:=by rfl)
  (hfew:((backTo cpos (starEach (e::es) X.env)).all (λx=>!x.1)&&(backToKw cpos (keywordEach [] X.env)).all (λx=>x.1.isSome)
   && decide ((e::es).length+([]:List Keyword).length+(if ([]:List Keyword).isEmpty then 0 else 1)<30))=true:=by rfl)
  (hline:(apos.endLine==cpos.line)=true:=by rfl) (hs:starEach (e::es) X.env=(false,eval e X.env)::starEach es X.env:=by rfl) (hplain:(backTo cpos (starEach es X.env)).any (·.1)=false:=by rfl) :
  DE X (.Call (.Attribute o name apos) (e::es) [] cpos) (dMl r to t):=by
 refine PE.imp (Ho PySem.F.plainAttrs_list slot hty hm ho ha hbase hfew hline hs hplain) λσ H R ⟨S,M,ρ,Q,s,sr,q,k⟩=>⟨S,M,ρ,_,s,sr,q,λv H1 ⟨d,M1,ρ1,s1,g1,r1,q1⟩=>?_⟩
 cases r1 with
 | @ref n a hn =>
  obtain⟨⟨xs,hL⟩,q1⟩:=(show (∃xs,al M1 n xs)/\t S M1 _ from q1)
  obtain⟨vs,hq,_⟩:=al.seq s1 hL hn
  exact⟨.inl ⟨rfl,vs,hq⟩,S,M1,ρ1,_,s1,sr.grow g1,q1,λvs H2 ⟨ds,M2,ρ2,s2,g2,r2,q2⟩=>⟨n,a,ds,M2,ρ2,Q,rfl,aY g2.pre hn,s2,r2,q2,λv H' w=>k v H' (VQ.trans (g1.trans g2) w)⟩⟩
 | _=>exact q1.elim
def dY(n:Nat):DRA:=λds M Q=>match ds with
 | [d]=>∃xs,M[n]?=some (.lst xs)/\xs.length<sizeLine/\Q .non (M.set n (.lst (xs++[d])))
 | _=>False
theorem wf:MtR X "list.append" (yL X.K dY):=by
 intro pins s σ H x xs v us R I rx rs ⟨n,a,ds,M,ρ,Q,ez,hn,sm,rr,q,k⟩
 unfold dY at q
 split at q
 ·rename_i d
  obtain⟨ys,e,hl,q⟩:=q
  first | have hzz:=Reps.inv_cons rr | have hzz:=ax.inv_cons rr
  clear rr
  obtain⟨_,_,rfl,r1,rr⟩:=hzz
  cases rr
  obtain⟨vs,hH,r⟩:=sm.obj n a _ hn e
  obtain⟨w1,w2⟩:=sm.write hn e hH (r.append (.cons r1 .nil))
  exact yI pins s σ H x _ v us R I rx rs ⟨a,vs,_,ez,rfl,hH,by rw[←r.length];exact hl,k _ _ ⟨.non,_,ρ,w1,w2,.non,q⟩⟩
 ·exact q.elim
end
end L2
namespace L2
open PySem PySem.Spec PyProof.Rows DL
section
variable{X:Cx}{tg:Expr}
end
end L2
namespace L2
open PySem PySem.Spec PyProof.Rows DL
def bE(K:AA5)(mg:Str->Option Value)(x:Str)(st:Stmt)(ps:List Str):Prop :=
 ∃f fd,Fun K x x st f fd/\mg x=some (.ref f)/\rL K fd ps []
def Cal(P:Program)(w:World)(K:AA5)(mg:Str->Option Value)(base:Heap)(k:Nat)(x:Str)(ps:List Str)(Pr:DSp):Prop :=
 ∃f fd,FnOk P w K mg base CX0 k f fd ps (spL K Pr)/\mg x=some (.ref f)/\ACT K (.ref f)=true/\rL K fd ps []
theorem fnat_mk{K:AA5}{h:Heap}{mg:Str->Option Value}{x:Str}{st:Stmt}{ps:List Str}{f:Addr}{oc:Value}{od an:Option Addr}{osl:Array (Option Value)}{kV doc pm cdv ct:Value}
  (X:K.In h) (G:h.Ns mainGlobals mg) (a:AD2 K mainGlobals x=some (some (.ref f)))
  (l:K.lookup f=some ⟨oc,od,.func (ACf x x (fN st) (bH st) (ay st) .none kV doc pm an cdv ct),osl⟩)
  (c:AEN K cdv x=true) (k:ACT K (.ref f)=true)
  (h:∀(kV doc pm:Value) (an:Option Addr) (cdv ct:Value) (us:List Value),us.length=ps.length->bindArgs (ACf x x (fN st) (bH st) (ay st) .none kV doc pm an cdv ct) ⟨us,[]⟩=pure (ps.zip us)):bE K mg x st ps :=
 have F:=Jf (st:=st) l c k
 ⟨f,_,F,PySem.W.mg_of X G a,F.binds h⟩
theorem Cal.of{P:Program}{w:World}{K:AA5}{mg:Str->Option Value}{base:Heap}{x:Str}{st:Stmt}{N ps:List Str}{k:Nat}{Pr:DSp}(F:bE K mg x st ps)(Sc:FnScope N ps (ay st))
  (len:∀ds M R,Pr ds M R->ds.length=ps.length) {t:DTS}
  (der:∀(f:Addr) (cdv:Value) (A:Around) (outer:List Env) (s:Shared) (H:Hp) (E:XK),Room k (A.deeper (envOfC x (ay st) s.heap.objs.size f cdv))->DSs (wM CX0 P w K mg base N x (ay st) f cdv A outer s H E).nox (bH st) t)
  (wp:∀ds M R,Pr ds M R->t ⟨λ_ M'=>aq M R .non M',aq M R,λ_ _=>False,λ_ _=>False⟩ (bC N ds) M):Cal P w K mg base (k+1) x ps Pr:=by
 obtain⟨f,fd,F1,hm,hb⟩:=F
 exact⟨f,fd,d_fn Pr F1 Sc len λcdv A outer s H E hr=>⟨t,der f cdv A outer s H E hr,wp⟩,hm,F1.kp,hb⟩
theorem Fw{P:Program}{w:World}{K:AA5}{mg:Str->Option Value}{base:Heap}{x:Str}{st:Stmt}{N ps:List Str}{k:Nat}{Pr:DSp}{f:Addr}{fd:FuncData}(F:Fun K x x st f fd)(Sc:FnScope N ps (ay st))
  (len:∀ds M R,Pr ds M R->ds.length=ps.length) {t:DTS}
  (der:∀(f:Addr) (cdv:Value) (A:Around) (outer:List Env) (s:Shared) (H:Hp) (E:XK),Room k (A.deeper (envOfC x (ay st) s.heap.objs.size f cdv))->DSs (wM CX0 P w K mg base N x (ay st) f cdv A outer s H E).nox (bH st) t)
  (wp:∀ds M R,Pr ds M R->t ⟨λ_ M'=>aq M R .non M',aq M R,λ_ _=>False,λ_ _=>False⟩ (bC N ds) M):FnOk P w K mg base CX0 (k+1) f fd ps (spL K Pr) :=
 d_fn Pr F Sc len λcdv A outer s H E hr=>⟨t,der f cdv A outer s H E hr,wp⟩
section
variable{X:Cx}{e:Expr}{es:List Expr}{t:DTA}{pos:Pos}
theorem d_cal(C:Cal X.prog X.w X.K X.mg X.base j x ps P)(hr:Room k X.A)(ha:DA X (e::es) t)(hj:j<=k:=by decide)
  (hg:Gl X x:=by rfl) (hdb:(x==("__debug__":Str))=false:=by decide) (he:starEach (e::es) X.env=(false,eval e X.env)::starEach es X.env:=by rfl) (hpl:(backTo pos (starEach es X.env)).any (·.1)=false:=by rfl) :
  DE X (.Call (.Name x p) (e::es) [] pos) (dCB P t):=by
 obtain⟨f,fd,F,hm,hk,hb⟩:=C
 exact JE F (hr.mono hj) hm hk hb ha hg hdb he hpl
theorem FP(hm:∃t,X.mg x=some (.int i t))(hg:Gl X x:=by rfl)(hb:(x==("__debug__":Str))=false:=by decide):DE X (.Name x pos) (dC (.int i)):=by
 obtain⟨t,hm⟩:=hm
 exact JD hm rfl ⟨t,rfl⟩ hg hb
end
def EG:DSp:=λds M R=>∃(ns:List Int) (mo:MO),ns.length<=63/\(mo.items=ns.map D.int/\mo.isL=true)/\ds=[.ref 0]/\M=[mo]/\∀M',R (.bl true) M'
theorem kM(h:M[n]?=some mo)(hl:mo.isL=true):al M n mo.items:=by
 cases mo with
 | lst xs=>exact .inl h
 | fz xs=>exact .inr (.inl h)
 | kl xs=>exact .inr (.inr h)
 | dct xs=>cases hl
 | dkt xs=>cases hl
theorem gl{K:AA5}{ρ:List Addr}{H:Hp}:∀(ns:List Int),Reps K ρ H (ns.map D.int) (ns.map V.int)
 | []=>.nil
 | n::ns=>.cons (.int n) (gl ns)
theorem wt{K:AA5}{H:Hp}{a:Addr}{ns:List Int}(hl:ns.length<=63)(hS:SqL K H a (ns.map V.int)):spL K EG [.ref a] H (λv _=>v=.bl true) λ_ _ _=>False:=by
 have one:∀{mo:MO},mo.items=ns.map D.int/\mo.isL=true->wO K [a] H a mo->spL K EG [.ref a] H (λv _=>v=.bl true) λ_ _ _=>False:=λ{mo} e ok=>by
  refine⟨[.ref 0],[mo],[a],λd _=>d=.bl true,⟨λn m b hne e1 e2=>?_,rfl,λn b mo' e1 e2=>?_⟩,.cons (.ref rfl) .nil,⟨ns,mo,hl,e,rfl,rfl,λ_=>rfl⟩,λv H' ⟨d,M',ρ',_,_,r,q⟩=>?_⟩
  ·have h1:=(AA2.mp e1).1
   have h2:=(AA2.mp e2).1
   simp at h1 h2
   lia
  ·have h1:=(AA2.mp e1).1
   simp at h1
   subst h1
   simp at e1 e2
   subst e1 e2
   exact ok
  ·have q':d=.bl true:=q
   subst q'
   cases r
   rfl
 rcases hS with(h | ⟨o,h⟩) | h
 ·exact one (mo:=.lst _) ⟨rfl,rfl⟩ ⟨_,h,gl ns⟩
 ·exact one (mo:=.fz _) ⟨rfl,rfl⟩ ⟨o,_,h,gl ns⟩
 ·exact one (mo:=.kl _) ⟨rfl,rfl⟩ ⟨_,h,gl ns⟩
theorem law_walk{l:PySem.W.OpenLaw}{q:Program}{loose:List Str}{XP:(Str->Option Value)->Heap->Prop}{YP:World->Heap->Prop}{d:DefRec}{K:Params->AA5}{k:Nat}{st:Stmt}{x:Str}(hn:l.most=some 63)(hdf:d.params.defaults=[])(hd:d.name = "law")(hr:Room k callerA)
  (hY:∀(w:World) (h:Heap),YP w h->(K w.params).In h)
  (F:∀(w:World) (mg:Str->Option Value) (h:Heap),(K w.params).In h->h.Ns mainGlobals mg->bE (K w.params) mg "law" st [x] /\
   ∀(base:Heap) (f:Addr) (fd:FuncData),Fun (K w.params) "law" "law" st f fd->FnOk l.prog w (K w.params) mg base CX0 k f fd [x] (spL (K w.params) EG))
  (hb:∀(kV doc pm:Value) (an:Option Addr) (cdv ct:Value) (u:Value),bindArgs (ACf "law" "law" (fN st) (bH st) (ay st) .none kV doc pm an cdv ct) ⟨[u],[]⟩=pure [(x,u)]) :
  PySem.W.WalkO q loose XP YP l.row.toRowW d [] (λf vs=>PySem.call f vs):=by
 refine L2.walk_of (n:=63) (k:=k) (x:=x) (CX:=λ_=>CX0) (sp:=λw=>spL (K w.params) EG) hn (by decide) hdf hr hY (λw mg fa h KX G hmg=>?_) (λw H a ns hl _ hS=>wt hl hS) λ_ _ _ _ _ z=>z
 rw[hd]at hmg
 obtain⟨⟨f,fd,F1,hm,_⟩,C⟩:=F w mg h KX G
 have e:=hmg.symm.trans hm
 cases e
 have C':=λbase=>C base _ _ F1
 obtain⟨oc,od,kV,doc,pm,an,cdv,ct,osl,rfl,lk,hcd⟩:=id F1.ex
 exact⟨_,λs v=>.of_eq (hb kV doc pm an cdv ct v),λbase _ _=>C' base⟩
end L2
namespace L2
open PySem PySem.Spec PyProof.Rows DL
def mO(nm:List (Str×NameKind))(N N':List Str)(nt:Nat)(js:List Nat)(sc:Scope):Bool :=
 sc.kind==.function&&sc.names.all (λy=>y.2 != .cell&&(y.2 != .local||sc.names.lookup y.1==some .local)&&(y.2 != .free||(nm.lookup y.1==some .cell||nm.lookup y.1==some .free))) &&
 N'.length==nt+js.length&&(AAe js.length).all λk=>match js[k]?,N'[nt+k]? with
  | some j,some x=>N[j]?==some x&&sc.names.lookup x==some .free&&(nm.lookup x==some .cell||nm.lookup x==some .free)
  | _,_=>false
theorem BlkSc.chk(h:mO X.env.scope.names X.N N' nt js scope=true):BlkSc X N' nt js scope:=by
 unfold mO at h
 simp only[AAC,AAK,beq_iff_eq,ACc,bne_iff_ne]at h
 obtain⟨⟨⟨h1,h2⟩,h3⟩,h4⟩:=h
 refine⟨h1,λy hy=>(h2 y hy).1.1,λy hy e=>((h2 y hy).1.2.resolve_left (λz=>z e)),λy hy e=>((h2 y hy).2.resolve_left (λz=>z e)),h3,λk j e=>?_⟩
 have hk:k<js.length:=(AA2.mp e).1
 have q:=h4 k (AAk.mpr hk)
 rw[e]at q
 cases f:N'[nt+k]? with
 | none=>rw[f]at q;exact absurd q (by simp)
 | some x =>
  rw[f]at q
  simp only[AAC,beq_iff_eq,ACc]at q
  exact⟨x,rfl,q.1.1,q.1.2,q.2⟩
section
variable{X:Cx}{a:Expr}{ta:DTE}{pos:Pos}
def dUn(r:DR1)(ta:DTE):DTE:=λS M Q=>ta S M λx M1=>r x M1 Q
theorem d_un(ho:UnD X (unaryOp op) r)(ha:DE X a ta):DE X (.UnaryOp op a pos) (dUn r ta):=by
 refine PE.imp (pe_un ho ha) λσ H R ⟨S,M,ρ,Q,s,sr,q,k⟩=>⟨S,M,ρ,_,s,sr,q,λv H1 ⟨d,M1,ρ1,s1,g1,r1,q1⟩=>?_⟩
 exact⟨d,M1,ρ1,Q,s1,r1,q1,λv H' w=>k v H' (VQ.trans g1 w)⟩
def GR:DR1:=λx M Q=>match x with
 | .int i=>Q (.int (-i)) M
 | _=>False
theorem Gx:UnD X (unaryOp .USub) GR:=by
 intro pins s σ H vx v R I rx ⟨x,M,ρ,Q,sm,r1,q,k⟩
 unfold GR at q
 split at q
 ·cases r1
  exact Gw pins s σ H _ v R I rx ⟨_,rfl,k _ H (VQ.now sm (.int _) q)⟩
 ·exact q.elim
end
end L2
namespace L2
open PySem PySem.Spec PyProof.Rows DL
def eqL(f:D->D->Bool):List D->List D->Bool
 | [],[]=>true
 | x::xs,y::ys=>f x y&&eqL f xs ys
 | _,_=>false
def eqD(M:Mem):Nat->D->D->Bool
 | _,.non,.non=>true
 | _,.bl a,.bl b=>a==b
 | _,.bl a,.int b=>(if a then 1 else 0)==b
 | _,.int a,.bl b=>a==(if b then 1 else 0)
 | _,.int a,.int b=>a==b
 | _,.str a,.str b=>a==b
 | n+1,.tup xs,.tup ys=>eqL (eqD M n) xs ys
 | n+1,.ref i,.ref j=>match M[i]?,M[j]? with
  | some a,some b=>eqL (eqD M n) a.items b.items
  | _,_=>false
 | _,_,_=>false
def okD(M:Mem):Nat->D->Bool
 | _,.ty _=>false
 | n+1,.tup xs=>xs.all (okD M n)
 | n+1,.ref i=>match M[i]? with
  | some a=>a.isL&&a.items.all (okD M n)
  | none=>false
 | 0,.tup _=>false
 | 0,.ref _=>false
 | _,_=>true
theorem zJ:∀{xs ys:List D},eqL f xs ys=true->xs.length=ys.length
 | [],[],_=>rfl
 | [],_::_,h=>by simp[eqL]at h
 | _::_,[],h=>by simp[eqL]at h
 | x::xs,y::ys,h=>by
  simp only[eqL,AAC]at h
  rw[AAA,AAA,zJ h.2]
theorem Ah(n:Nat)(e:Nat->Bool):(AAe (n+1)).all e=(e 0&&(AAe n).all λj=>e (j+1)):=by
 rw[List.range_succ_eq_map,ABF,ADU]
 rfl
theorem kZ:∀{xs ys:List D}{e:Nat->Bool},xs.length=ys.length->(∀(j:Nat) x y,xs[j]?=some x->ys[j]?=some y->e j=f x y)->(AAe xs.length).all e=eqL f xs ys
 | [],[],e,_,_=>by simp[eqL]
 | [],_::_,_,h,_=>by simp at h
 | _::_,[],_,h,_=>by simp at h
 | x::xs,y::ys,e,h,he=>by
  rw[AAA,Ah,eqL,he 0 x y rfl rfl,kZ (by simpa using h) λj x' y' h1 h2=>he (j+1) x' y' (by simpa using h1) (by simpa using h2)]
theorem zI(h:xs.length≠ys.length):eqL f xs ys=false:=by
 cases q:eqL f xs ys with
 | false=>rfl
 | true=>exact absurd (zJ q) h
theorem fQ{vs:List V}{us:List Value}(h:ax vs us){j:Nat}{v:V}(e:vs[j]?=some v):∃u,us[j]?=some u/\aK v u:=by
 induction h generalizing j with
 | nil=>simp at e
 | cons r _ ih =>
  cases j with
  | zero=>simp at e;subst e;exact⟨_,rfl,r⟩
  | succ j=>exact ih (by simpa using e)
section
variable{X:Cx}{pins:List (Addr×Obj)}{σ:St}{H:Hp}{s:Shared}{ρ:List Addr}{M:Mem}
theorem jW(I:Inv X pins σ H s)(sm:Sim X.K ρ M H){i:Nat}{a:Addr}{mo:MO}(e:ρ[i]?=some a)(hm:M[i]?=some mo)(hl:mo.isL=true):∃vs its,SqL X.K H a vs/\Reps X.K ρ H mo.items vs/\ax vs its/\PlainL s.heap a its.toArray:=by
 obtain⟨vs,hq,r⟩:=al.seq sm (kM hm hl) e
 obtain⟨its,rr,pl,_⟩:=I.list hq
 exact⟨vs,its,hq,r,rr,pl⟩
theorem cM(hm:M[i]?=some mo)(o:okD M (n+1) (.ref i)=true):mo.isL=true/\mo.items.all (okD M n)=true:=by
 have o':(match M[i]? with | some a=>a.isL&&a.items.all (okD M n) | none=>false)=true:=o
 rw[hm]at o'
 exact(AAC _ _).mp o'
theorem Ca(I:Inv X pins σ H s)(sm:Sim X.K ρ M H):∀(n:Nat) (x y:D) (v:V),Rep X.K ρ H x v->Rep X.K ρ H y v->okD M n x=true->okD M n y=true->eqD M n x y=true:=by
 have all:∀(n:Nat),(∀(x y:D) (v:V),Rep X.K ρ H x v->Rep X.K ρ H y v->okD M n x=true->okD M n y=true->eqD M n x y=true) ->
   ∀(xs ys:List D) (vs:List V),Reps X.K ρ H xs vs->Reps X.K ρ H ys vs->xs.all (okD M n)=true->ys.all (okD M n)=true->eqL (eqD M n) xs ys=true:=by
  intro n ih xs
  induction xs with
  | nil=>intro ys vs h1 h2 _ _;cases h1;cases h2;rfl
  | cons x xs hi =>
   intro ys vs h1 h2 o1 o2
   cases h1 with
   | cons r1 t1 =>
    cases h2 with
    | cons r2 t2 =>
     rw[ABF,AAC]at o1 o2
     rw[eqL,ih _ _ _ r1 r2 o1.1 o2.1,hi _ _ t1 t2 o1.2 o2.2]
     rfl
 intro n
 induction n with
 | zero =>
  intro x y v h1 h2 o1 o2
  cases h1<;>cases h2<;>first | (simp[okD]at o1;done) | rfl | simp[eqD]
 | succ n ih =>
  intro x y v h1 h2 o1 o2
  cases h1 with
  | non=>cases h2;rfl
  | bl b=>cases h2;simp[eqD]
  | int b=>cases h2;simp[eqD]
  | str b=>cases h2;simp[eqD]
  | ty b=>simp[okD]at o1
  | @tup a vs ds hq r =>
   cases h2 with
   | tup hq' r' =>
    have e:=I.tuple_inj hq hq'
    subst e
    exact all n ih _ _ _ r r' (by simpa [okD]using o1) (by simpa [okD]using o2)
   | @ref i _ e =>
    exfalso
    obtain⟨its,_,⟨o,e1,e2,_⟩,_⟩:=I.tuple hq
    have hi:i<M.length:=by rw[←sm.len];exact(AA2.mp e).1
    obtain⟨vs',its',_,_,_,⟨o',n',f1,f2,_⟩⟩:=jW I sm e (AA7 hi) (cM (AA7 hi) o2).1
    rw[e1]at f1;cases f1
    rw[e2]at f2;injection f2 with f3;exact absurd f3 (by decide)
  | @ref i a e =>
   have hi:i<M.length:=by rw[←sm.len];exact(AA2.mp e).1
   have hm:=AA7 hi
   obtain⟨vs,its,hq,r,rr,pl⟩:=jW I sm e hm (cM hm o1).1
   cases h2 with
   | tup hq' r' =>
    exfalso
    obtain⟨its',_,⟨o,e1,e2,_⟩,_⟩:=I.tuple hq'
    obtain⟨o',n',f1,f2,_⟩:=pl
    rw[e1]at f1;cases f1
    rw[e2]at f2;injection f2 with f3;exact absurd f3 (by decide)
   | @ref j _ e' =>
    have hj:j<M.length:=by rw[←sm.len];exact(AA2.mp e').1
    have hm':=AA7 hj
    obtain⟨vs',its',hq',r',rr',pl'⟩:=jW I sm e' hm' (cM hm' o2).1
    have ev:vs=vs':=I.list_inj hq hq'
    subst ev
    have o1':=(cM hm o1).2
    have o2':=(cM hm' o2).2
    simp only[eqD,hm,hm']
    exact all n ih _ _ _ r r' o1' o2'
theorem lc(I:Inv X pins σ H s)(sm:Sim X.K ρ M H):∀(n:Nat) (A:Around) (x y:D) (vx vy:V) (u v:Value),A.units+n<cLine->Rep X.K ρ H x vx->aK vx u->Rep X.K ρ H y vy->aK vy v->okD M n x=true->okD M n y=true ->
  ACq A s u v (eqD M n x y)/\SeqAt.RcAt A s u v (eqD M n x y)/\SeqAt.RcNeAt A s u v (!eqD M n x y):=by
 intro n
 induction n with
 | zero =>
  intro A x y vx vy u v hu r1 e1 r2 e2 o1 o2
  cases r1 with
  | ty b=>simp[okD]at o1
  | tup b=>simp[okD]at o1
  | ref b=>simp[okD]at o1
  | non =>
   cases e1
   cases r2 with
   | ty b=>simp[okD]at o2
   | tup b=>simp[okD]at o2
   | ref b=>simp[okD]at o2
   | non=>cases e2;exact⟨AEC _,SeqAt.RcAt.none_none,SeqAt.RcNeAt.none_none⟩
   | bl b=>cases e2;exact⟨SeqAt.EqAt.none_bool _,SeqAt.RcAt.none_bool _,SeqAt.RcNeAt.none_bool _⟩
   | int b=>obtain⟨t,rfl⟩:=e2;exact⟨SeqAt.EqAt.none_int _ _,SeqAt.RcAt.none_int _ _,SeqAt.RcNeAt.none_int _ _⟩
   | str b=>obtain⟨t,rfl⟩:=e2;exact⟨SeqAt.EqAt.none_str _ _,SeqAt.RcAt.none_str _ _,SeqAt.RcNeAt.none_str _ _⟩
  | bl a =>
   cases e1
   cases r2 with
   | ty b=>simp[okD]at o2
   | tup b=>simp[okD]at o2
   | ref b=>simp[okD]at o2
   | non=>cases e2;exact⟨SeqAt.EqAt.bool_none _,SeqAt.RcAt.bool_none _,SeqAt.RcNeAt.bool_none _⟩
   | bl b=>cases e2;exact⟨SeqAt.EqAt.bool_bool _ _,SeqAt.RcAt.bool_bool _ _,SeqAt.RcNeAt.bool_bool _ _⟩
   | int b=>obtain⟨t,rfl⟩:=e2;exact⟨SeqAt.EqAt.bool_int _ _ _,SeqAt.RcAt.bool_int _ _ _,SeqAt.RcNeAt.bool_int _ _ _⟩
   | str b=>obtain⟨t,rfl⟩:=e2;exact⟨SeqAt.EqAt.bool_str _ _ _,SeqAt.RcAt.bool_str _ _ _,SeqAt.RcNeAt.bool_str _ _ _⟩
  | int a =>
   obtain⟨t0,rfl⟩:=e1
   cases r2 with
   | ty b=>simp[okD]at o2
   | tup b=>simp[okD]at o2
   | ref b=>simp[okD]at o2
   | non=>cases e2;exact⟨SeqAt.EqAt.int_none _ _,SeqAt.RcAt.int_none _ _,SeqAt.RcNeAt.int_none _ _⟩
   | bl b=>cases e2;exact⟨SeqAt.EqAt.int_bool _ _ _,SeqAt.RcAt.int_bool _ _ _,SeqAt.RcNeAt.int_bool _ _ _⟩
   | int b=>obtain⟨t,rfl⟩:=e2;exact⟨ACw _ _ _ _,SeqAt.RcAt.int_int _ _ _ _,SeqAt.RcNeAt.int_int _ _ _ _⟩
   | str b=>obtain⟨t,rfl⟩:=e2;exact⟨ACu _ _ _ _,SeqAt.RcAt.int_str _ _ _ _,SeqAt.RcNeAt.int_str _ _ _ _⟩
  | str a =>
   obtain⟨t0,rfl⟩:=e1
   cases r2 with
   | ty b=>simp[okD]at o2
   | tup b=>simp[okD]at o2
   | ref b=>simp[okD]at o2
   | non=>cases e2;exact⟨SeqAt.EqAt.str_none _ _,SeqAt.RcAt.str_none _ _,SeqAt.RcNeAt.str_none _ _⟩
   | bl b=>cases e2;exact⟨SeqAt.EqAt.str_bool _ _ _,SeqAt.RcAt.str_bool _ _ _,SeqAt.RcNeAt.str_bool _ _ _⟩
   | int b=>obtain⟨t,rfl⟩:=e2;exact⟨ACv _ _ _ _,SeqAt.RcAt.str_int _ _ _ _,SeqAt.RcNeAt.str_int _ _ _ _⟩
   | str b=>obtain⟨t,rfl⟩:=e2;exact⟨ADZ _ _ _ _,SeqAt.RcAt.str_str _ _ _ _,SeqAt.RcNeAt.str_str _ _ _ _⟩
 | succ n ih =>
  intro A x y vx vy u v hu r1 e1 r2 e2 o1 o2
  have hu0:A.units<cLine:=by lia
  have hu1:A.in1.units+n<cLine:=by show A.units+1+n<cLine;lia
  -- what a list or a tuple is,as the heap has it
  have tupAt:∀{a:Addr}{vs:List V}{ds:List D},SqT X.K H a vs->Reps X.K ρ H ds vs->∃its:List Value,ax vs its/\s.heap.IsTuple a its.toArray/\ds.length=its.length:=λ{a vs ds} hq r=>by
   obtain⟨its,rr,pl,_⟩:=I.tuple hq
   exact⟨its,rr,pl,r.length.trans rr.length⟩
  have lstAt:∀{i:Nat}{a:Addr},ρ[i]?=some a->okD M (n+1) (.ref i)=true->∃mo,M[i]?=some mo/\∃vs its,Reps X.K ρ H mo.items vs/\ax vs its/\s.heap.IsList a its.toArray/\mo.items.length=its.length:=λ{i a} e ok=>by
   have hi:i<M.length:=by rw[←sm.len];exact(AA2.mp e).1
   have hm:=AA7 hi
   obtain⟨vs,its,hq,r,rr,pl⟩:=jW I sm e hm (cM hm ok).1
   exact⟨_,hm,vs,its,r,rr,pl.isList,r.length.trans rr.length⟩
  have items:∀{xs ys:List D}{vs ws:List V}{its jts:List Value},Reps X.K ρ H xs vs->ax vs its->Reps X.K ρ H ys ws->ax ws jts->xs.all (okD M n)=true->ys.all (okD M n)=true ->
    ∀(j:Nat) (h1:j<its.toArray.size) (h2:j<jts.toArray.size),ACq A.in1 s its.toArray[j] jts.toArray[j] (eqD M n (xs.getD j .non) (ys.getD j .non)):=λ{xs ys vs ws its jts} r1 q1 r2 q2 o1 o2 j h1 h2=>by
   have l1:j<xs.length:=by rw[r1.length,q1.length];simpa using h1
   have l2:j<ys.length:=by rw[r2.length,q2.length];simpa using h2
   obtain⟨v1,g1,p1⟩:=r1.get (AA7 l1)
   obtain⟨v2,g2,p2⟩:=r2.get (AA7 l2)
   obtain⟨u1,k1,m1⟩:=fQ q1 g1
   obtain⟨u2,k2,m2⟩:=fQ q2 g2
   have z1:its.toArray[j]=u1:=by
    have:=(AA2.mp k1).2
    simpa using this
   have z2:jts.toArray[j]=u2:=by
    have:=(AA2.mp k2).2
    simpa using this
   rw[z1,z2]
   have y1:xs.getD j .non=xs[j]:=by simp[AEQ,AA7 l1]
   have y2:ys.getD j .non=ys[j]:=by simp[AEQ,AA7 l2]
   rw[y1,y2]
   exact(ih A.in1 _ _ _ _ _ _ hu1 p1 m1 p2 m2 (AAK.mp o1 _ (AAo l1)) (AAK.mp o2 _ (AAo l2))).1
  have rng:∀(xs ys:List D),xs.length=ys.length->(AAe xs.length).all (λj=>eqD M n (xs.getD j .non) (ys.getD j .non))=eqL (eqD M n) xs ys:=λxs ys h=>kZ h λj x y h1 h2=>by
   simp[AEQ,h1,h2]
  have fin:∀{a b:Addr}{k:Bool},Rep X.K ρ H x (.ref a)->Rep X.K ρ H y (.ref b)->eqD M (n+1) x y=k->SeqAt.RcAt A s (.ref a) (.ref b) k->SeqAt.RcNeAt A s (.ref a) (.ref b) (!k) ->
    ACq A s (.ref a) (.ref b) (eqD M (n+1) x y)/\SeqAt.RcAt A s (.ref a) (.ref b) (eqD M (n+1) x y)/\SeqAt.RcNeAt A s (.ref a) (.ref b) (!eqD M (n+1) x y):=λ{a b k} p1 p2 ek h1 h2=>by
   subst ek
   refine⟨?_,h1,h2⟩
   by_cases hab:a=b
   ·subst hab
    rw[Ca I sm (n+1) x y _ p1 p2 o1 o2]
    exact AEC _
   ·exact SeqAt.EqAt.of_refs hab h1
  cases r1 with
  | ty b=>simp[okD]at o1
  | non =>
   cases e1
   cases r2 with
   | ty b=>simp[okD]at o2
   | tup hq r=>cases e2;obtain⟨its,rr,pl,_⟩:=tupAt hq r;exact⟨SeqAt.EqAt.none_tuple pl hu0,SeqAt.RcAt.none_tuple pl hu0,SeqAt.RcNeAt.none_tuple pl hu0⟩
   | ref e=>cases e2;obtain⟨mo,hm,vs,its,r,rr,pl,_⟩:=lstAt e o2;exact⟨SeqAt.EqAt.none_list pl hu0,SeqAt.RcAt.none_list pl hu0,SeqAt.RcNeAt.none_list pl hu0⟩
   | non=>cases e2;exact⟨AEC _,SeqAt.RcAt.none_none,SeqAt.RcNeAt.none_none⟩
   | bl b=>cases e2;exact⟨SeqAt.EqAt.none_bool _,SeqAt.RcAt.none_bool _,SeqAt.RcNeAt.none_bool _⟩
   | int b=>obtain⟨t,rfl⟩:=e2;exact⟨SeqAt.EqAt.none_int _ _,SeqAt.RcAt.none_int _ _,SeqAt.RcNeAt.none_int _ _⟩
   | str b=>obtain⟨t,rfl⟩:=e2;exact⟨SeqAt.EqAt.none_str _ _,SeqAt.RcAt.none_str _ _,SeqAt.RcNeAt.none_str _ _⟩
  | bl a =>
   cases e1
   cases r2 with
   | ty b=>simp[okD]at o2
   | tup hq r=>cases e2;obtain⟨its,rr,pl,_⟩:=tupAt hq r;exact⟨SeqAt.EqAt.bool_tuple _ pl hu0,SeqAt.RcAt.bool_tuple _ pl hu0,SeqAt.RcNeAt.bool_tuple _ pl hu0⟩
   | ref e=>cases e2;obtain⟨mo,hm,vs,its,r,rr,pl,_⟩:=lstAt e o2;exact⟨SeqAt.EqAt.bool_list _ pl hu0,SeqAt.RcAt.bool_list _ pl hu0,SeqAt.RcNeAt.bool_list _ pl hu0⟩
   | non=>cases e2;exact⟨SeqAt.EqAt.bool_none _,SeqAt.RcAt.bool_none _,SeqAt.RcNeAt.bool_none _⟩
   | bl b=>cases e2;exact⟨SeqAt.EqAt.bool_bool _ _,SeqAt.RcAt.bool_bool _ _,SeqAt.RcNeAt.bool_bool _ _⟩
   | int b=>obtain⟨t,rfl⟩:=e2;exact⟨SeqAt.EqAt.bool_int _ _ _,SeqAt.RcAt.bool_int _ _ _,SeqAt.RcNeAt.bool_int _ _ _⟩
   | str b=>obtain⟨t,rfl⟩:=e2;exact⟨SeqAt.EqAt.bool_str _ _ _,SeqAt.RcAt.bool_str _ _ _,SeqAt.RcNeAt.bool_str _ _ _⟩
  | int a =>
   obtain⟨t0,rfl⟩:=e1
   cases r2 with
   | ty b=>simp[okD]at o2
   | tup hq r=>cases e2;obtain⟨its,rr,pl,_⟩:=tupAt hq r;exact⟨SeqAt.EqAt.int_tuple _ _ pl hu0,SeqAt.RcAt.int_tuple _ _ pl hu0,SeqAt.RcNeAt.int_tuple _ _ pl hu0⟩
   | ref e=>cases e2;obtain⟨mo,hm,vs,its,r,rr,pl,_⟩:=lstAt e o2;exact⟨SeqAt.EqAt.int_list _ _ pl hu0,SeqAt.RcAt.int_list _ _ pl hu0,SeqAt.RcNeAt.int_list _ _ pl hu0⟩
   | non=>cases e2;exact⟨SeqAt.EqAt.int_none _ _,SeqAt.RcAt.int_none _ _,SeqAt.RcNeAt.int_none _ _⟩
   | bl b=>cases e2;exact⟨SeqAt.EqAt.int_bool _ _ _,SeqAt.RcAt.int_bool _ _ _,SeqAt.RcNeAt.int_bool _ _ _⟩
   | int b=>obtain⟨t,rfl⟩:=e2;exact⟨ACw _ _ _ _,SeqAt.RcAt.int_int _ _ _ _,SeqAt.RcNeAt.int_int _ _ _ _⟩
   | str b=>obtain⟨t,rfl⟩:=e2;exact⟨ACu _ _ _ _,SeqAt.RcAt.int_str _ _ _ _,SeqAt.RcNeAt.int_str _ _ _ _⟩
  | str a =>
   obtain⟨t0,rfl⟩:=e1
   cases r2 with
   | ty b=>simp[okD]at o2
   | tup hq r=>cases e2;obtain⟨its,rr,pl,_⟩:=tupAt hq r;exact⟨SeqAt.EqAt.str_tuple _ _ pl hu0,SeqAt.RcAt.str_tuple _ _ pl hu0,SeqAt.RcNeAt.str_tuple _ _ pl hu0⟩
   | ref e=>cases e2;obtain⟨mo,hm,vs,its,r,rr,pl,_⟩:=lstAt e o2;exact⟨SeqAt.EqAt.str_list _ _ pl hu0,SeqAt.RcAt.str_list _ _ pl hu0,SeqAt.RcNeAt.str_list _ _ pl hu0⟩
   | non=>cases e2;exact⟨SeqAt.EqAt.str_none _ _,SeqAt.RcAt.str_none _ _,SeqAt.RcNeAt.str_none _ _⟩
   | bl b=>cases e2;exact⟨SeqAt.EqAt.str_bool _ _ _,SeqAt.RcAt.str_bool _ _ _,SeqAt.RcNeAt.str_bool _ _ _⟩
   | int b=>obtain⟨t,rfl⟩:=e2;exact⟨ACv _ _ _ _,SeqAt.RcAt.str_int _ _ _ _,SeqAt.RcNeAt.str_int _ _ _ _⟩
   | str b=>obtain⟨t,rfl⟩:=e2;exact⟨ADZ _ _ _ _,SeqAt.RcAt.str_str _ _ _ _,SeqAt.RcNeAt.str_str _ _ _ _⟩
  | @tup a vs ds hq r =>
   cases e1
   obtain⟨its,rr,pl,ll⟩:=tupAt hq r
   cases r2 with
   | ty b=>simp[okD]at o2
   | non=>cases e2;exact⟨SeqAt.EqAt.tuple_none pl hu0,SeqAt.RcAt.tuple_none pl hu0,SeqAt.RcNeAt.tuple_none pl hu0⟩
   | bl b=>cases e2;exact⟨SeqAt.EqAt.tuple_bool _ pl hu0,SeqAt.RcAt.tuple_bool _ pl hu0,SeqAt.RcNeAt.tuple_bool _ pl hu0⟩
   | int b=>obtain⟨t,rfl⟩:=e2;exact⟨SeqAt.EqAt.tuple_int _ _ pl hu0,SeqAt.RcAt.tuple_int _ _ pl hu0,SeqAt.RcNeAt.tuple_int _ _ pl hu0⟩
   | str b=>obtain⟨t,rfl⟩:=e2;exact⟨SeqAt.EqAt.tuple_str _ _ pl hu0,SeqAt.RcAt.tuple_str _ _ pl hu0,SeqAt.RcNeAt.tuple_str _ _ pl hu0⟩
   | ref e=>cases e2;obtain⟨mo,hm,vs',its',r',rr',pl',_⟩:=lstAt e o2;exact⟨SeqAt.EqAt.tuple_list pl pl' hu0,SeqAt.RcAt.tuple_list pl pl' hu0,SeqAt.RcNeAt.tuple_list pl pl' hu0⟩
   | @tup b ws es hq' r' =>
    cases e2
    obtain⟨jts,rr',pl',ll'⟩:=tupAt hq' r'
    have ok1:ds.all (okD M n)=true:=by simpa [okD]using o1
    have ok2:es.all (okD M n)=true:=by simpa [okD]using o2
    have key:((AAe (min its.toArray.size jts.toArray.size)).all (λj=>eqD M n (ds.getD j .non) (es.getD j .non))&&its.toArray.size==jts.toArray.size)=eqL (eqD M n) ds es:=by
     rw[AAB,AAB]
     by_cases hl:ds.length=es.length
     ·rw[←ll,←ll',←hl,Nat.min_self,rng ds es hl]
      simp
     ·rw[zI hl,←ll,←ll']
      simp[hl]
    have h1:=SeqAt.RcAt.tuples pl pl' hu0 (items r rr r' rr' ok1 ok2)
    have h2:=SeqAt.RcNeAt.tuples pl pl' hu0 (items r rr r' rr' ok1 ok2)
    rw[key]at h1 h2
    exact fin (.tup hq r) (.tup hq' r') rfl h1 h2
  | @ref i a e =>
   cases e1
   obtain⟨mo,hm,vs,its,r,rr,pl,ll⟩:=lstAt e o1
   cases r2 with
   | ty b=>simp[okD]at o2
   | non=>cases e2;exact⟨SeqAt.EqAt.list_none pl hu0,SeqAt.RcAt.list_none pl hu0,SeqAt.RcNeAt.list_none pl hu0⟩
   | bl b=>cases e2;exact⟨SeqAt.EqAt.list_bool _ pl hu0,SeqAt.RcAt.list_bool _ pl hu0,SeqAt.RcNeAt.list_bool _ pl hu0⟩
   | int b=>obtain⟨t,rfl⟩:=e2;exact⟨SeqAt.EqAt.list_int _ _ pl hu0,SeqAt.RcAt.list_int _ _ pl hu0,SeqAt.RcNeAt.list_int _ _ pl hu0⟩
   | str b=>obtain⟨t,rfl⟩:=e2;exact⟨SeqAt.EqAt.list_str _ _ pl hu0,SeqAt.RcAt.list_str _ _ pl hu0,SeqAt.RcNeAt.list_str _ _ pl hu0⟩
   | tup hq' r'=>cases e2;obtain⟨its',rr',pl',_⟩:=tupAt hq' r';exact⟨SeqAt.EqAt.list_tuple pl pl' hu0,SeqAt.RcAt.list_tuple pl pl' hu0,SeqAt.RcNeAt.list_tuple pl pl' hu0⟩
   | @ref j b e' =>
    cases e2
    obtain⟨mo',hm',ws,jts,r',rr',pl',ll'⟩:=lstAt e' o2
    have ok1:mo.items.all (okD M n)=true:=(cM hm o1).2
    have ok2:mo'.items.all (okD M n)=true:=(cM hm' o2).2
    have ek:eqD M (n+1) (.ref i) (.ref j)=eqL (eqD M n) mo.items mo'.items:=by simp only[eqD,hm,hm']
    by_cases hl:mo.items.length=mo'.items.length
    ·have hsz:its.toArray.size=jts.toArray.size:=by rw[AAB,AAB,←ll,←ll',hl]
     have h1:=SeqAt.RcAt.lists pl pl' hsz hu0 (items r rr r' rr' ok1 ok2)
     have h2:=SeqAt.RcNeAt.lists pl pl' hsz hu0 (items r rr r' rr' ok1 ok2)
     rw[AAB,←ll,rng _ _ hl]at h1 h2
     exact fin (.ref e) (.ref e') ek h1 h2
    ·have hsz:(its.toArray.size != jts.toArray.size)=true:=by
      rw[AAB,AAB,←ll,←ll']
      simpa using hl
     have h1:=SeqAt.RcAt.lists_lengths pl pl' hsz hu0
     have h2:=SeqAt.RcNeAt.lists_lengths pl pl' hsz hu0
     exact fin (.ref e) (.ref e') (ek.trans (zI hl)) h1 h2
def eqN:Nat:=30
def qEq:DR2:=λx y M Q=>(okD M eqN x=true/\okD M eqN y=true)/\Q (.bl (eqD M eqN x y)) M
def qNe:DR2:=λx y M Q=>(okD M eqN x=true/\okD M eqN y=true)/\Q (.bl (!eqD M eqN x y)) M
def inD(M:Mem)(x:D)(ys:List D):Bool:=ys.any λy=>eqD M eqN y x
def GT(neg:Bool):DR2:=λx y M Q=>match y with
 | .tup ys=>(okD M eqN x=true/\ys.all (okD M eqN)=true)/\Q (.bl (inD M x ys != neg)) M
 | .ref n=>∃ys,al M n ys/\(okD M eqN x=true/\ys.all (okD M eqN)=true)/\Q (.bl (inD M x ys != neg)) M
 | .str z=>match x with
  | .str p=>Q (.bl ((!(AC6 z p 0 z.length 1).isEmpty) != neg)) M
  | _=>False
 | _=>False
abbrev qIn:DR2:=GT false
abbrev xU:DR2:=GT true
end
section
variable{X:Cx}
theorem mU(hr:Room k A):A.units+eqN<cLine:=by have:=hr.un;unfold eqN;lia
theorem od_eq(hr:Room k X.A):OpD X (compareOp .Eq) qEq:=by
 intro pins s σ H vx vy v u R I rx ry ⟨x,y,M,ρ,Q,sm,r1,r2,⟨⟨o1,o2⟩,q⟩,k⟩
 exact(lc I sm eqN X.A x y vx vy v u (mU hr) r1 rx r2 ry o1 o2).2.1 _ _ _ _ (eE I sm k q)
theorem od_ne(hr:Room k X.A):OpD X (compareOp .NotEq) qNe:=by
 intro pins s σ H vx vy v u R I rx ry ⟨x,y,M,ρ,Q,sm,r1,r2,⟨⟨o1,o2⟩,q⟩,k⟩
 exact(lc I sm eqN X.A x y vx vy v u (mU hr) r1 rx r2 ry o1 o2).2.2 _ _ _ _ (eE I sm k q)
theorem qX{pins:List (Addr×Obj)}{σ:St}{H:Hp}{s:Shared}{ρ:List Addr}{M:Mem}(I:Inv X pins σ H s)(sm:Sim X.K ρ M H):∀(n:Nat) (x y z:D) (v:V),Rep X.K ρ H x v->Rep X.K ρ H y v->okD M n x=true->okD M n y=true->eqD M n x z=eqD M n y z:=by
 have all:∀(n:Nat),(∀(x y z:D) (v:V),Rep X.K ρ H x v->Rep X.K ρ H y v->okD M n x=true->okD M n y=true->eqD M n x z=eqD M n y z) ->
   ∀(xs ys zs:List D) (vs:List V),Reps X.K ρ H xs vs->Reps X.K ρ H ys vs->xs.all (okD M n)=true->ys.all (okD M n)=true->eqL (eqD M n) xs zs=eqL (eqD M n) ys zs:=by
  intro n ih xs
  induction xs with
  | nil=>intro ys zs vs h1 h2 _ _;cases h1;cases h2;rfl
  | cons x xs hi =>
   intro ys zs vs h1 h2 o1 o2
   cases h1 with
   | cons r1 t1 =>
    cases h2 with
    | cons r2 t2 =>
     cases zs with
     | nil=>rfl
     | cons z zs =>
      rw[ABF,AAC]at o1 o2
      rw[eqL,eqL,ih _ _ z _ r1 r2 o1.1 o2.1,hi _ zs _ t1 t2 o1.2 o2.2]
 intro n
 induction n with
 | zero =>
  intro x y z v h1 h2 o1 o2
  cases h1<;>cases h2<;>first | rfl | (cases z<;>rfl)
 | succ n ih =>
  intro x y z v h1 h2 o1 o2
  cases h1 with
  | non=>cases h2;rfl
  | bl b=>cases h2;rfl
  | int b=>cases h2;rfl
  | str b=>cases h2;rfl
  | ty b=>cases h2;rfl
  | @tup a vs ds hq r =>
   cases h2 with
   | tup hq' r' =>
    have e:=I.tuple_inj hq hq'
    subst e
    cases z with
    | tup zs=>exact all n ih _ _ zs _ r r' o1 o2
    | _=>rfl
   | @ref i _ e =>
    exfalso
    obtain⟨its,_,⟨o,e1,e2,_⟩,_⟩:=I.tuple hq
    have hi:i<M.length:=by rw[←sm.len];exact(AA2.mp e).1
    obtain⟨vs',its',_,_,_,⟨o',n',f1,f2,_⟩⟩:=jW I sm e (AA7 hi) (cM (AA7 hi) o2).1
    rw[e1]at f1;cases f1
    rw[e2]at f2;injection f2 with f3;exact absurd f3 (by decide)
  | @ref i a e =>
   have hi:i<M.length:=by rw[←sm.len];exact(AA2.mp e).1
   have hm:=AA7 hi
   obtain⟨vs,its,hq,r,rr,pl⟩:=jW I sm e hm (cM hm o1).1
   cases h2 with
   | tup hq' r' =>
    exfalso
    obtain⟨its',_,⟨o,e1,e2,_⟩,_⟩:=I.tuple hq'
    obtain⟨o',n',f1,f2,_⟩:=pl
    rw[e1]at f1;cases f1
    rw[e2]at f2;injection f2 with f3;exact absurd f3 (by decide)
   | @ref j _ e' =>
    have hj:j<M.length:=by rw[←sm.len];exact(AA2.mp e').1
    have hm':=AA7 hj
    obtain⟨vs',its',hq',r',rr',pl'⟩:=jW I sm e' hm' (cM hm' o2).1
    have ev:vs=vs':=I.list_inj hq hq'
    subst ev
    cases z with
    | ref k =>
     simp only[eqD,hm,hm']
     cases M[k]? with
     | none=>rfl
     | some mo=>exact all n ih _ _ _ _ r r' (cM hm o1).2 (cM hm' o2).2
    | _=>rfl
theorem zp{k:Nat}(hr:Room k X.A){pins:List (Addr×Obj)}{σ:St}{H:Hp}{s:Shared}{ρ:List Addr}{M:Mem}(I:Inv X pins σ H s)(sm:Sim X.K ρ M H){x:D}{vx:V}{v:Value}(r1:Rep X.K ρ H x vx)(rx:aK vx v)(o1:okD M eqN x=true) :
  ∀{ys:List D}{ws:List V}{its:List Value},Reps X.K ρ H ys ws->ax ws its->ys.all (okD M eqN)=true->∃e:Value->Bool,(∀u∈its,ACq X.A.in1 s u v (e u))/\its.any e=inD M x ys:=by
 have hu:X.A.in1.units+eqN<cLine:=by have:=hr.un;show X.A.units+1+eqN<cLine;unfold eqN;lia
 intro ys ws its rs vs ok
 classical
 refine⟨λu=>if h:∃d v',Rep X.K ρ H d v'/\aK v' u/\okD M eqN d=true then eqD M eqN h.choose x else false,λu hm=>?_,?_⟩
 ·obtain⟨j,hj,ej⟩:=List.getElem_of_mem hm
  have lj:j<ws.length:=by rw[vs.length];exact hj
  obtain⟨d,hd,rd⟩:=rs.getV (AA7 lj)
  obtain⟨u',hu',ru⟩:=fQ vs (AA7 lj)
  have:u'=u:=by rw[AA7 hj]at hu';cases hu';exact ej
  subst this
  have okd:=AAK.mp ok _ (AAu hd)
  have h:∃d v',Rep X.K ρ H d v'/\aK v' u'/\okD M eqN d=true:=⟨d,_,rd,ru,okd⟩
  show ACq X.A.in1 s u' v (if h:_ then _ else _)
  rw[dif_pos h]
  obtain⟨v',p1,p2,p3⟩:=h.choose_spec
  have ev:=aK.inj p2 ru
  subst ev
  rw[qX I sm eqN _ d x _ p1 rd p3 okd]
  exact(lc I sm eqN X.A.in1 d x _ vx _ v hu rd ru r1 rx (AAK.mp ok _ (AAu hd)) o1).1
 ·clear hu o1
  unfold inD
  induction ys generalizing ws its with
  | nil=>cases rs;cases vs;rfl
  | cons d ds ih =>
   cases rs with
   | cons r t =>
   cases vs with
   | cons q t' =>
    rename_i v' vs' u us
    rw[ABF,AAC]at ok
    have h:∃d v',Rep X.K ρ H d v'/\aK v' u/\okD M eqN d=true:=⟨d,_,r,q,ok.1⟩
    rw[ABe,ABe,ih t t' ok.2,dif_pos h]
    obtain⟨v2,p1,p2,p3⟩:=h.choose_spec
    have ev:=aK.inj p2 q
    subst ev
    rw[qX I sm eqN _ d x _ p1 r p3 ok.1]
theorem CL(neg:Bool)(hr:Room k X.A):OpD X (compareOp (if neg then .NotIn else .In)) (GT neg):=by
 intro pins s σ H vx vy v u R I rx ry ⟨x,y,M,ρ,Q,sm,r1,r2,q,k⟩
 cases r2 with
 | non=>exact q.elim
 | bl b=>exact q.elim
 | int b=>exact q.elim
 | ty b=>exact q.elim
 | str z =>
  cases r1 with
  | str p =>
   obtain⟨t,rfl⟩:=rx
   obtain⟨t',rfl⟩:=ry
   cases neg with
   | false=>exact in_str (eE I sm k (by simpa [GT]using q))
   | true=>exact notIn_str (eE I sm k (by simpa [GT]using q))
  | _=>exact q.elim
 | @tup a ws ys hq r =>
  cases ry
  obtain⟨⟨o1,o2⟩,q⟩:=(show (okD M eqN x=true/\_)/\_ from q)
  obtain⟨its,rr,pl,hz⟩:=I.tuple hq
  obtain⟨e,he,ee⟩:=zp hr I sm r1 rx o1 r rr o2
  have ea:its.toArray.any e=inD M x ys:=by rw[←ee];simp
  cases neg with
  | false=>exact SeqAt.in_tupleAt e pl (λw hw=>he w (by simpa using hw)) (by rw[ea];exact eE I sm k (by simpa using q))
  | true=>exact SeqAt.notIn_tupleAt e pl (λw hw=>he w (by simpa using hw)) (by rw[ea];exact eE I sm k (by simpa using q))
 | ref h =>
  cases ry
  obtain⟨ys,hL,⟨o1,o2⟩,q⟩:=(show ∃ys,al M _ ys/\(okD M eqN x=true/\_)/\_ from q)
  obtain⟨ws,hq,r⟩:=al.seq sm hL h
  obtain⟨its,rr,pl,hz⟩:=I.list hq
  obtain⟨e,he,ee⟩:=zp hr I sm r1 rx o1 r rr o2
  have ea:its.toArray.any e=inD M x ys:=by rw[←ee];simp
  cases neg with
  | false=>exact SeqAt.in_listAt e pl.isList (λw hw=>he w (by simpa using hw)) (by rw[ea];exact eE I sm k (by simpa using q))
  | true=>exact SeqAt.notIn_listAt e pl.isList (λw hw=>he w (by simpa using hw)) (by rw[ea];exact eE I sm k (by simpa using q))
theorem od_in(hr:Room k X.A):OpD X (compareOp .In) qIn:=CL false hr
theorem Bi(hr:Room k X.A):OpD X (compareOp .NotIn) xU:=CL true hr
end
end L2
namespace L2
open PySem PySem.Spec PyProof.Rows DL
theorem JP:bootBuiltins "len" = some (.builtin "len"):=by decide +kernel
theorem JR:bootBuiltins "all" = some (.builtin "all"):=by decide +kernel
theorem oj:bootBuiltins "isinstance" = some (.builtin "isinstance"):=by decide +kernel
theorem JO:bootBuiltins "ord" = some (.builtin "ord"):=by decide +kernel
theorem Ae:bootBuiltins "sorted" = some (.builtin "sorted"):=by decide +kernel
theorem JQ:bootBuiltins "int" = some (.type "int"):=by decide +kernel
theorem JN:bootBuiltins "str" = some (.type "str"):=by decide +kernel
theorem Gb:bootBuiltins "bool" = some (.type "bool"):=by decide +kernel
theorem FZ:bootBuiltins "list" = some (.type "list"):=by decide +kernel
theorem Ct:bootBuiltins "tuple" = some (.type "tuple"):=by decide +kernel
theorem Ga:bootBuiltins "dict" = some (.type "dict"):=by decide +kernel
def visB(sc:Scope)(x:Str):Bool:=match sc.names.lookup x with
 | some .local=>true
 | some .cell=>true
 | some .free=>true
 | _=>false
theorem CA(h:visB sc x=true):Vis sc x:=by
 unfold visB at h
 unfold Vis
 split at h
 ·rename_i e;exact .inl e
 ·rename_i e;exact .inr (.inl e)
 ·rename_i e;exact .inr (.inr e)
 ·cases h
def Gj(sc:Scope)(x:Str):Bool:=match sc.names.lookup x with
 | some .local=>true
 | some .cell=>true
 | _=>false
theorem yQ(h:Gj sc x=true):Loc sc x:=by
 unfold Gj at h
 unfold Loc
 split at h
 ·rename_i e;exact .inl e
 ·rename_i e;exact .inr e
 ·cases h
structure HE(X:Cx)(e:Expr)(t:DTE):Prop where
 ok:DE X e t
structure HT(X:Cx)(e:Expr)(t:DTT):Prop where
 ok:DT X e t
structure HW(X:Cx)(e:Expr)(t:DTT):Prop where
 ok:DW X e t
structure HA(X:Cx)(es:List Expr)(t:DTA):Prop where
 ok:DA X es t
structure HS(X:Cx)(e:Stmt)(t:DTS):Prop where
 ok:DS X e t
structure HB(X:Cx)(e:List Stmt)(t:DTS):Prop where
 ok:DSs X e t
structure HG(X:Cx)(e:Expr)(t:DTG):Prop where
 ok:DG X e t
structure HI(X:Cx)(tg e:Expr)(t:DTI):Prop where
 ok:DI X tg e t
structure HTs(X:Cx)(e:List Expr)(t:DTT):Prop where
 ok:PTs X e (lowT X.K t)
structure HO'(X:Cx)(e:Option Expr)(t:DTO):Prop where
 ok:PO X e (HX X.K t)
structure HOp(X:Cx)(f:Value->Value->Sem Value)(r:DR2):Prop where
 ok:OpD X f r
structure HUn(X:Cx)(f:Value->Sem Value)(r:DR1):Prop where
 ok:UnD X f r
structure HC(X:Cx)(f:Value)(r:DRA):Prop where
 ok:iY X f r
structure HMs(X:Cx)(name:Str)(r:Str->DRA):Prop where
 ok:∃id,Slot "str" name id/\typeOf (.builtin id)=pure (.type "method_descriptor")/\MtR X id (Bo X.K r)
structure HMl(X:Cx)(name:Str)(r:Nat->DRA):Prop where
 ok:∃id,Slot "list" name id/\typeOf (.builtin id)=pure (.type "method_descriptor")/\MtR X id (yL X.K r)
section
variable{X:Cx}{e a b c o:Expr}{es aN:List Expr}{te ta tb tc to:DTE}{t:DTA}{pos p:Pos}{x:Str}{tA tB:DTT}{k:Nat}
theorem k_var(hN:X.N[i]?=some x:=by kernel_rfl)(hv:visB X.env.scope x=true:=by kernel_rfl)(hd:(x==("__debug__":Str))=false:=by kernel_rfl)
  (hcd:(x==("__classdict__":Str))=false:=by kernel_rfl):HE X (.Name x pos) (ab i):=⟨d_var hN (CA hv) hd hcd⟩
theorem k_int:HE X (.Constant (.int i) j pos) (dC (.int i)):=⟨d_int⟩
theorem k_bl:HE X (.Constant (.bool i) j pos) (dC (.bl i)):=⟨d_bl⟩
theorem k_non:HE X (.Constant .none j pos) (dC .non):=⟨d_non⟩
theorem k_str:HE X (.Constant (.str i) j pos) (dC (.str i)):=⟨d_str⟩
theorem EW(hm:∃t,X.mg x=some (.int i t))(hg:X.env.kindOf x=some .globalImplicit:=by kernel_rfl)(hb:(x==("__debug__":Str))=false:=by kernel_rfl):HE X (.Name x pos) (dC (.int i)):=⟨FP hm hg hb⟩
theorem IA(hm:X.mg x=none)(hv:bootBuiltins x=some (.type T))(hg:X.env.kindOf x=some .globalImplicit:=by kernel_rfl)(hn:(x==("__name__":Str))=false:=by kernel_rfl)(hb:(x==("__debug__":Str))=false:=by kernel_rfl):HE X (.Name x pos) (dC (.ty T)) :=
 ⟨JC hm hv hg (by simpa using hn) hb⟩
theorem k_op(ho:HOp X (binaryOp op) r)(ha:HE X a ta)(hb:HE X b tb):HE X (.BinOp a op b pos) (dOp r ta tb):=⟨d_op ho.ok ha.ok hb.ok⟩
theorem k_un(ho:HUn X (unaryOp op) r)(ha:HE X a ta):HE X (.UnaryOp op a pos) (dUn r ta):=⟨d_un ho.ok ha.ok⟩
theorem k_cmp(ho:HOp X (compareOp op) r)(ha:HE X a ta)(hb:HE X b tb)(hm:behindInMarks op b=false:=by kernel_rfl):HE X (.Compare a [op] [b] pos) (dOp r ta tb):=⟨d_cmp ho.ok ha.ok hb.ok hm⟩
theorem Ij(ho:HOp X (compareOp op) r)(ha:HE X a ta)(hb:HE X b tb)(hm:behindInMarks op b=false:=by kernel_rfl):HT X (.Compare a [op] [b] pos) (ak (dOp r ta tb)):=⟨Jo ho.ok ha.ok hb.ok hm⟩
theorem EY(ho:HOp X (compareOp op) r)(ho':HOp X (compareOp op') r')(ha:HE X a ta)(hb:HE X b tb)(hc:HE X c tc)(hm:lastMarks [op,op'] [b,c]=false:=by kernel_rfl) :
  HE X (.Compare a [op,op'] [b,c] pos) (cA r r' ta tb tc):=⟨FR ho.ok ho'.ok ha.ok hb.ok hc.ok hm⟩
theorem BB(ho:HOp X (compareOp op) r)(ho':HOp X (compareOp op') r')(ha:HE X a ta)(hb:HE X b tb)(hc:HE X c tc)(hm:lastMarks [op,op'] [b,c]=false:=by kernel_rfl) :
  HT X (.Compare a [op,op'] [b,c] pos) (ak (cA r r' ta tb tc)):=⟨Cc ho.ok ho'.ok ha.ok hb.ok hc.ok hm⟩
theorem Ig(h:HE X e te)(he:∀whole,isTrue e X.env whole=(do let v ←whole;standAt e.pos;holding [v] (truthy v)):=by intro _;kernel_rfl):HT X e (ak te):=⟨Jm h.ok he⟩
theorem EH(ha:HT X a tA):HW X (.BoolOp .And [a] pos) tA:=⟨Fx ha.ok⟩
theorem Ib(ha:HT X a tA):HW X (.BoolOp .Or [a] pos) tA:=⟨Jk ha.ok⟩
theorem CO(ha:HT X a tA)(hb:HW X (.BoolOp .And (b::aN) pos) tB):HW X (.BoolOp .And (a::b::aN) pos) (zS tA tB):=⟨Jl ha.ok hb.ok⟩
theorem Ic(ha:HT X a tA)(hb:HW X (.BoolOp .Or (b::aN) pos) tB):HW X (.BoolOp .Or (a::b::aN) pos) (dOr tA tB):=⟨dw_or ha.ok hb.ok⟩
theorem kw_t(h:HW X e tA):HT X e tA:=⟨dw_t h.ok⟩
theorem Ih(ha:HT X a tA):HT X (.UnaryOp .Not a pos) (dF tA):=⟨Jn ha.ok⟩
theorem k_one{op}(h:HE X a ta):HE X (.BoolOp op [a] pos) ta:=⟨d_one h.ok⟩
theorem k_and(ha:HE X a ta)(hb:HE X (.BoolOp .And (b::aN) pos) tb):HE X (.BoolOp .And (a::b::aN) pos) (bj ta tb):=⟨d_and ha.ok hb.ok⟩
theorem k_or(ha:HE X a ta)(hb:HE X (.BoolOp .Or (b::aN) pos) tb):HE X (.BoolOp .Or (a::b::aN) pos) (JF ta tb):=⟨d_or ha.ok hb.ok⟩
theorem k_not(ha:HE X a ta):HE X (.UnaryOp .Not a pos) (zR ta):=⟨d_not ha.ok⟩
theorem Iz:HA X [] ac:=⟨JB⟩
theorem EU(ha:HE X e te)(hr:HA X es t)(hs:starEach (e::es) X.env=(false,eval e X.env)::starEach es X.env:=by kernel_rfl):HA X (e::es) (aa te t):=⟨FN ha.ok hr.ok hs⟩
theorem k_tup{x1}(h:HA X es t):HE X (.Tuple es x1 pos) (dE t):=⟨d_tup h.ok⟩
theorem k_lst(h:HA X es t):HE X (.List es pos) (dB t):=⟨d_lst h.ok⟩
theorem EZ{id:String}{r:DRA}(hc:HC X (.builtin id) r)(hm:X.mg x=none)(hv:bootBuiltins x=some (.builtin id))(ha:HA X (e::es) t)(hg:X.env.kindOf x=some .globalImplicit:=by kernel_rfl)(hn:(x==("__name__":Str))=false:=by kernel_rfl)(hdb:(x==("__debug__":Str))=false:=by kernel_rfl)
  (he:starEach (e::es) X.env=(false,eval e X.env)::starEach es X.env:=by kernel_rfl) (hpl:(backTo pos (starEach es X.env)).any (·.1)=false:=by kernel_rfl):HE X (.Call (.Name x p) (e::es) [] pos) (dCB r t):=⟨FS hc.ok hm hv ha.ok hg (by simpa using hn) hdb he hpl⟩
theorem BI(hc:HC X (.type T) r)(hm:X.mg x=none)(hv:bootBuiltins x=some (.type T))(ha:HA X (e::es) t)(hg:X.env.kindOf x=some .globalImplicit:=by kernel_rfl)(hn:(x==("__name__":Str))=false:=by kernel_rfl)(hdb:(x==("__debug__":Str))=false:=by kernel_rfl)
  (he:starEach (e::es) X.env=(false,eval e X.env)::starEach es X.env:=by kernel_rfl) (hpl:(backTo pos (starEach es X.env)).any (·.1)=false:=by kernel_rfl):HE X (.Call (.Name x p) (e::es) [] pos) (dCB r t):=⟨Cj hc.ok hm hv ha.ok hg (by simpa using hn) hdb he hpl⟩
theorem k_cal(C:Cal X.prog X.w X.K X.mg X.base j x ps P)(hr:Room k X.A)(ha:HA X (e::es) t)(hj:Nat.ble j k=true:=by kernel_rfl)
  (hg:X.env.kindOf x=some .globalImplicit:=by kernel_rfl) (hdb:(x==("__debug__":Str))=false:=by kernel_rfl) (he:starEach (e::es) X.env=(false,eval e X.env)::starEach es X.env:=by kernel_rfl) (hpl:(backTo pos (starEach es X.env)).any (·.1)=false:=by kernel_rfl) :
  HE X (.Call (.Name x p) (e::es) [] pos) (dCB P t):=⟨d_cal C hr ha.ok (Nat.le_of_ble_eq_true hj) hg hdb he hpl⟩
theorem k_ix(ha:HE X a ta)(hb:HE X b tb)(hs:ou b:=by intro _ _;kernel_rfl):HE X (.Subscript a b pos) (dOp qIx ta tb):=⟨d_ix ha.ok hb.ok hs⟩
theorem EQ:HO' X none aU:=⟨FG⟩
theorem EO(h:HE X e te):HO' X (some e) (cb te):=⟨FF h.ok⟩
theorem EV{lo hi:Option Expr}{tl th:DTO}{p2:Pos}(he:HE X e te)(hl:HO' X lo tl)(hu:HO' X hi th):HE X (.Subscript e (.Slice lo hi none p2) pos) (dSl te tl th):=⟨FO he.ok hl.ok hu.ok⟩
variable{name:Str}{apos cpos:Pos}
theorem k_ms(hm:HMs X name r)(ho:HE X o to)(ha:HA X (e::es) t)
  (hbase:attributeBase o name X.env (eval o X.env)=eval o X.env:=by kernel_rfl)
  (hfew:((backTo cpos (starEach (e::es) X.env)).all (λx=>!x.1)&&(backToKw cpos (keywordEach [] X.env)).all (λx=>x.1.isSome)
   && decide ((e::es).length+([]:List Keyword).length+(if ([]:List Keyword).isEmpty then 0 else 1)<30))=true:=by kernel_rfl)
  (hline:(apos.endLine==cpos.line)=true:=by kernel_rfl) (hs:starEach (e::es) X.env=(false,eval e X.env)::starEach es X.env:=by kernel_rfl) (hplain:(backTo cpos (starEach es X.env)).any (·.1)=false:=by kernel_rfl) :
  HE X (.Call (.Attribute o name apos) (e::es) [] cpos) (dMs r to t):=let ⟨_,h1,h2,h3⟩:=hm.ok;⟨d_ms h1 h2 h3 ho.ok ha.ok hbase hfew hline hs hplain⟩
theorem k_ml(hm:HMl X name r)(ho:HE X o to)(ha:HA X (e::es) t)
  (hbase:attributeBase o name X.env (eval o X.env)=eval o X.env:=by kernel_rfl)
  (hfew:((backTo cpos (starEach (e::es) X.env)).all (λx=>!x.1)&&(backToKw cpos (keywordEach [] X.env)).all (λx=>x.1.isSome)
   && decide ((e::es).length+([]:List Keyword).length+(if ([]:List Keyword).isEmpty then 0 else 1)<30))=true:=by kernel_rfl)
  (hline:(apos.endLine==cpos.line)=true:=by kernel_rfl) (hs:starEach (e::es) X.env=(false,eval e X.env)::starEach es X.env:=by kernel_rfl) (hplain:(backTo cpos (starEach es X.env)).any (·.1)=false:=by kernel_rfl) :
  HE X (.Call (.Attribute o name apos) (e::es) [] cpos) (dMl r to t):=let ⟨_,h1,h2,h3⟩:=hm.ok;⟨d_ml h1 h2 h3 ho.ok ha.ok hbase hfew hline hs hplain⟩
variable{st:Stmt}{sts:List Stmt}{ts us:DTS}{aS bS:List Stmt}
theorem Il:HB X [] aA:=⟨Js⟩
theorem Ik(h:HS X st ts):HB X [st] ts:=⟨Jr h.ok⟩
theorem EN(h1:HS X st ts)(h2:HB X sts us):HB X (st::sts) (aC ts us):=⟨FD h1.ok h2.ok⟩
theorem zc(he:HE X e te)(hs:swapsWith e none pos.line X.env=pure false:=by kernel_rfl):HS X (.Expr e pos) (rj te):=⟨FB he.ok hs⟩
theorem CS(he:HE X e te):HS X (.Return (some e) pos) (aF te):=⟨Jq he.ok⟩
theorem Im(hc:HT X c tA)(ha:HB X aS ts)(hb:HB X bS us):HS X (.If c aS bS pos) (dIf tA ts us):=⟨ds_if hc.ok ha.ok hb.ok⟩
theorem CQ(hN:X.N.Nodup)(he:HE X e te)(hi:X.N[i]?=some x:=by kernel_rfl)(hx:Gj X.env.scope x=true:=by kernel_rfl)(hs:swapsWith e (some (.Name x pos')) pos.line X.env=pure false:=by kernel_rfl)
  (hf:X.fn x=true:=by kernel_rfl):HS X (.Assign [.Name x pos'] e pos) (bT te i):=⟨Jp hN he.ok hi (yQ hx) hs (.inl hf)⟩
theorem ET(hN:X.N.Nodup)(hi:X.N[i]?=some x:=by kernel_rfl)(hx:Gj X.env.scope x=true:=by kernel_rfl)(hf:X.fn x=true:=by kernel_rfl):HG X (.Name x pos) (ar i):=⟨tL hN hi (yQ hx) (.inl hf)⟩
theorem Iu(hN:X.N.Nodup)(hi:X.N[i]?=some x:=by kernel_rfl)(hf:X.env.scope.names.lookup x=some .local:=by kernel_rfl):HG X (.Name x pos) (ar i):=⟨tL hN hi (.inl hf) (.inr hf)⟩
variable{tg iter:Expr}{di:DTI}{g:DTG}
theorem Ip(h:HE X e te):HI X tg e (bK te):=⟨Jx h.ok⟩
theorem CT{body:List Stmt}{tb:DTS}(hi:HI X tg iter di)(hg:HG X tg g)(hb:HB X body tb)(hp:PassesOwn (model X.prog X.w) X.A X.env X.xe:=by exact PassesOwn.never)(hc:X.calm=true:=by kernel_rfl)
  (hs:∀x,foldedSetIterable iter X.env x=pure x:=by intro _;kernel_rfl):HS X (.For tg iter body [] pos) (tN di g tb):=⟨Jt hi.ok hg.ok hb.ok hp hc hs⟩
theorem EL:HTs X [] lh:=⟨Fz⟩
theorem EK(h:HT X c tA):HTs X [c] tA:=⟨Fy h.ok⟩
theorem k_lc(hi:HI X tg iter di)
  (hg:∀cl s0 H0 ex,HG (blk X N' scope cl s0 H0 ex) tg g) (ht:∀cl s0 H0 ex,HTs (blk X N' scope cl s0 H0 ex) ifs tt) (he:∀cl s0 H0 ex,HE (blk X N' scope cl s0 H0 ex) elt te) (B:mO X.env.scope.names X.N N' nt js scope=true:=by kernel_rfl) (hc:X.calm=true:=by kernel_rfl)
  (hs:∀x,foldedSetIterable iter X.env x=pure x:=by intro _;kernel_rfl):HE X (.ListComp elt [⟨tg,iter,ifs,0⟩] scope pos) (dLC nt js di g tt te):=⟨d_lc (BlkSc.chk B) hi.ok (λcl s0 H0 ex=>(hg cl s0 H0 ex).ok) (λcl s0 H0 ex=>(ht cl s0 H0 ex).ok) (λcl s0 H0 ex=>(he cl s0 H0 ex).ok) hc hs⟩
theorem zf(hm:X.mg "range" = none)(ha:HA X [a] t)(hg:X.env.kindOf "range" = some .globalImplicit:=by kernel_rfl)(hs:starEach [a] X.env=[(false,eval a X.env)]:=by kernel_rfl):HI X tg (.Call (.Name "range" p) [a] [] pos) (cL t):=⟨zO hm ha.ok hg hs⟩
theorem ze(hm:X.mg "range" = none)(ha:HA X [a,b] t)(hg:X.env.kindOf "range" = some .globalImplicit:=by kernel_rfl)(hs:starEach [a,b] X.env=[(false,eval a X.env),(false,eval b X.env)]:=by kernel_rfl)(hs2:starEach [b] X.env=[(false,eval b X.env)]:=by kernel_rfl) :
  HI X tg (.Call (.Name "range" p) [a,b] [] pos) (ip t):=⟨zN hm ha.ok hg hs hs2⟩
theorem IH:HOp X (binaryOp .Sub) An:=⟨HM⟩
theorem IJ:HOp X (binaryOp .Mult) jX:=⟨Et⟩
theorem Fj:HOp X (binaryOp .FloorDiv) nk:=⟨Eu⟩
theorem IK:HOp X (binaryOp .Mod) vS:=⟨HP⟩
theorem ho_lt:HOp X (compareOp .Lt) qLt:=⟨HR⟩
theorem ho_le:HOp X (compareOp .LtE) qLe:=⟨od_le⟩
theorem ho_gt:HOp X (compareOp .Gt) qGt:=⟨od_gt⟩
theorem ho_ge:HOp X (compareOp .GtE) qGe:=⟨od_ge⟩
theorem ho_is:HOp X (compareOp .Is) qIs:=⟨od_is⟩
theorem ho_eq(hr:Room k X.A):HOp X (compareOp .Eq) qEq:=⟨od_eq hr⟩
theorem ho_ne(hr:Room k X.A):HOp X (compareOp .NotEq) qNe:=⟨od_ne hr⟩
theorem ho_in(hr:Room k X.A):HOp X (compareOp .In) qIn:=⟨od_in hr⟩
theorem BN(hr:Room k X.A):HOp X (compareOp .NotIn) xU:=⟨Bi hr⟩
theorem IG:HUn X (unaryOp .USub) GR:=⟨Gx⟩
theorem IV:HC X (.builtin "len") fj:=⟨JI⟩
theorem IX(hc:X.calm=true:=by kernel_rfl):HC X (.builtin "all") AN:=⟨JK hc⟩
theorem IW:HC X (.builtin "isinstance") eK:=⟨JJ⟩
theorem IU:HC X (.builtin "ord") Gh:=⟨JH⟩
theorem zu:HMl X "append" dY:=⟨_,PySem.F.slot_list_append,PySem.F.type_list_append,wf⟩
end
theorem Cal.byH{P:Program}{w:World}{K:AA5}{mg:Str->Option Value}{base:Heap}{x:Str}{st:Stmt}{N ps:List Str}{k:Nat}{Pr:DSp}(F:bE K mg x st ps)(Sc:FnScope N ps (ay st))
  (len:∀ds M R,Pr ds M R->ds.length=ps.length) {t:DTS}
  (der:∀(f:Addr) (cdv:Value) (A:Around) (outer:List Env) (s:Shared) (H:Hp) (E:XK),Room k (A.deeper (envOfC x (ay st) s.heap.objs.size f cdv))->HB (wM CX0 P w K mg base N x (ay st) f cdv A outer s H E).nox (bH st) t)
  (wp:∀ds M R,Pr ds M R->t ⟨λ_ M'=>aq M R .non M',aq M R,λ_ _=>False,λ_ _=>False⟩ (bC N ds) M):Cal P w K mg base (k+1) x ps Pr :=
 Cal.of F Sc len (λf cdv A outer s H E hr=>(der f cdv A outer s H E hr).ok) wp
theorem BY{P:Program}{w:World}{K:AA5}{mg:Str->Option Value}{base:Heap}{x:Str}{st:Stmt}{N ps:List Str}{k:Nat}{Pr:DSp}{f:Addr}{fd:FuncData}(F:Fun K x x st f fd)(Sc:FnScope N ps (ay st))
  (len:∀ds M R,Pr ds M R->ds.length=ps.length) {t:DTS}
  (der:∀(f:Addr) (cdv:Value) (A:Around) (outer:List Env) (s:Shared) (H:Hp) (E:XK),Room k (A.deeper (envOfC x (ay st) s.heap.objs.size f cdv))->HB (wM CX0 P w K mg base N x (ay st) f cdv A outer s H E).nox (bH st) t)
  (wp:∀ds M R,Pr ds M R->t ⟨λ_ M'=>aq M R .non M',aq M R,λ_ _=>False,λ_ _=>False⟩ (bC N ds) M):FnOk P w K mg base CX0 (k+1) f fd ps (spL K Pr) :=
 Fw F Sc len (λf cdv A outer s H E hr=>(der f cdv A outer s H E hr).ok) wp
end L2
namespace L2
open PySem PySem.Spec PyProof.Rows DL
section
variable{ok:Mem->Prop}{g:DTG}{tb:DTS}{E:DEnds}{k0:Mem}
theorem gM(I:List D->SD->Mem->Prop)(h0:∀S M,I [] S M->ok M/\E.nx S M)
  (h1:∀x xs S M,I (x::xs) S M->∀L:SD->Mem->Prop,(∀S' M',I xs S' M'->L S' M')->ok M/\g x S M λS2 M2=>tb ⟨Fgt k0 L,E.rt,E.nx,Fgt k0 L⟩ S2 M2) :
  ∀xs S M,I xs S M->lQ ok g tb E k0 xs S M
 | [],S,M,h=>h0 S M h
 | x::xs,S,M,h=>h1 x xs S M h _ (gM I h0 h1 xs)
theorem cy(I:Nat->SD->Mem->Prop)(h0:∀S M,I xs.length S M->ok M/\E.nx S M)
  (h1:∀i x S M,xs[i]?=some x->I i S M->∀L:SD->Mem->Prop,(∀S' M',I (i+1) S' M'->L S' M')->ok M/\g x S M λS2 M2=>tb ⟨Fgt k0 L,E.rt,E.nx,Fgt k0 L⟩ S2 M2)
 (h:I 0 S M):lQ ok g tb E k0 xs S M:=by
 refine gM (λys S M=>∃i,xs.drop i=ys/\i+ys.length=xs.length/\I i S M) ?_ ?_ xs S M ⟨0,rfl,by simp,h⟩
 ·rintro S M ⟨i,_,e,q⟩
  have:i=xs.length:=by simpa using e
  subst this
  exact h0 S M q
 ·rintro x ys S M ⟨i,e,el,q⟩ L hL
  have hx:xs[i]?=some x:=by
   have:(xs.drop i)[0]?=some x:=by rw[e];rfl
   simpa using this
  refine h1 i x S M hx q L λS' M' q'=>hL S' M' ⟨i+1,?_,by simp at el;lia,q'⟩
  rw[←List.drop_drop,e]
  rfl
theorem Fgt.now(h:P S M):Fgt k0 P S M:=.inl h
theorem gk{lo:Int}{n i:Nat}{x:D}:(oz lo n)[i]?=some x↔i<n/\x=.int (lo+(i:Int)):=by
 unfold oz
 rw[AAU]
 by_cases h:i<n
 ·simp[h,eq_comm]
 ·simp[h]
theorem cx{lo:Int}{n:Nat}:(oz lo n).length=n:=by simp[oz]
end
theorem bO(p:D->Bool)(f:D->D)(I:SD->Prop)(hok:ok M) :
  ∀(xs acc:List D) (S:SD),(∀x∈xs,∀S,I S->∃S',I S'/\∀(Y:D->SD->Mem->Prop) (Z:SD->Mem->Prop),(if p x=true then Y (f x) S' M else Z S' M) ->
    g x S M λS2 M2=>tt S2 M2 λb M3=>if b=true then te S2 M3 λy M4=>Y y S2 M4 else Z S2 M3) ->
   I S->acc.length+xs.length<=sizeLine->Q (.ref M.length) (M++[.lst (acc++(xs.filter p).map f)])->lz ok g tt te Q xs acc S M
 | [],acc,S,_,_,_,q=>⟨hok,by simpa using q⟩
 | x::xs,acc,S,step,hS,hl,q=>by
  obtain⟨S',hS',k⟩:=step x AAI S hS
  refine⟨hok,k (λy S2 M4=>acc.length<sizeLine/\lz ok g tt te Q xs (acc++[y]) S2 M4) (λS2 M3=>lz ok g tt te Q xs acc S2 M3) ?_⟩
  have step':=λy hy=>step y (AA9 _ hy)
  rw[AAA]at hl
  by_cases hp:p x=true
  ·rw[if_pos hp]
   refine⟨by lia,bO p f I hok xs _ S' step' hS' (by rw[AA8,AAX];lia) ?_⟩
   rw[List.filter_cons_of_pos hp,AAM]at q
   rw[ABS]
   exact q
  ·rw[if_neg hp]
   refine bO p f I hok xs acc S' step' hS' (by lia) ?_
   rw[List.filter_cons_of_neg hp]at q
   exact q
theorem bw(f:D->D)(I:SD->Prop)(hok:ok M)
  (xs acc:List D) (S:SD) (step:∀x∈xs,∀S,I S->∃S',I S'/\∀(Y:D->SD->Mem->Prop),Y (f x) S' M->g x S M λS2 M2=>te S2 M2 λy M4=>Y y S2 M4)
  (hS:I S) (hl:acc.length+xs.length<=sizeLine) (q:Q (.ref M.length) (M++[.lst (acc++xs.map f)])):lz ok g lh te Q xs acc S M:=by
 refine bO (λ_=>true) f I hok xs acc S (λx hx S hS=>?_) hS hl (by rw[List.filter_eq_self.mpr λ_ _=>rfl];exact q)
 obtain⟨S',hS',k⟩:=step x hx S hS
 refine⟨S',hS',λY Z h=>?_⟩
 rw[if_pos rfl]at h
 have:=k Y h
 simp only[lh,if_true]
 exact this
theorem aO:(M++[mo])[M.length]?=some mo:=by simp
theorem af:al (M++[.lst xs]) M.length xs:=.inl aO
theorem al.more(h:al M n xs)(L:Mem):al (M++L) n xs:=by
 have key:∀{mo:MO},M[n]?=some mo->(M++L)[n]?=some mo:=λe=>by
  rw[AAJ (AA2.mp e).1];exact e
 rcases h with h | h | h
 ·exact .inl (key h)
 ·exact .inr (.inl (key h))
 ·exact .inr (.inr (key h))
theorem al.ty(h:al M n xs):tyD M (.ref n) = "list":=by
 show (match M[n]? with | some mo=>if mo.isL=true then "list" else "?" | none=>"?") = "list"
 rcases h with h | h | h<;>(rw[h];rfl)
theorem aq.keep(h:R d M)(b:Bel M.length d)(p:M <+: M'):aq M R d M':=.inr (.inl ⟨M,.refl,b,p,h⟩)
theorem aq.now(h:R d M):aq M R d M:=.inl h
theorem aq.bl(h:R (.bl b) M)(p:M <+: M'):aq M R (.bl b) M':=.keep h (.bl b) p
theorem nr:M <+: M++[mo]:=ABJ _ _
theorem xD{a b:Str}(h:a.cps.toList=b.cps.toList):a=b:=by
 cases a;cases b
 simp only[Array.toList_inj]at h
 simpa using h
theorem aB{a:Str}:a.length=a.cps.toList.length:=by show a.cps.size=_;simp
theorem cv{a b:Str}:(a++b).cps.toList=a.cps.toList++b.cps.toList:=by
 show (a.cps++b.cps).toList=_
 simp
theorem Gc{a b:Str}:(a++b).length=a.length+b.length:=by
 rw[aB,aB,aB,cv,AA8]
theorem yx:(⟨#[c]⟩:Str).length=1:=rfl
theorem am(h:n<=1000):n<=sizeLine:=AEJ (small1000 h)
theorem glob_mk{K:AA5}{h:Heap}{mg:Str->Option Value}{x:Str}{u:Value}{i:Int}(X:K.In h)(G:h.Ns mainGlobals mg)(a:AD2 K mainGlobals x=some (some u))(b:∃t,u=Value.int i t):∃t,mg x=some (.int i t):=by
 obtain⟨t,rfl⟩:=b
 exact⟨t,PySem.W.mg_of X G a⟩
theorem dD{α:Type}{xs:List α}{i:Int}(h0:0<=i)(h1:i<xs.length):∃(j:Nat) (hj:j<xs.length),atI xs i=some xs[j]/\(j:Int)=i:=by
 have hj:i.toNat<xs.length:=by lia
 refine⟨i.toNat,hj,?_,by lia⟩
 have e:i=((i.toNat:Nat):Int):=by lia
 have q:atI xs ((i.toNat:Nat):Int)=some xs[i.toNat]:=aZ (AA7 hj)
 rw[←e]at q
 exact q
def lC(M:Mem)(d:D):Prop:=tyD M d∈lG/\∀x,d=.str x->x.length<=sizeLine
section
variable{M:Mem}
theorem wZ:lC M .non:=⟨by simp[tyD,lG],λ_ h=>by cases h⟩
theorem AF:lC M (.bl b):=⟨by simp[tyD,lG],λ_ h=>by cases h⟩
theorem xc:lC M (.int b):=⟨by simp[tyD,lG],λ_ h=>by cases h⟩
theorem wW:lC M (.tup b):=⟨by simp[tyD,lG],λ_ h=>by cases h⟩
theorem wX(h:x.length<=1000):lC M (.str x):=⟨by simp[tyD,lG],λ_ e=>by cases e;exact am h⟩
theorem wY(h:al M n xs):lC M (.ref n):=⟨by rw[h.ty];simp[lG],λ_ e=>by cases e⟩
theorem bm(h:tyD M (.ref n)∈lG):tyD M (.ref n) = "list":=by
 unfold tyD at h ⊢
 try dsimp only at h ⊢
 cases e:M[n]? with
 | some mo =>
  rw[e]at h
  cases q:mo.isL with
  | true=>exact if_pos q
  | false =>
   simp only[q,AAF,if_false]at h
   exact absurd h (by decide)
 | none=>rw[e]at h;exact absurd h (by decide)
end
section
variable{M:Mem}
theorem al.get(h:al M n xs):∃mo,M[n]?=some mo/\mo.items=xs/\mo.isL=true:=by
 rcases h with h | h | h<;>exact⟨_,h,rfl,rfl⟩
theorem nW(h1:al M i xs)(h2:al M j ys):eqD M (n+1) (.ref i) (.ref j)=eqL (eqD M n) xs ys:=by
 obtain⟨a,ha,rfl,hl1⟩:=h1.get
 obtain⟨b,hb,rfl,hl2⟩:=h2.get
 simp only[eqD,ha,hb]
theorem ig(h1:al M i xs)(h:∀x∈xs,okD M n x=true):okD M (n+1) (.ref i)=true:=by
 obtain⟨a,ha,rfl,hl1⟩:=h1.get
 simp only[okD,ha,hl1,AAx]
 exact AAK.mpr h
theorem yD(h:∀x∈xs,okD M n x=true):okD M (n+1) (.tup xs)=true:=by
 simp only[okD]
 exact AAK.mpr h
theorem az:okD M n (.str x)=true:=by cases n<;>rfl
theorem ae:okD M n (.int x)=true:=by cases n<;>rfl
theorem mF:okD M n (.bl x)=true:=by cases n<;>rfl
theorem nC:okD M n .non=true:=by cases n<;>rfl
theorem zH:eqL f xs []=xs.isEmpty:=by cases xs<;>rfl
theorem Jh:eqD M n (.bl a) (.bl b)=(a==b):=by cases n<;>rfl
theorem bi:eqD M n (.int a) (.int b)=(a==b):=by cases n<;>rfl
theorem bB:eqD M n (.str a) (.str b)=(a==b):=by cases n<;>rfl
end
def chD:D->Nat
 | .str x=>x.cps.toList.headD 0
 | _=>0
theorem zW:chD (.str ⟨#[c]⟩)=c:=rfl
theorem gj(h:d∈signs x):∃c∈x.cps.toList,d=.str ⟨#[c]⟩:=by
 obtain⟨c,hc,rfl⟩:=AAN.mp h
 exact⟨c,hc,rfl⟩
theorem qg{x:Str}:(signs x).length=x.length:=by rw[aB];simp[signs]
end L2
namespace L2
open PySem PySem.Spec PyProof.Rows DL
section
variable{X:Cx}{pos:Pos}
def eZ:Dk:=λds S M Q=>match ds with
 | []=>Q S M
 | _=>False
def aR(t:DTG)(u:Dk):Dk:=λds S M Q=>match ds with
 | d::r=>t d S M λS' M'=>u r S' M' Q
 | []=>False
def eY(n:Nat)(t:Dk):DTG:=λd S M Q=>match d with
 | .tup ds=>ds.length=n/\t ds S M Q
 | _=>False
theorem FH:DGs X [] eZ:=by
 intro pins s σ H vs us R I r ⟨ds,S,M,ρ,Q,sm,sr,rr,q,k⟩
 cases rr with
 | nil=>exact Eb pins s σ H _ us R I r ⟨rfl,k σ H ⟨S,M,ρ,sm,.refl,sr,q⟩⟩
 | cons _ _=>exact q.elim
theorem Cf(h1:DG X e t)(h2:DGs X es u)
  (hs:(assignEach (e::es) X.env).map (·.2)=assign e X.env::(assignEach es X.env).map (·.2):=by rfl):DGs X (e::es) (aR t u):=by
 intro pins s σ H vs us R I r ⟨ds,S,M,ρ,Q,sm,sr,rr,q,k⟩
 cases rr with
 | nil=>exact q.elim
 | cons r1 rr =>
  refine AX h1 h2 hs pins s σ H _ us R I r ⟨_,_,rfl,_,S,M,ρ,_,sm,sr,r1,q,λσ1 H1 ⟨S1,M1,ρ1,s1,g1,sr1,q1⟩=>?_⟩
  exact⟨_,S1,M1,ρ1,Q,s1,sr1,rr.grow g1,q1,λσ' H' w=>k σ' H' (SQ.trans g1 w)⟩
theorem Jy(h:DGs X es t)(hc:X.calm=true:=by rfl)
  (hn:(assignEach es X.env).length=n:=by rfl) (hst:(assignEach es X.env).findIdx? (·.1)=none:=by rfl):DG X (.Tuple es j pos) (eY n t):=by
 intro pins s σ H v u R I r ⟨d,S,M,ρ,Q,sm,sr,rd,q,k⟩
 cases rd with
 | tup hq rr=>exact He hc h hn hst pins s σ H _ u R I r ⟨_,_,rfl,hq,by rw[←rr.length];exact q.1,_,S,M,ρ,Q,sm,sr,rr,q.2,k⟩
 | _=>exact q.elim
def dAsg(te:DTE)(g:DTG):DTS:=λE S M=>te S M λd M1=>g d S M1 E.nx
theorem Ju(he:DE X e te)(hg:DG X tg g)(hs:swapsWithSole [tg] e pos.line X.env=pure false:=by rfl)(hw:swappedStores [tg] e X.env=pure none:=by rfl)
  (h1:(assignEach [tg] X.env).map (·.2)=[assign tg X.env]:=by rfl):DS X (.Assign [tg] e pos) (dAsg te g) :=
 PS.imp (Hb he hg hs hw h1) λE σ H ⟨S,M,ρ,F,s,sr,q,k⟩=>⟨S,M,ρ,_,s,sr,q,λv H1 ⟨d,M1,ρ1,s1,g1,r1,q1⟩=>⟨d,S,M1,ρ1,_,s1,sr.grow g1,r1,q1,λσ' H' w=>k.nx σ' H' (SQ.trans g1 w)⟩⟩
def qSet:D->D->D->Mem->(Mem->Prop)->Prop:=λo i v M Q=>match o,i with
 | .ref n,.int k=>∃xs j,M[n]?=some (.lst xs)/\ixN xs.length k=some j/\Q (M.set n (.lst (xs.set j v)))
 | _,_=>False
theorem Reps.set{K:AA5}{ρ:List Addr}{H:Hp}{d:D}{v:V}(r:Rep K ρ H d v):∀{ds:List D}{vs:List V} (i:Nat),Reps K ρ H ds vs->Reps K ρ H (ds.set i d) (vs.set i v)
 | _,_,_,.nil=>.nil
 | _,_,0,.cons _ t=>.cons r t
 | _,_,i+1,.cons q t=>.cons q (Reps.set r i t)
def Cg(to ti:DTE):DTG:=λv S M Q=>to S M λo M1=>ti S M1 λi M2=>qSet o i v M2 λM3=>Q S M3
theorem Jz(ho:DE X o to)(hi:DE X i ti)
  (ha:∀v,assign (.Subscript o i pos) X.env v=(do
   let ov ←holding [v] (eval o X.env)
   let iv ←holding [v,ov] (eval i X.env)
   standAt pos
   holding [v,ov,iv] (setItem ov iv v)
   release [v,ov,iv] []):=by intro _;rfl):DG X (.Subscript o i pos) (Cg to ti):=by
 intro pins s σ H v u R I r ⟨d,S,M,ρ,Q,sm,sr,rd,q,k⟩
 refine Hf ho hi AJ ha pins s σ H v u R I r ⟨S,M,ρ,_,sm,sr,q,λvo H1 ⟨o',M1,ρ1,s1,g1,r1,q1⟩=>⟨S,M1,ρ1,_,s1,sr.grow g1,q1,λvi H2 ⟨i',M2,ρ2,s2,g2,r2,q2⟩=>?_⟩⟩
 have r1':=r1.grow g2
 cases r1' with
 | @ref n a hn =>
  cases r2 with
  | int j =>
   obtain⟨xs,jj,e,hj,q3⟩:=(show ∃xs j',M2[n]?=some (.lst xs)/\ixN xs.length j=some j'/\Q S (M2.set n (.lst (xs.set j' d)))from q2)
   obtain⟨vs,hH,rr⟩:=s2.obj n a _ hn e
   obtain⟨w1,w2⟩:=s2.write hn e hH (Reps.set (rd.grow (g1.trans g2)) jj rr)
   exact⟨a,vs,j,jj,rfl,rfl,hH,by rw[←rr.length];exact hj,k σ _ ⟨S,_,ρ2,w1,(g1.trans g2).trans w2,sr.grow ((g1.trans g2).trans w2),q3⟩⟩
  | _=>exact q2.elim
 | _=>exact q2.elim
def xV:DRA:=λds M Q=>match ds with
 | [.ref n]=>∃xs,al M n xs/\Q (.ref M.length) (M++[.lst xs])
 | [.tup xs]=>Q (.ref M.length) (M++[.lst xs])
 | _=>False
theorem FV:iY X (.type "list") xV:=by
 refine dz.imp rA λvs H R ⟨ds,M,ρ,Q,sm,rs,q,k⟩=>?_
 unfold xV at q
 split at q
 ·obtain⟨xs,hL,q⟩:=q
  first | have hzz:=Reps.inv_cons rs | have hzz:=ax.inv_cons rs
  clear rs
  obtain⟨_,_,rfl,r1,rs⟩:=hzz
  cases rs
  obtain⟨_,rfl,e⟩:=Rep.inv_ref r1
  obtain⟨ws,hq,r⟩:=al.seq sm hL e
  exact⟨_,ws,rfl,.inl hq,λl hl=>k _ _ (VQ.laidL sm .refl r hl q)⟩
 ·first | have hzz:=Reps.inv_cons rs | have hzz:=ax.inv_cons rs
  clear rs
  obtain⟨_,_,rfl,r1,rs⟩:=hzz
  cases rs
  cases r1 with
  | tup hq r=>exact⟨_,_,rfl,.inr hq,λl hl=>k _ _ (VQ.laidL sm .refl r hl q)⟩
 ·exact q.elim
def fh:DRA:=λds M Q=>match ds with
 | [.ref n]=>∃xs,al M n xs/\Q (.tup xs) M
 | [.tup xs]=>Q (.tup xs) M
 | _=>False
theorem Co:iY X (.type "tuple") fh:=by
 refine dz.imp oh λvs H R ⟨ds,M,ρ,Q,sm,rs,q,k⟩=>?_
 unfold fh at q
 split at q
 ·obtain⟨xs,hL,q⟩:=q
  first | have hzz:=Reps.inv_cons rs | have hzz:=ax.inv_cons rs
  clear rs
  obtain⟨_,_,rfl,r1,rs⟩:=hzz
  cases rs
  obtain⟨_,rfl,e⟩:=Rep.inv_ref r1
  obtain⟨ws,hq,r⟩:=al.seq sm hL e
  exact⟨_,ws,rfl,.inl ⟨hq,λl hl=>k _ _ (VQ.laidT sm .refl r hl q)⟩⟩
 ·first | have hzz:=Reps.inv_cons rs | have hzz:=ax.inv_cons rs
  clear rs
  obtain⟨_,_,rfl,r1,rs⟩:=hzz
  cases rs
  cases r1 with
  | tup hq r=>exact⟨_,_,rfl,.inr ⟨hq,k _ H (VQ.now sm (.tup hq r) q)⟩⟩
 ·exact q.elim
theorem Bc:OpR X (binaryOp .Add) (λx y H Q=>∃a b ys,x=.ref a/\y=.ref b/\SqT X.K H a []/\SqT X.K H b ys/\Q (.ref b) H):=by
 intro pins s σ H x y v u Q I rx ry h
 obtain⟨a,b,ys,rfl,rfl,ha,hb,q⟩:=h
 cases rx
 cases ry
 obtain⟨its,r1,p1,_⟩:=I.tuple ha
 obtain⟨its2,r2,p2,_⟩:=I.tuple hb
 have e:its=[]:=r1.nil_iff.mpr rfl
 subst e
 obtain⟨⟨cls,dd,data,sl⟩,ho,hc,n,hd⟩:=id p1
 obtain⟨⟨cls2,dd2,data2,sl2⟩,ho2,hc2,n2,hd2⟩:=id p2
 simp only at hc hd hc2 hd2
 subst hc hd hc2 hd2
 exact concat_meets ⟨_,ho,rfl⟩ ⟨_,ho2,rfl⟩ noFill_tuple_add seq_tuple_add ADh ADY (ADS _ _)
  (tuple_addW0 a b _ _ n n2 dd dd2 sl sl2 (by simp)) ⟨ho,ho2,⟨.ref b,H,I,rfl,q⟩⟩
def aJ:DR2:=λx y M Q=>match x,y with
 | .tup xs,.tup ys=>xs.length+ys.length<=sizeLine/\Q (.tup (xs++ys)) M
 | _,_=>qAdd x y M Q
theorem Ev:OpD X (binaryOp .Add) aJ:=by
 intro pins s σ H vx vy v u R I rx ry ⟨x,y,M,ρ,Q,sm,r1,r2,q,k⟩
 unfold aJ at q
 split at q
 ·rename_i xs ys
  obtain⟨a,vs,rfl,h1,t1⟩:=Rep.inv_tup r1
  obtain⟨b,ws,rfl,h2,t2⟩:=Rep.inv_tup r2
  have l1:=t1.length
  have l2:=t2.length
  cases xs with
  | nil =>
   cases t1
   exact Bc pins s σ H _ _ v u R I rx ry ⟨a,b,ws,rfl,rfl,h1,h2,k _ H (VQ.now sm (.tup h2 t2) q.2)⟩
  | cons x0 xs0 =>
   refine El pins s σ H _ _ v u R I rx ry ⟨a,b,vs,ws,rfl,rfl,h1,h2,?_,by rw[←l1,←l2];exact q.1,λz=>?_,λ_ p hp=>k _ _ (VQ.laidT sm .refl (t1.append t2) hp q.2)⟩
   ·intro z
    subst z
    simp at l1
   ·subst z
    have:ys=[]:=by simpa using l2
    subst this
    rw[ACZ]at q
    exact k _ H (VQ.now sm (.tup h1 t1) q.2)
 ·exact HU pins s σ H vx vy v u R I rx ry ⟨x,y,M,ρ,Q,sm,r1,r2,q,k⟩
def ke(n:Nat):DRA:=λds M Q=>match ds with
 | [.ref m]=>∃xs ys,M[n]?=some (.lst xs)/\M[m]?=some (.lst ys)/\n≠m/\xs.length+ys.length<=sizeLine/\Q .non (M.set n (.lst (xs++ys)))
 | _=>False
theorem we:MtR X "list.extend" (yL X.K ke):=by
 intro pins s σ H x xs v us R I rx rs ⟨n,a,ds,M,ρ,Q,ez,hn,sm,rr,q,k⟩
 unfold ke at q
 split at q
 ·rename_i m
  obtain⟨ys,zs,e,e2,hne,hl,q⟩:=q
  first | have hzz:=Reps.inv_cons rr | have hzz:=ax.inv_cons rr
  clear rr
  obtain⟨_,_,rfl,r1,rr⟩:=hzz
  cases rr
  obtain⟨b,rfl,hm⟩:=Rep.inv_ref r1
  obtain⟨vs,hH,r⟩:=sm.obj n a _ hn e
  obtain⟨ws,hH2,r2⟩:=sm.obj m b _ hm e2
  obtain⟨w1,w2⟩:=sm.write hn e hH (r.append r2)
  exact yH pins s σ H x _ v us R I rx rs ⟨a,b,vs,ws,ez,rfl,hH,hH2,by rw[←r.length,←r2.length];exact hl,k _ _ ⟨.non,_,ρ,w1,w2,.non,q⟩⟩
 ·exact q.elim
end
end L2
namespace Srt
open PySem PySem.W PyProof.Rows
def run{α:Type}(c:Nat->Nat->Bool):KasT α->α
 | .ret a=>a
 | .ask i j k=>run c (k (c i j))
theorem eJ{α β:Type}{c:Nat->Nat->Bool}{f:α->KasT β}:∀t:KasT α,run c (t.bind f)=run c (f (run c t))
 | .ret a=>rfl
 | .ask i j k=>eJ (k (c i j))
def Bd{α:Type}(n:Nat):KasT α->Prop
 | .ret _=>True
 | .ask i j k=>i<n/\j<n/\∀b,Bd n (k b)
def All{α:Type}(P:α->Prop):KasT α->Prop
 | .ret a=>P a
 | .ask _ _ k=>∀b,All P (k b)
theorem All.mono{α:Type}{P Q:α->Prop}(h:∀a,P a->Q a):∀t:KasT α,All P t->All Q t
 | .ret a,q=>h a q
 | .ask _ _ k,q=>λb=>All.mono h (k b) (q b)
theorem All.bind{α β:Type}{P:β->Prop}{f:α->KasT β}:∀t:KasT α,All (λa=>All P (f a)) t->All P (t.bind f)
 | .ret a,q=>q
 | .ask _ _ k,q=>λb=>All.bind (k b) (q b)
theorem Bd.bindA{α β:Type}{n:Nat}{f:α->KasT β}:∀t:KasT α,Bd n t->All (λa=>Bd n (f a)) t->Bd n (t.bind f)
 | .ret a,_,q=>q
 | .ask _ _ k,b,q=>⟨b.1,b.2.1,λx=>Bd.bindA (k x) (b.2.2 x) (q x)⟩
theorem All.run{α:Type}{P:α->Prop}{c:Nat->Nat->Bool}:∀t:KasT α,All P t->P (Srt.run c t)
 | .ret a,q=>q
 | .ask i j k,q=>All.run (k (c i j)) (q _)
theorem wp_run{α:Type}{cmp:Nat->Nat->(Bool->Shared->Prop)->Shared->Prop}{c:Nat->Nat->Bool}{n:Nat}{s:Shared}{Q:α->Shared->Prop}(hc:∀i j (C:Bool->Shared->Prop),i<n->j<n->C (c i j) s->cmp i j C s) :
  ∀t:KasT α,Bd n t->Q (run c t) s->t.kasWp cmp Q s
 | .ret a,_,q=>q
 | .ask i j k,b,q=>hc i j _ b.1 b.2.1 (wp_run hc (k (c i j)) (b.2.2 _) q)
structure Ord(c:Nat->Nat->Bool):Prop where
 irr:∀a,c a a=false
 tr:∀a b d,c a b=true->c b d=true->c a d=true
 neg:∀a b d,c a d=true->c a b=true\/c b d=true
section
variable{c:Nat->Nat->Bool}(O:Ord c)
def le(c:Nat->Nat->Bool)(a b:Nat):Prop:=c b a=false
theorem le_refl(O:Ord c)(a:Nat):le c a a:=O.irr a
theorem le_trans(O:Ord c)(h1:le c a b)(h2:le c b d):le c a d:=by
 unfold le at *
 cases q:c d a with
 | false=>rfl
 | true =>
  rcases O.neg d b a q with h | h
  ·rw[h2]at h;cases h
  ·rw[h1]at h;cases h
theorem le_of_lt(O:Ord c)(h:c a b=true):le c a b:=by
 unfold le
 cases q:c b a with
 | false=>rfl
 | true=>have:=O.tr a b a h q;rw[O.irr]at this;cases this
abbrev at_(p:Array Nat)(k:Nat):Nat:=p.getD k 0
def Up(c:Nat->Nat->Bool)(p:Array Nat)(m:Nat):Prop:=∀i j,i<=j->j<m->le c (at_ p i) (at_ p j)
def Dn(c:Nat->Nat->Bool)(p:Array Nat)(m:Nat):Prop:=∀i j,i<=j->j<m->le c (at_ p j) (at_ p i)
def Eqs(c:Nat->Nat->Bool)(p:Array Nat)(a b:Nat):Prop:=∀i j,a<=i->i<b->a<=j->j<b->le c (at_ p i) (at_ p j)
theorem Up.one(O:Ord c)(p:Array Nat):Up c p 1:=λi j hij hj=>by
 have:i=j:=by lia
 subst this;exact le_refl O _
theorem Up.snoc(O:Ord c)(h:Up c p n)(h1:1<=n)(hl:le c (at_ p (n-1)) (at_ p n)):Up c p (n+1):=λi j hij hj=>by
 by_cases hjn:j<n
 ·exact h i j hij hjn
 ·have:j=n:=by lia
  subst this
  by_cases hi:i=j
  ·subst hi;exact le_refl O _
  ·exact le_trans O (h i (j-1) (by lia) (by lia)) hl
theorem Dn.snoc(O:Ord c)(h:Dn c p n)(h1:1<=n)(hl:le c (at_ p n) (at_ p (n-1))):Dn c p (n+1):=λi j hij hj=>by
 by_cases hjn:j<n
 ·exact h i j hij hjn
 ·have:j=n:=by lia
  subst this
  by_cases hi:i=j
  ·subst hi;exact le_refl O _
  ·exact le_trans O hl (h i (j-1) (by lia) (by lia))
theorem fi(hj:j<=p.size)(k:Nat):at_ (AD9 p i j) k=if i<=k/\k<j then at_ p (i+j-1-k)else at_ p k:=by
 have e:=getElem?_mirror_all (xs:=p) (i:=i) hj k
 unfold at_ AD9
 rw[AB8,e]
 by_cases h:i<=k/\k<j
 ·rw[if_pos h,if_pos h,AB8]
 ·rw[if_neg h,if_neg h,AB8]
theorem rJ(hk:k<p.size)(hd:d<=k)(i:Nat):at_ (bubble p k d) i=if i=k-d then at_ p k else if k-d<i/\i<=k then at_ p (i-1)else at_ p i:=by
 have e:=getElem?_bubble (xs:=p) hk d hd i
 unfold at_
 rw[AB8,e]
 by_cases h:i=k-d
 ·rw[if_pos h,if_pos h,AB8]
 ·rw[if_neg h,if_neg h]
  by_cases h':k-d<i/\i<=k
  ·rw[if_pos h',if_pos h',AB8]
  ·rw[if_neg h',if_neg h',AB8]
theorem Dn.rev(h:Dn c p n)(hn:n<=p.size):Up c (AD9 p 0 n) n:=λi j hij hj=>by
 rw[fi hn,fi hn,if_pos ⟨AAT _,by lia⟩,if_pos ⟨AAT _,hj⟩]
 exact h _ _ (by lia) (by lia)
theorem Dn.revEq(O:Ord c)(h:Dn c p n)(hn:n<=p.size)(he:Eqs c p a n):Dn c (AD9 p a n) n:=λi j hij hj=>by
 rw[fi hn,fi hn]
 by_cases h1:a<=i/\i<n
 ·by_cases h2:a<=j/\j<n
  ·rw[if_pos h1,if_pos h2]
   exact he _ _ (by lia) (by lia) (by lia) (by lia)
  ·exact absurd ⟨by lia,hj⟩ h2
 ·by_cases h2:a<=j/\j<n
  ·rw[if_neg h1,if_pos h2]
   exact h _ _ (by lia) (by lia)
  ·rw[if_neg h1,if_neg h2]
   exact h _ _ hij hj
theorem tQ(O:Ord c):∀(f n:Nat),1<=n->Up c p n->Up c p (run c (ADp p f n))/\n<=run c (ADp p f n)/\run c (ADp p f n)<=n+f /\
  (run c (ADp p f n)<n+f->c (at_ p (run c (ADp p f n))) (at_ p (run c (ADp p f n)-1))=true)
 | 0,n,_,h=>⟨h,AAD _,AAD _,λz=>absurd z (AAq _)⟩
 | f+1,n,h1,h=>by
  show Up c p (run c (if c (at_ p n) (at_ p (n-1))=true then .ret n else ADp p f (n+1)))/\n<=run c (if c (at_ p n) (at_ p (n-1))=true then .ret n else ADp p f (n+1)) /\
   run c (if c (at_ p n) (at_ p (n-1))=true then .ret n else ADp p f (n+1))<=n+(f+1)/\(run c (if c (at_ p n) (at_ p (n-1))=true then .ret n else ADp p f (n+1))<n+(f+1) ->
    c (at_ p (run c (if c (at_ p n) (at_ p (n-1))=true then .ret n else ADp p f (n+1)))) (at_ p (run c (if c (at_ p n) (at_ p (n-1))=true then .ret n else ADp p f (n+1))-1))=true)
  by_cases q:c (at_ p n) (at_ p (n-1))=true
  ·rw[if_pos q]
   exact⟨h,AAD _,AE2 _ _,λ_=>q⟩
  ·rw[if_neg q]
   obtain⟨a1,a2,a3,a4⟩:=tQ O f (n+1) (by lia) (h.snoc O h1 (by unfold le;simpa using q))
   exact⟨a1,by lia,by lia,λz=>a4 (by lia)⟩
theorem cZ:(AD9 p i j).size=p.size:=mirror_size _ _ _ _
def Am(c:Nat->Nat->Bool)(z n m:Nat)(r:Array Nat×Nat×Nat):Prop:=r.1.size=z/\Dn c r.1 r.2.1/\n<=r.2.1/\r.2.1<=m/\r.2.2+1<=r.2.1/\Eqs c r.1 (r.2.1-(r.2.2+1)) r.2.1
def oy(c:Nat->Nat->Bool)(z nrem:Nat)(r:Nat×Array Nat):Prop:=r.2.size=z/\Up c r.2 r.1/\1<=r.1/\r.1<=nrem
def tR(c:Nat->Nat->Bool)(p:Array Nat)(k m:Nat):Prop:=m<=k/\(∀i,i<m->le c (at_ p i) (at_ p k))/\∀i,m<=i->i<k->c (at_ p k) (at_ p i)=true
theorem jd(O:Ord c):∀(f:Nat) (p:Array Nat) (n q:Nat),q+1<=n->n+f<=p.size->Dn c p n->Eqs c p (n-(q+1)) n ->
  Am c p.size n (n+f) (run c (AC1 f p n q))
 | 0,p,n,q,h1,h2,hd,he=>⟨rfl,hd,AAD _,AAD _,h1,he⟩
 | f+1,p,n,q,h1,h2,hd,he=>by
  have hn:n<=p.size:=by lia
  show Am c p.size n (n+(f+1)) (run c (if c (at_ p n) (at_ p (n-1))=true then(if q > 0 then AC1 f (AD9 p (n-(q+1)) n) (n+1) 0 else AC1 f p (n+1) 0)
   else .ask (at_ p (n-1)) (at_ p n) λd=>if d=true then .ret (p,n,q)else AC1 f p (n+1) (q+1)))
  by_cases hc:c (at_ p n) (at_ p (n-1))=true
  ·rw[if_pos hc]
   by_cases hq:q > 0
   ·rw[if_pos hq]
    have hd':Dn c (AD9 p (n-(q+1)) n) (n+1):=by
     refine(hd.revEq O hn he).snoc O (by lia) ?_
     rw[fi hn,fi hn,if_neg (by lia),if_pos ⟨by lia,by lia⟩]
     exact le_trans O (le_of_lt O hc) (he _ _ (by lia) (by lia) (by lia) (by lia))
    have r:=jd O f (AD9 p (n-(q+1)) n) (n+1) 0 (by lia) (by rw[cZ];lia) hd' (λi j a1 a2 a3 a4=>by
     have:i=n:=by lia
     have:j=n:=by lia
     subst_vars
     exact le_refl O _)
    obtain⟨a1,a2,a3,a4,a5,a6⟩:=r
    exact⟨a1.trans cZ,a2,by lia,by lia,a5,a6⟩
   ·rw[if_neg hq]
    have r:=jd O f p (n+1) 0 (by lia) (by lia) (hd.snoc O (by lia) (le_of_lt O hc)) (λi j a1 a2 a3 a4=>by
     have:i=n:=by lia
     have:j=n:=by lia
     subst_vars
     exact le_refl O _)
    obtain⟨a1,a2,a3,a4,a5,a6⟩:=r
    exact⟨a1,a2,by lia,by lia,a5,a6⟩
  ·rw[if_neg hc]
   show Am c p.size n (n+(f+1)) (run c (if c (at_ p (n-1)) (at_ p n)=true then .ret (p,n,q)else AC1 f p (n+1) (q+1)))
   by_cases hc':c (at_ p (n-1)) (at_ p n)=true
   ·rw[if_pos hc']
    exact⟨rfl,hd,AAD _,by show n<=_;lia,h1,he⟩
   ·rw[if_neg hc']
    have l1:le c (at_ p n) (at_ p (n-1)):=by unfold le;simpa using hc'
    have l2:le c (at_ p (n-1)) (at_ p n):=by unfold le;simpa using hc
    have r:=jd O f p (n+1) (q+1) (by lia) (by lia) (hd.snoc O (by lia) l1) (λi j a1 a2 a3 a4=>by
     by_cases hi:i=n
     ·by_cases hj:j=n
      ·subst hi hj;exact le_refl O _
      ·subst hi
       exact le_trans O l1 (he _ _ (by lia) (by lia) (by lia) (by lia))
     ·by_cases hj:j=n
      ·subst hj
       exact le_trans O (he _ _ (by lia) (by lia) (by lia) (by lia)) l2
      ·exact he _ _ (by lia) (by lia) (by lia) (by lia))
    obtain⟨a1,a2,a3,a4,a5,a6⟩:=r
    exact⟨a1,a2,by lia,by lia,a5,a6⟩
theorem oV(O:Ord c)(h1:1<=n)(hn:n<=nrem)(hz:nrem<=p.size)(hd:Dn c p n) :
  oy c p.size nrem (run c (kas_tail3 n nrem p)):=by
 unfold kas_tail3
 rw[eJ]
 obtain⟨a1,a2,a3,_⟩:=tQ O (nrem-n) n h1 (hd.rev (by lia))
 exact⟨cZ,a1,ABT h1 a2,ABT a3 (by lia)⟩
theorem iP(O:Ord c)(h1:1<=n)(hn:n+1<=nrem)(hz:nrem<=p.size)(he:Eqs c p 0 n)(hc:c (at_ p n) (at_ p (n-1))=true) :
  oy c p.size nrem (run c (ADz n nrem p)):=by
 have hd:Dn c p (n+1):=by
  refine Dn.snoc O (λi j hij hj=>he _ _ (by lia) (by lia) (by lia) (by lia)) h1 (le_of_lt O hc)
 unfold ADz
 rw[eJ]
 obtain⟨b1,b2,b3,b4,b5,b6⟩:=jd O (nrem-(n+1)) p (n+1) 0 (by lia) (by lia) hd (λi j a1 a2 a3 a4=>by
  have:i=n:=by lia
  have:j=n:=by lia
  subst_vars
  exact le_refl O _)
 by_cases hq:(run c (AC1 (nrem-(n+1)) p (n+1) 0)).2.2 > 0
 ·rw[if_pos hq]
  obtain⟨d1,d2,d3,d4⟩:=oV O (p:=AD9 (run c (AC1 (nrem-(n+1)) p (n+1) 0)).1 ((run c (AC1 (nrem-(n+1)) p (n+1) 0)).2.1-((run c (AC1 (nrem-(n+1)) p (n+1) 0)).2.2+1)) (run c (AC1 (nrem-(n+1)) p (n+1) 0)).2.1)
   (n:=(run c (AC1 (nrem-(n+1)) p (n+1) 0)).2.1) (nrem:=nrem) (by lia) (by lia) (by rw[cZ,b1];exact hz) (b2.revEq O (by rw[b1];lia) b6)
  exact⟨d1.trans (cZ.trans b1),d2,d3,d4⟩
 ·rw[if_neg hq]
  obtain⟨d1,d2,d3,d4⟩:=oV O (p:=(run c (AC1 (nrem-(n+1)) p (n+1) 0)).1) (n:=(run c (AC1 (nrem-(n+1)) p (n+1) 0)).2.1) (nrem:=nrem) (by lia) (by lia) (by rw[b1];exact hz) b2
  exact⟨d1.trans b1,d2,d3,d4⟩
theorem zT(O:Ord c)(h1:1<=nrem)(hz:nrem<=p.size) :
  oy c p.size nrem (run c (kas_count nrem p)):=by
 unfold kas_count
 rw[eJ]
 obtain⟨a1,a2,a3,a4⟩:=tQ O (nrem-1) 1 (AAD _) (Up.one O p)
 generalize run c (ADp p (nrem-1) 1)=n at a1 a2 a3 a4
 by_cases hn:(n==nrem)=true
 ·rw[if_pos hn]
  exact⟨rfl,a1,a2,by show n<=nrem;lia⟩
 ·rw[if_neg hn]
  have hn':n≠nrem:=by simpa using hn
  have hlt:c (at_ p n) (at_ p (n-1))=true:=a4 (by lia)
  by_cases h2:n > 1
  ·rw[if_pos h2]
   show oy c p.size nrem (run c (if c (at_ p 0) (at_ p (n-1))=true then .ret (n,p)else ADz n nrem (AD9 p 0 n)))
   by_cases hc:c (at_ p 0) (at_ p (n-1))=true
   ·rw[if_pos hc]
    exact⟨rfl,a1,a2,by show n<=nrem;lia⟩
   ·rw[if_neg hc]
    have hz':n<=p.size:=by lia
    have l0:le c (at_ p (n-1)) (at_ p 0):=by unfold le;simpa using hc
    have he:Eqs c p 0 n:=λi j b1 b2 b3 b4=>le_trans O (a1 i (n-1) (by lia) (by lia)) (le_trans O l0 (a1 0 j (by lia) b4))
    have he':Eqs c (AD9 p 0 n) 0 n:=λi j b1 b2 b3 b4=>by
     rw[fi hz',fi hz',if_pos ⟨b1,b2⟩,if_pos ⟨b3,b4⟩]
     exact he _ _ (by lia) (by lia) (by lia) (by lia)
    have hc':c (at_ (AD9 p 0 n) n) (at_ (AD9 p 0 n) (n-1))=true:=by
     rw[fi hz',fi hz',if_neg (by lia),if_pos ⟨by lia,by lia⟩]
     rcases O.neg _ (at_ p (0+n-1-(n-1))) _ hlt with z | z
     ·exact z
     ·have:=he (n-1) (0+n-1-(n-1)) (by lia) (by lia) (by lia) (by lia)
      unfold le at this
      rw[this]at z;cases z
    obtain⟨d1,d2,d3,d4⟩:=iP O (p:=AD9 p 0 n) (n:=n) (nrem:=nrem) (by lia) (by lia) (by rw[cZ];exact hz) he' hc'
    exact⟨d1.trans cZ,d2,d3,d4⟩
  ·rw[if_neg h2]
   have:n=1:=by lia
   subst this
   exact iP O (by lia) (by lia) hz (λi j b1 b2 b3 b4=>by
    have:i=0:=by lia
    have:j=0:=by lia
    subst_vars
    exact le_refl O _) hlt
theorem kg(O:Ord c)(hu:Up c p k):∀(f l r:Nat),l<=r->r<=k->r-l<=f->(∀i,i<l->le c (at_ p i) (at_ p k))->(∀i,r<=i->i<k->c (at_ p k) (at_ p i)=true) ->
  tR c p k (run c (ADF p k f l r))
 | 0,l,r,h1,h2,h3,h4,h5=>⟨by show l<=k;lia,h4,λi a1 a2=>h5 i (by have a1':l<=i:=a1;lia) a2⟩
 | f+1,l,r,h1,h2,h3,h4,h5=>by
  show tR c p k (run c (if l ≥ r then .ret l else .ask (at_ p k) (at_ p ((l+r) / 2)) λc=>if c=true then ADF p k f l ((l+r) / 2)else ADF p k f ((l+r) / 2+1) r))
  by_cases hl:l ≥ r
  ·rw[if_pos hl]
   exact⟨by show l<=k;lia,h4,λi a1 a2=>h5 i (by have a1':l<=i:=a1;lia) a2⟩
  ·rw[if_neg hl]
   show tR c p k (run c (if c (at_ p k) (at_ p ((l+r) / 2))=true then ADF p k f l ((l+r) / 2)else ADF p k f ((l+r) / 2+1) r))
   by_cases hc:c (at_ p k) (at_ p ((l+r) / 2))=true
   ·rw[if_pos hc]
    refine kg O hu f l ((l+r) / 2) (by lia) (by lia) (by lia) h4 λi a1 a2=>?_
    rcases O.neg _ (at_ p i) _ hc with z | z
    ·exact z
    ·have:=hu ((l+r) / 2) i a1 a2
     unfold le at this
     rw[this]at z;cases z
   ·rw[if_neg hc]
    have lm:le c (at_ p ((l+r) / 2)) (at_ p k):=by unfold le;simpa using hc
    refine kg O hu f ((l+r) / 2+1) r (by lia) h2 (by lia) (λi hi=>?_) h5
    exact le_trans O (hu i ((l+r) / 2) (by lia) (by lia)) lm
theorem Aa(O:Ord c)(hk:k<p.size)(hu:Up c p k)(hm:m<=k)(h1:∀i,i<m->le c (at_ p i) (at_ p k))(h2:∀i,m<=i->i<k->c (at_ p k) (at_ p i)=true):Up c (bubble p k (k-m)) (k+1):=by
 intro i j hij hj
 have e:k-(k-m)=m:=by lia
 rw[rJ hk (by lia),rJ hk (by lia),e]
 by_cases hi:i=m
 ·rw[if_pos hi]
  by_cases hjm:j=m
  ·rw[if_pos hjm];exact le_refl O _
  ·rw[if_neg hjm,if_pos ⟨by lia,by lia⟩]
   exact le_of_lt O (h2 _ (by lia) (by lia))
 ·rw[if_neg hi]
  by_cases hi2:m<i/\i<=k
  ·rw[if_pos hi2,if_neg (by lia),if_pos ⟨by lia,by lia⟩]
   exact hu _ _ (by lia) (by lia)
  ·rw[if_neg hi2]
   by_cases hjm:j=m
   ·rw[if_pos hjm];exact h1 i (by lia)
   ·rw[if_neg hjm]
    by_cases hj2:m<j/\j<=k
    ·rw[if_pos hj2]
     exact hu _ _ (by lia) (by lia)
    ·rw[if_neg hj2]
     exact hu _ _ hij (by lia)
theorem Ad(O:Ord c):∀(f:Nat) (p:Array Nat) (k:Nat),k+f<=p.size->Up c p k->(run c (kas_bin f p k)).size=p.size/\Up c (run c (kas_bin f p k)) (k+f)
 | 0,p,k,_,h=>⟨rfl,h⟩
 | f+1,p,k,hz,h=>by
  show (run c ((ADF p k k 0 k).bind λl=>kas_bin f (bubble p k (k-l)) (k+1))).size=p.size/\Up c (run c ((ADF p k k 0 k).bind λl=>kas_bin f (bubble p k (k-l)) (k+1))) (k+(f+1))
  rw[eJ]
  obtain⟨a1,a2,a3⟩:=kg O h k 0 k (AAT _) (AAD _) (by lia) (λi hi=>absurd hi (ABx _)) λi a1 a2=>absurd a2 (by lia)
  obtain⟨b1,b2⟩:=Ad O f (bubble p k (k-run c (ADF p k k 0 k))) (k+1) (by rw[bubble_size];lia) (Aa O (by lia) h a1 a2 a3)
  exact⟨b1.trans (bubble_size _ _ _),by rw[show k+(f+1)=k+1+f by lia];exact b2⟩
theorem Dz(O:Ord c)(h1:1<=n):(run c (AEK n)).size=n/\Up c (run c (AEK n)) n:=by
 have hs:(AEL (AAe n)).size=n:=by simp
 unfold AEK
 rw[eJ]
 obtain⟨a1,a2,a3,a4⟩:=zT O (p:=AEL (AAe n)) h1 (by rw[hs];exact AAD _)
 rw[hs]at a1
 generalize run c (kas_count n (AEL (AAe n)))=r at a1 a2 a3 a4
 by_cases hl:r.1<n
 ·rw[if_pos hl]
  obtain⟨b1,b2⟩:=Ad O (n-max r.1 1) r.2 (max r.1 1) (by rw[a1];lia) (by rw[show max r.1 1=r.1 by lia];exact a2)
  exact⟨b1.trans a1,by rw[show n=max r.1 1+(n-max r.1 1) by lia];simpa using b2⟩
 ·rw[if_neg hl]
  have e1:r.1=n:=by lia
  rw[e1]at a2
  exact⟨a1,a2⟩
def Ent(n:Nat)(p:Array Nat):Prop:=p.toList.Perm (AAe n)
theorem Ent.lt(h:Ent n p)(h0:0<n)(k:Nat):at_ p k<n:=by
 unfold at_
 rw[AB8]
 cases e:p[k]? with
 | none=>simpa using h0
 | some x =>
  have:x∈p.toList:=by
   rw[←AAV]at e
   exact AAu e
  have:=h.mem_iff.mp this
  simpa using this
theorem Ent.rev(h:Ent n p):Ent n (AD9 p i j):=(Array.perm_iff_toList_perm.mp (mirror_perm p i j ((j-i) / 2))).trans h
theorem Ent.bub(h:Ent n p):Ent n (bubble p i j):=(Array.perm_iff_toList_perm.mp (bubble_perm p i j)).trans h
section
variable{n:Nat}(h0:0<n)
theorem Af(h0:0<n)(h:Ent n p):∀(f k:Nat),Bd n (ADp p f k)
 | 0,_=>trivial
 | f+1,k=>⟨h.lt h0 _,h.lt h0 _,λb=>by cases b with
  | true=>exact trivial
  | false=>exact Af h0 h f (k+1)⟩
theorem nY(h0:0<n):∀(f:Nat) (p:Array Nat) (k q:Nat),Ent n p->Bd n (AC1 f p k q)/\All (λr=>Ent n r.1) (AC1 f p k q)
 | 0,p,k,q,h=>⟨trivial,h⟩
 | f+1,p,k,q,h=>by
  have key:∀b,(Bd n (if b=true then(if q > 0 then AC1 f (AD9 p (k-(q+1)) k) (k+1) 0 else AC1 f p (k+1) 0)
    else KasT.ask (p.getD (k-1) 0) (p.getD k 0) λd=>if d=true then KasT.ret (p,k,q)else AC1 f p (k+1) (q+1)))/\All (λr=>Ent n r.1) (if b=true then(if q > 0 then AC1 f (AD9 p (k-(q+1)) k) (k+1) 0 else AC1 f p (k+1) 0)
    else KasT.ask (p.getD (k-1) 0) (p.getD k 0) λd=>if d=true then KasT.ret (p,k,q)else AC1 f p (k+1) (q+1)):=λb=>by
   cases b with
   | true =>
    rw[if_pos rfl]
    by_cases hq:q > 0
    ·rw[if_pos hq];exact nY h0 f _ _ _ h.rev
    ·rw[if_neg hq];exact nY h0 f _ _ _ h
   | false =>
    rw[if_neg (by simp)]
    have a:=nY h0 f p (k+1) (q+1) h
    refine⟨⟨h.lt h0 _,h.lt h0 _,λb=>?_⟩,λb=>?_⟩
    ·cases b with
     | true=>exact trivial
     | false=>exact a.1
    ·cases b with
     | true=>exact h
     | false=>exact a.2
  exact⟨⟨h.lt h0 _,h.lt h0 _,λb=>(key b).1⟩,λb=>(key b).2⟩
theorem iZ(h0:0<n)(h:Ent n p):Bd n (kas_tail3 k m p)/\All (λr=>Ent n r.2) (kas_tail3 k m p):=by
 have triv:∀{t:KasT Nat}{Q:Prop},Q->All (λ_=>Q) t:=λ{t Q} q=>by
  induction t with
  | ret a=>exact q
  | ask i j k ih=>exact λb=>ih b
 unfold kas_tail3
 exact⟨Bd.bindA _ (Af h0 h.rev _ _) (triv trivial),All.bind _ (triv h.rev)⟩
theorem dm(h0:0<n)(h:Ent n p):Bd n (ADz k m p)/\All (λr=>Ent n r.2) (ADz k m p):=by
 unfold ADz
 obtain⟨b1,b2⟩:=nY h0 (m-(k+1)) p (k+1) 0 h
 refine⟨Bd.bindA _ b1 (b2.mono (λr hr=>?_)),All.bind _ (b2.mono (λr hr=>?_))⟩
 ·by_cases hq:r.2.2 > 0
  ·rw[if_pos hq];exact(iZ h0 hr.rev).1
  ·rw[if_neg hq];exact(iZ h0 hr).1
 ·by_cases hq:r.2.2 > 0
  ·rw[if_pos hq];exact(iZ h0 hr.rev).2
  ·rw[if_neg hq];exact(iZ h0 hr).2
theorem Cn(h0:0<n)(h:Ent n p):Bd n (kas_count m p)/\All (λr=>Ent n r.2) (kas_count m p):=by
 have triv:∀{t:KasT Nat}{Q:Nat->Prop},(∀a,Q a)->All Q t:=λ{t Q} q=>by
  induction t with
  | ret a=>exact q a
  | ask i j k ih=>exact λb=>ih b
 unfold kas_count
 refine⟨Bd.bindA _ (Af h0 h _ _) (triv λk=>?_),All.bind _ (triv λk=>?_)⟩
 ·by_cases h1:(k==m)=true
  ·rw[if_pos h1];exact trivial
  ·rw[if_neg h1]
   by_cases h2:k > 1
   ·rw[if_pos h2]
    refine⟨h.lt h0 _,h.lt h0 _,λb=>?_⟩
    cases b with
    | true=>exact trivial
    | false=>exact(dm h0 h.rev).1
   ·rw[if_neg h2];exact(dm h0 h).1
 ·by_cases h1:(k==m)=true
  ·rw[if_pos h1];exact h
  ·rw[if_neg h1]
   by_cases h2:k > 1
   ·rw[if_pos h2]
    intro b
    cases b with
    | true=>exact h
    | false=>exact(dm h0 h.rev).2
   ·rw[if_neg h2];exact(dm h0 h).2
theorem nu(h0:0<n)(h:Ent n p):∀(f l r:Nat),Bd n (ADF p k f l r)
 | 0,_,_=>trivial
 | f+1,l,r=>by
  show Bd n (if l ≥ r then KasT.ret l else KasT.ask (p.getD k 0) (p.getD ((l+r) / 2) 0) λc=>if c=true then ADF p k f l ((l+r) / 2)else ADF p k f ((l+r) / 2+1) r)
  by_cases hl:l ≥ r
  ·rw[if_pos hl];exact trivial
  ·rw[if_neg hl]
   refine⟨h.lt h0 _,h.lt h0 _,λb=>?_⟩
   cases b with
   | true=>exact nu h0 h f _ _
   | false=>exact nu h0 h f _ _
theorem vb(h0:0<n):∀(f:Nat) (p:Array Nat) (k:Nat),Ent n p->Bd n (kas_bin f p k)/\All (λr=>Ent n r) (kas_bin f p k)
 | 0,p,k,h=>⟨trivial,h⟩
 | f+1,p,k,h=>by
  have triv:∀{t:KasT Nat}{Q:Nat->Prop},(∀a,Q a)->All Q t:=λ{t Q} q=>by
   induction t with
   | ret a=>exact q a
   | ask i j k ih=>exact λb=>ih b
  exact⟨Bd.bindA _ (nu h0 h _ _ _) (triv λl=>(vb h0 f _ _ h.bub).1),All.bind _ (triv λl=>(vb h0 f _ _ h.bub).2)⟩
theorem sort_bd(h0:0<n):Bd n (AEK n)/\All (λr=>Ent n r) (AEK n):=by
 have h:Ent n (AEL (AAe n)):=by unfold Ent;simp
 obtain⟨b1,b2⟩:=Cn h0 (m:=n) h
 unfold AEK
 refine⟨Bd.bindA _ b1 (b2.mono λr hr=>?_),All.bind _ (b2.mono λr hr=>?_)⟩
 ·by_cases hl:r.1<n
  ·rw[if_pos hl];exact(vb h0 _ _ _ hr).1
  ·rw[if_neg hl];exact trivial
 ·by_cases hl:r.1<n
  ·rw[if_pos hl];exact(vb h0 _ _ _ hr).2
  ·rw[if_neg hl];exact hr
end
theorem sort_list{α:Type}[Inhabited α]{lt:α->α->Bool}(xs:List α)(h1:1<=xs.length)(irr:∀a∈xs,lt a a=false)(tr:∀a∈xs,∀b∈xs,∀d∈xs,lt a b=true->lt b d=true->lt a d=true)
  (neg:∀a∈xs,∀b∈xs,∀d∈xs,lt a d=true->lt a b=true\/lt b d=true) :
  let c:=λi j=>if i<xs.length then(if j<xs.length then lt (xs.getD i default) (xs.getD j default)else true)else false
  let p:=run c (AEK xs.length)
  let ys:=p.toList.map λi=>xs.getD i default
  ys.Perm xs/\ys.Pairwise λa b=>lt b a=false:=by
 intro c p ys
 have mem:∀i,i<xs.length->xs.getD i default∈xs:=λi hi=>by
  rw[AAP,AA7 hi]
  exact AAo hi
 have O:Ord c:=by
  refine⟨λa=>?_,λa b d=>?_,λa b d=>?_⟩
  ·show (if a<xs.length then(if a<xs.length then lt _ _ else true)else false)=false
   by_cases ha:a<xs.length
   ·rw[if_pos ha,if_pos ha];exact irr _ (mem a ha)
   ·rw[if_neg ha]
  ·show (if a<xs.length then(if b<xs.length then lt _ _ else true)else false)=true->(if b<xs.length then(if d<xs.length then lt _ _ else true)else false)=true->(if a<xs.length then(if d<xs.length then lt _ _ else true)else false)=true
   by_cases ha:a<xs.length
   ·by_cases hb:b<xs.length
    ·by_cases hd:d<xs.length
     ·rw[if_pos ha,if_pos hb,if_pos hb,if_pos hd,if_pos ha,if_pos hd];exact tr _ (mem a ha) _ (mem b hb) _ (mem d hd)
     ·intro _ _;rw[if_pos ha,if_neg hd]
    ·rw[if_neg (show ¬b<xs.length from hb)]
     intro _ z
     rw[if_neg hb]at z;cases z
   ·intro z;rw[if_neg ha]at z;cases z
  ·show (if a<xs.length then(if d<xs.length then lt _ _ else true)else false)=true->(if a<xs.length then(if b<xs.length then lt _ _ else true)else false)=true\/(if b<xs.length then(if d<xs.length then lt _ _ else true)else false)=true
   by_cases ha:a<xs.length
   ·by_cases hb:b<xs.length
    ·by_cases hd:d<xs.length
     ·rw[if_pos ha,if_pos hd,if_pos ha,if_pos hb,if_pos hb,if_pos hd];exact neg _ (mem a ha) _ (mem b hb) _ (mem d hd)
     ·intro _;right;rw[if_pos hb,if_neg hd]
    ·intro _;left;rw[if_pos ha,if_neg hb]
   ·intro z;rw[if_neg ha]at z;cases z
 have hE:Ent xs.length p:=All.run _ (sort_bd (by lia)).2
 obtain⟨hs,hU⟩:=Dz O h1
 refine⟨?_,?_⟩
 ·have e:(AAe xs.length).map (λi=>xs.getD i default)=xs:=by
   apply List.ext_getElem?
   intro i
   rw[AAU]
   by_cases hi:i<xs.length
   ·rw[List.getElem?_range hi]
    simp[AAP,AA7 hi]
   ·rw[ABW (by simpa using hi),ABW (by simpa using hi)]
    rfl
  have:=hE.map λi=>xs.getD i default
  rw[e]at this
  exact this
 ·show (p.toList.map λi=>xs.getD i default).Pairwise λa b=>lt b a=false
  rw[List.pairwise_iff_getElem]
  intro i j hi hj hij
  rw[AA6,AAO]at hi hj
  have hs':p.size=xs.length:=hs
  have l:=hU i j (by lia) (by lia)
  have hl:∀k,at_ p k<xs.length:=λk=>hE.lt (by lia) k
  unfold le at l
  have l':(if at_ p j<xs.length then(if at_ p i<xs.length then lt (xs.getD (at_ p j) default) (xs.getD (at_ p i) default)else true)else false)=false:=l
  rw[if_pos (hl j),if_pos (hl i)]at l'
  have ai:p.toList[i]=at_ p i:=by unfold at_;simp[ACL,hi]
  have aj:p.toList[j]=at_ p j:=by unfold at_;simp[ACL,hj]
  rw[ACM,ACM,ai,aj]
  exact l'
end
end Srt
namespace L2
open PySem PySem.Spec PyProof.Rows DL
def wJ(A:Around)(s:Shared)(x y:Value)(k:Bool):Prop:=∀(prog:Program) (w:World) (E:Value->Shared->Prop) (Q:Value->Shared->Prop),Q (.bool k) s->wpAny (model prog w) A (richCompare .Lt x y) Q E s
inductive LexAt(A:Around)(s:Shared):List Value->List Value->Bool->Prop
 | nn:LexAt A s [] [] false
 | nc {y:Value}{ys:List Value}:LexAt A s [] (y::ys) true
 | cn {x:Value}{xs:List Value}:LexAt A s (x::xs) [] false
 | eq {x y:Value}{xs ys:List Value}{k:Bool} (h:ACq A s x y true) (t:LexAt A s xs ys k):LexAt A s (x::xs) (y::ys) k
 | ne {x y:Value}{xs ys:List Value}{k:Bool} (h:ACq A s x y false) (t:wJ A s x y k):LexAt A s (x::xs) (y::ys) k
section
open PySem.SeqAt
open PySem.AutoSeq1 (wpAny_loadPart')
open PySem.MeetsSeq PySem.MeetsSeq2 PySem.MeetsSeq3
theorem oU(l b:Addr)(items items2:Array Value)(n n2:Nat)(dd dd2:Option Addr)(sl sl2:Array (Option Value))(k:Bool) :
  Meets (Builtin.«tuple.__lt__» ⟨[.ref l,.ref b],[]⟩)
   (λA R s=>s.heap.get? l=some (⟨.type "tuple",dd,.seq items n,sl⟩:Obj)/\s.heap.get? b=some { cls:=.type "tuple",dict:=dd2,data:=.seq items2 n2,slots:=sl2 } /\
    LexAt A.in1 s items.toList items2.toList k/\R (.ok (.ret (.bool k))) s) :=
 .of_wp λprog w A R s h=>by
  obtain⟨hp,g,d,tk,os⟩:=s;obtain⟨hl,hb,hx,h⟩:=h
  have f2:=AutoSeq1.sub_tuple_tuple
  wp_walk using AE9 hl,AE9 hb,AC3 _ (λaN b s'=>b.1=none/\s'=⟨hp,g,d,tk,os⟩/\∃(vs ws:List Value),aN=vs.zip ws /\
   LexAt A.in1 ⟨hp,g,d,tk,os⟩ vs ws k/\vs.length+items2.size=ws.length+items.size) _
  case turn =>
   rintro⟨y,x⟩ aN b s' ⟨hb',rfl,vs,ws,hz,hlex,hlen⟩
   cases hlex with
   | nn=>cases hz
   | nc=>cases hz
   | cn=>cases hz
   | eq he t =>
    rw[ABK]at hz
    injection hz with hyx hrest
    injection hyx with hy hx
    subst hy hx
    refine AA0 (he prog w _ _ ?_)
    wp_walk
    exact⟨rfl,rfl,_,_,hrest,t,by simp only[AAA]at hlen;lia⟩
   | ne he t =>
    rw[ABK]at hz
    injection hz with hyx hrest
    injection hyx with hy hx
    subst hy hx
    refine AA0 (he prog w _ _ ?_)
    have hri:=t prog w
    wp_walk using hri
    exact⟨_,rfl,by simpa using h⟩
  case fin =>
   rintro⟨b1,b2⟩ s' ⟨hb',rfl,vs,ws,hz,hlex,hlen⟩
   simp only at hb'
   subst hb'
   have hv:k=decide (items.size<items2.size):=by
    cases hlex with
    | nn=>simp only[AAW]at hlen;exact(decide_eq_false (by lia)).symm
    | nc=>simp only[AAW,AAA]at hlen;exact(decide_eq_true (by lia)).symm
    | cn=>simp only[AAW,AAA]at hlen;exact(decide_eq_false (by lia)).symm
    | eq _ _=>rw[ABK]at hz;cases hz
    | ne _ _=>rw[ABK]at hz;cases hz
   rw[hv]at h
   wp_walk
   exact⟨_,rfl,by simpa [Builtin.Tuple.tupleCompareSizes]using h⟩
  case h =>
   exact⟨rfl,rfl,items.toList,items2.toList,rfl,hx,by simp;lia⟩
end
theorem wJ.tuples(hl:s.heap.IsTuple l items)(hb:s.heap.IsTuple b items2)(hu:A.units<cLine)(hx:LexAt A.in1 s items.toList items2.toList k):wJ A s (.ref l) (.ref b) k:=λprog w E Q h=>by
 obtain⟨⟨cls,dd,data,sl⟩,ho,hc,n,hd⟩:=id hl
 obtain⟨⟨cls2,dd2,data2,sl2⟩,ho2,hc2,n2,hd2⟩:=id hb
 simp only at hc hd hc2 hd2
 subst hc hd hc2 hd2
 exact richCompare_meets_room (op:=.Lt) ⟨_,ho,rfl⟩ ⟨_,ho2,rfl⟩ PySem.F.slot_tuple_lt PySem.F.entry_tuple_lt (PySem.F.args_tuple_lt_2 _ _) (oU l b items items2 n n2 dd dd2 sl sl2 k)
  ⟨ho,ho2,hx,show AD3 k≠Value.notImplemented/\Q (.bool k) s from⟨(λx=>nomatch x),h⟩⟩ hu
end L2
namespace L2
open PySem PySem.Spec PyProof.Rows DL
def sO(f g:D->D->Bool):List D->List D->Bool
 | [],[]=>false
 | [],_::_=>true
 | _::_,[]=>false
 | x::xs,y::ys=>if f x y=true then sO f g xs ys else g x y
def ltD(M:Mem):Nat->D->D->Bool
 | _,.int a,.int b=>decide (a<b)
 | _,.str a,.str b=>bt a b
 | n+1,.tup xs,.tup ys=>sO (eqD M n) (ltD M n) xs ys
 | _,_,_=>false
def Ao(f g:D->D->Bool):List D->List D->Bool
 | x::xs,y::ys=>if f x y=true then Ao f g xs ys else g x y
 | _,_=>true
def iQ(M:Mem):Nat->D->D->Bool
 | _,.int _,.int _=>true
 | _,.str _,.str _=>true
 | n+1,.tup xs,.tup ys=>Ao (eqD M n) (iQ M n) xs ys
 | _,_,_=>false
theorem wJ.ints(A:Around)(s:Shared)(a:Int)(t:Tok)(c:Int)(u:Tok):wJ A s (.int a t) (.int c u) (decide (a<c)):=λprog w E Q h=>HT.rcLt_int A s a t c u prog w E Q h
theorem wJ.texts(A:Around)(s:Shared)(a:Str)(t:Tok)(c:Str)(u:Tok):wJ A s (.str a t) (.str c u) (bt a c):=λprog w E Q h =>
 (PySem.P.lt_str (show Q (.bool (decide (a.cps.toList<c.cps.toList))) s from h):wpAny (model prog w) A (compareOp .Lt (.str a t) (.str c u)) Q E s)
section
variable{X:Cx}{pins:List (Addr×Obj)}{σ:St}{H:Hp}{s:Shared}{ρ:List Addr}{M:Mem}
theorem yK(I:Inv X pins σ H s)(sm:Sim X.K ρ M H):∀(n:Nat) (A:Around) (x y:D) (vx vy:V) (u v:Value),A.units+n<cLine->Rep X.K ρ H x vx->aK vx u->Rep X.K ρ H y vy->aK vy v->okD M n x=true->okD M n y=true->iQ M n x y=true ->
  wJ A s u v (ltD M n x y):=by
 intro n
 induction n with
 | zero =>
  intro A x y vx vy u v hu r1 e1 r2 e2 o1 o2 cm
  cases r1 with
  | int a =>
   cases r2 with
   | int b=>obtain⟨t,rfl⟩:=e1;obtain⟨t',rfl⟩:=e2;exact wJ.ints A s a t b t'
   | _=>simp[iQ]at cm
  | str a =>
   cases r2 with
   | str b=>obtain⟨t,rfl⟩:=e1;obtain⟨t',rfl⟩:=e2;exact wJ.texts A s a t b t'
   | _=>simp[iQ]at cm
  | _=>simp[iQ]at cm
 | succ n ih =>
  intro A x y vx vy u v hu r1 e1 r2 e2 o1 o2 cm
  have hu0:A.units<cLine:=by lia
  have hu1:A.in1.units+n<cLine:=by show A.units+1+n<cLine;lia
  have lex:∀(ds es:List D) (vs ws:List V) (its jts:List Value),Reps X.K ρ H ds vs->ax vs its->Reps X.K ρ H es ws->ax ws jts->ds.all (okD M n)=true->es.all (okD M n)=true->Ao (eqD M n) (iQ M n) ds es=true ->
    LexAt A.in1 s its jts (sO (eqD M n) (ltD M n) ds es):=by
   intro ds
   induction ds with
   | nil =>
    intro es vs ws its jts p1 q1 p2 q2 _ _ _
    cases p1;cases q1
    cases p2 with
    | nil=>cases q2;exact .nn
    | cons _ _=>cases q2;exact .nc
   | cons d ds hi =>
    intro es vs ws its jts p1 q1 p2 q2 k1 k2 k3
    cases p1 with
    | cons a1 p1 =>
     cases q1 with
     | cons b1 q1 =>
      cases p2 with
      | nil=>cases q2;exact .cn
      | @cons e _ es' _ a2 p2 =>
       cases q2 with
       | cons b2 q2 =>
        rw[ABF,AAC]at k1 k2
        have he:=(lc I sm n A.in1 d _ _ _ _ _ hu1 a1 b1 a2 b2 k1.1 k2.1).1
        rw[sO]
        rw[Ao]at k3
        by_cases hq:eqD M n d e=true
        ·rw[hq]at he
         rw[if_pos hq]at k3 ⊢
         exact .eq he (hi _ _ _ _ _ p1 q1 p2 q2 k1.2 k2.2 k3)
        ·have hq':=ABr.mpr hq
         rw[hq']at he
         rw[if_neg hq]at k3 ⊢
         exact .ne he (ih A.in1 _ _ _ _ _ _ hu1 a1 b1 a2 b2 k1.1 k2.1 k3)
  cases r1 with
  | int a =>
   cases r2 with
   | int b=>obtain⟨t,rfl⟩:=e1;obtain⟨t',rfl⟩:=e2;exact wJ.ints A s a t b t'
   | _=>simp[iQ]at cm
  | str a =>
   cases r2 with
   | str b=>obtain⟨t,rfl⟩:=e1;obtain⟨t',rfl⟩:=e2;exact wJ.texts A s a t b t'
   | _=>simp[iQ]at cm
  | tup hq r =>
   cases r2 with
   | tup hq' r' =>
    cases e1;cases e2
    obtain⟨its,rr,pl,_⟩:=I.tuple hq
    obtain⟨jts,rr',pl',_⟩:=I.tuple hq'
    refine wJ.tuples pl pl' hu0 ?_
    exact lex _ _ _ _ _ _ r rr r' rr' (by simpa [okD]using o1) (by simpa [okD]using o2) cm
   | _=>simp[iQ]at cm
  | _=>simp[iQ]at cm
end
def GS:DR2:=λx y M Q=>match x,y with
 | .tup xs,.tup ys=>(okD M eqN (.tup xs)=true/\okD M eqN (.tup ys)=true/\iQ M eqN (.tup xs) (.tup ys)=true)/\Q (.bl (ltD M eqN (.tup xs) (.tup ys))) M
 | _,_=>qLt x y M Q
theorem HQ(hr:Room k X.A):OpD X (compareOp .Lt) GS:=by
 intro pins s σ H vx vy v u R I rx ry ⟨x,y,M,ρ,Q,sm,r1,r2,q,k⟩
 unfold GS at q
 split at q
 ·obtain⟨⟨o1,o2,o3⟩,q⟩:=q
  exact yK I sm eqN X.A _ _ vx vy v u (mU hr) r1 rx r2 ry o1 o2 o3 _ _ _ _ (eE I sm k q)
 ·exact HR pins s σ H vx vy v u R I rx ry ⟨x,y,M,ρ,Q,sm,r1,r2,q,k⟩
def okP:Nat->D->Bool
 | _,.int _=>true
 | _,.str _=>true
 | n+1,.tup xs=>xs.all (okP n)
 | _,_=>false
def Gm(f:D->List Int):List D->List Int
 | []=>[0]
 | x::xs=>1::(f x++Gm f xs)
def enc:Nat->D->List Int
 | _,.int i=>[0,i]
 | _,.str x=>1::(x.cps.toList.map (λ(c:Nat)=>(c:Int)+1)++[0])
 | n+1,.tup xs=>2::Gm (enc n) xs
 | _,_=>[3]
def bP(x y:List Int):Prop:=∀a b,x++a<y++b
theorem bP.cons(i:Int)(h:bP x y):bP (i::x) (i::y):=λa b=>AB0.mpr (.inr ⟨rfl,h a b⟩)
theorem bP.head(x y:List Int)(h:i<j):bP (i::x) (j::y):=λa b=>AB0.mpr (.inl h)
theorem bP.lt(h:bP x y):x<y:=by have:=h [] [];simpa using this
theorem bP.pre(z:List Int)(h:bP x y):bP (z++x) (z++y):=by
 induction z with
 | nil=>exact h
 | cons i z ih=>exact ih.cons i
theorem bP.more(u v:List Int)(h:bP x y):bP (x++u) (y++v):=λa b=>by
 rw[ABS,ABS]
 exact h _ _
def Tri(x y:D)(n:Nat)(l:Bool)(r:Bool):Prop:=(x=y/\l=false/\r=false)\/(x≠y/\l=true/\r=false/\bP (enc n x) (enc n y))\/(x≠y/\l=false/\r=true/\bP (enc n y) (enc n x))
theorem rz:∀(x y:List Nat),(x=y)\/(x<y/\¬y<x/\bP (x.map (λ(c:Nat)=>(c:Int)+1)++[0]) (y.map (λ(c:Nat)=>(c:Int)+1)++[0]))\/(¬x<y/\y<x/\bP (y.map (λ(c:Nat)=>(c:Int)+1)++[0]) (x.map (λ(c:Nat)=>(c:Int)+1)++[0]))
 | [],[]=>.inl rfl
 | [],c::y=>.inr (.inl ⟨List.nil_lt_cons _ _,List.not_lt_nil _,bP.head _ _ (by dsimp only;lia)⟩)
 | c::x,[]=>.inr (.inr ⟨List.not_lt_nil _,List.nil_lt_cons _ _,bP.head _ _ (by dsimp only;lia)⟩)
 | c::x,e::y=>by
  rcases ACd c e with h | h | h
  ·refine .inr (.inl ⟨AB0.mpr (.inl h),λz=>?_,bP.head _ _ (by dsimp only;lia)⟩)
   rcases AB0.mp z with z | ⟨z,_⟩<;>lia
  ·subst h
   rcases rz x y with q | ⟨q1,q2,q3⟩|⟨q1,q2,q3⟩
   ·exact .inl (by rw[q])
   ·refine .inr (.inl ⟨AB0.mpr (.inr ⟨rfl,q1⟩),λz=>?_,q3.cons _⟩)
    rcases AB0.mp z with z | ⟨_,z⟩
    ·lia
    ·exact q2 z
   ·refine .inr (.inr ⟨λz=>?_,AB0.mpr (.inr ⟨rfl,q2⟩),q3.cons _⟩)
    rcases AB0.mp z with z | ⟨_,z⟩
    ·lia
    ·exact q1 z
  ·refine .inr (.inr ⟨λz=>?_,AB0.mpr (.inl h),bP.head _ _ (by dsimp only;lia)⟩)
   rcases AB0.mp z with z | ⟨z,_⟩<;>lia
theorem Ji(M:Mem):∀(n:Nat) (x y:D),okP n x=true->okP n y=true->(eqD M n x y=true↔x=y):=by
 have all:∀(n:Nat),(∀(x y:D),okP n x=true->okP n y=true->(eqD M n x y=true↔x=y))->∀(xs ys:List D),xs.all (okP n)=true->ys.all (okP n)=true->(eqL (eqD M n) xs ys=true↔xs=ys):=by
  intro n ih xs
  induction xs with
  | nil=>intro ys _ _;cases ys<;>simp[eqL]
  | cons x xs hi =>
   intro ys h1 h2
   cases ys with
   | nil=>simp[eqL]
   | cons y ys =>
    rw[ABF,AAC]at h1 h2
    rw[eqL,AAC,ih x y h1.1 h2.1,hi ys h1.2 h2.2,AED]
 intro n
 induction n with
 | zero =>
  intro x y h1 h2
  cases x<;>simp[okP]at h1<;>cases y<;>simp[okP]at h2<;>simp[eqD]
 | succ n ih =>
  intro x y h1 h2
  cases x with
  | int a=>cases y<;>simp[okP]at h2<;>simp[eqD]
  | str a=>cases y<;>simp[okP]at h2<;>simp[eqD]
  | tup xs =>
   cases y with
   | tup ys =>
    simp only[eqD,D.tup.injEq]
    exact all n ih xs ys (by simpa [okP]using h1) (by simpa [okP]using h2)
   | int a=>simp[eqD]
   | str a=>simp[eqD]
   | _=>simp[okP]at h2
  | _=>simp[okP]at h1
theorem HL(M:Mem):∀(n:Nat) (x:D),okP n x=true->okD M n x=true:=by
 intro n
 induction n with
 | zero=>intro x h;cases x<;>simp[okP]at h<;>rfl
 | succ n ih =>
  intro x h
  cases x with
  | int a=>rfl
  | str a=>rfl
  | tup xs =>
   simp only[okD]
   rw[AAK]
   intro y hy
   exact ih y (AAK.mp (show xs.all (okP n)=true from h) y hy)
  | _=>simp[okP]at h
theorem tri_D(M:Mem):∀(n:Nat) (x y:D),okP n x=true->okP n y=true->iQ M n x y=true->Tri x y n (ltD M n x y) (ltD M n y x):=by
 have base:∀(n:Nat) (a b:Int),Tri (.int a) (.int b) n (decide (a<b)) (decide (b<a)):=λn a b=>by
  have e:∀a,enc n (.int a)=[0,a]:=λa=>by cases n<;>rfl
  rcases Int.lt_trichotomy a b with h | h | h
  ·exact .inr (.inl ⟨by simp;lia,decide_eq_true h,decide_eq_false (by lia),by rw[e,e];exact(bP.head [] [] h).cons 0⟩)
  ·subst h;exact .inl ⟨rfl,decide_eq_false (by lia),decide_eq_false (by lia)⟩
  ·exact .inr (.inr ⟨by simp;lia,decide_eq_false (by lia),decide_eq_true h,by rw[e,e];exact(bP.head [] [] h).cons 0⟩)
 have bases:∀(n:Nat) (a b:Str),Tri (.str a) (.str b) n (bt a b) (bt b a):=λn a b=>by
  have e:∀a:Str,enc n (.str a)=1::(a.cps.toList.map (λ(c:Nat)=>(c:Int)+1)++[0]):=λa=>by cases n<;>rfl
  unfold bt
  rcases rz a.cps.toList b.cps.toList with h | ⟨h1,h2,h3⟩|⟨h1,h2,h3⟩
  ·have:a=b:=xD h
   subst this
   exact .inl ⟨rfl,decide_eq_false (ADG _),decide_eq_false (ADG _)⟩
  ·exact .inr (.inl ⟨λz=>by cases z;exact h2 h1,decide_eq_true h1,decide_eq_false h2,by rw[e,e];exact h3.cons 1⟩)
  ·exact .inr (.inr ⟨λz=>by cases z;exact h1 h2,decide_eq_false h1,decide_eq_true h2,by rw[e,e];exact h3.cons 1⟩)
 intro n
 induction n with
 | zero =>
  intro x y h1 h2 h3
  cases x<;>simp[okP]at h1<;>cases y<;>simp[okP]at h2<;>first | exact base 0 _ _ | exact bases 0 _ _ | simp[iQ]at h3
 | succ n ih =>
  intro x y h1 h2 h3
  have lists:∀(xs ys:List D),xs.all (okP n)=true->ys.all (okP n)=true->Ao (eqD M n) (iQ M n) xs ys=true ->
    (xs=ys/\sO (eqD M n) (ltD M n) xs ys=false/\sO (eqD M n) (ltD M n) ys xs=false) \/
    (xs≠ys/\sO (eqD M n) (ltD M n) xs ys=true/\sO (eqD M n) (ltD M n) ys xs=false/\bP (Gm (enc n) xs) (Gm (enc n) ys)) \/
    (xs≠ys/\sO (eqD M n) (ltD M n) xs ys=false/\sO (eqD M n) (ltD M n) ys xs=true/\bP (Gm (enc n) ys) (Gm (enc n) xs)):=by
   intro xs
   induction xs with
   | nil =>
    intro ys _ _ _
    cases ys with
    | nil=>exact .inl ⟨rfl,rfl,rfl⟩
    | cons y ys=>exact .inr (.inl ⟨by simp,rfl,rfl,bP.head _ _ (by decide)⟩)
   | cons x xs hi =>
    intro ys h1 h2 h3
    cases ys with
    | nil=>exact .inr (.inr ⟨by simp,rfl,rfl,bP.head _ _ (by decide)⟩)
    | cons y ys =>
     rw[ABF,AAC]at h1 h2
     rw[Ao]at h3
     have qe:=Ji M n x y h1.1 h2.1
     have qe':=Ji M n y x h2.1 h1.1
     rw[sO,sO]
     by_cases hq:x=y
     ·subst hq
      rw[if_pos (qe.mpr rfl)]at h3
      rw[if_pos (qe.mpr rfl),if_pos (qe.mpr rfl)]
      rcases hi ys h1.2 h2.2 h3 with⟨a1,a2,a3⟩|⟨a1,a2,a3,a4⟩|⟨a1,a2,a3,a4⟩
      ·exact .inl ⟨by rw[a1],a2,a3⟩
      ·exact .inr (.inl ⟨λz=>a1 (AEU z).2,a2,a3,(a4.pre (enc n x)).cons 1⟩)
      ·exact .inr (.inr ⟨λz=>a1 (AEU z).2,a2,a3,(a4.pre (enc n x)).cons 1⟩)
     ·have n1:¬eqD M n x y=true:=λz=>hq (qe.mp z)
      have n2:¬eqD M n y x=true:=λz=>hq (qe'.mp z).symm
      rw[if_neg n1]at h3
      rw[if_neg n1,if_neg n2]
      rcases ih x y h1.1 h2.1 h3 with⟨a1,_⟩|⟨a1,a2,a3,a4⟩|⟨a1,a2,a3,a4⟩
      ·exact absurd a1 hq
      ·exact .inr (.inl ⟨λz=>hq (AEU z).1,a2,a3,(a4.more _ _).cons 1⟩)
      ·exact .inr (.inr ⟨λz=>hq (AEU z).1,a2,a3,(a4.more _ _).cons 1⟩)
  cases x with
  | int a=>cases y<;>simp[okP]at h2<;>first | exact base (n+1) _ _ | simp[iQ]at h3
  | str a=>cases y<;>simp[okP]at h2<;>first | exact bases (n+1) _ _ | simp[iQ]at h3
  | tup xs =>
   cases y with
   | tup ys =>
    rcases lists xs ys (by simpa [okP]using h1) (by simpa [okP]using h2) h3 with⟨a1,a2,a3⟩|⟨a1,a2,a3,a4⟩|⟨a1,a2,a3,a4⟩
    ·exact .inl ⟨by rw[a1],a2,a3⟩
    ·exact .inr (.inl ⟨λz=>a1 (D.tup.inj z),a2,a3,a4.cons 2⟩)
    ·exact .inr (.inr ⟨λz=>a1 (D.tup.inj z),a2,a3,a4.cons 2⟩)
   | _=>simp[iQ]at h3
  | _=>simp[okP]at h1
theorem Ey(h1:okP n x=true)(h2:okP n y=true)(h3:iQ M n x y=true):ltD M n x y=decide (enc n x<enc n y):=by
 rcases tri_D M n x y h1 h2 h3 with⟨a1,a2,a3⟩|⟨a1,a2,a3,a4⟩|⟨a1,a2,a3,a4⟩
 ·subst a1;rw[a2,decide_eq_false (ADG _)]
 ·rw[a2,decide_eq_true a4.lt]
 ·rw[a2,decide_eq_false (λz=>ADG _ (List.lt_trans z a4.lt))]
end L2
namespace L2
open PySem PySem.Spec PyProof.Rows DL PySem.W
section
variable{X:Cx}{pins:List (Addr×Obj)}{σ:St}{H:Hp}{s:Shared}
theorem Inv.laidF(I:Inv X pins σ H s)(k:∀b u,b≠X.env.locals->s.heap.get? b=some u->h'.get? b=some u)(hn:s.heap.Ns X.env.locals m)(hn':h'.Ns X.env.locals m)
  (hp:s.heap.get? a=none) (fa:H a=none) (new:bJ X.prog X.w (upd H a o) h' a o):Inv X pins σ (upd H a o) { s with heap:=h',toks:=t' }:=by
 have nea:∀b u,s.heap.get? b=some u->b≠a:=λb u e z=>by subst z;rw[hp]at e;cases e
 refine I.step (g':=s.gens) (d':=s.drawn) (ch:=[]) (λ_ z=>nomatch z) (λb u hL _ _ e _=>k b u hL e) (λb u hL _ _ e _=>⟨u.slots,k b u hL e⟩) (λb u _ e n=>by rw[av (nea b u e)];exact n) (λb u _ e=>?_)
  (λb xs q=>by rw[av (ad q fa)];exact q) (λb u xs q=>by rw[av (ad q fa)];exact q) (λb ps q=>⟨#[],by rw[av (ad q fa),q];simp⟩) (λm' hm=>?_) (λb w q=>?_) I.bare
 ·by_cases hb:b=X.env.locals
  ·subst hb
   obtain⟨o',_,_,ho,_⟩:=hn'
   exact⟨o',ho⟩
  ·exact⟨u,k b u hb e⟩
 ·have:m=m':=funext λx=>hn.agree hm x
  subst this
  exact hn'
 ·by_cases hb:b=a
  ·subst hb
   rw[aV]at q
   cases q
   exact new
  ·rw[av hb]at q
   refine(I.hok b w q).stay (λc v hc r=>k c v ?_ r) (λc z=>by rw[av (ad z fa)];exact z) λc xs z=>by rw[av (ad z fa)];exact z
   rcases hc with rfl | hc
   ·exact ad q I.free
   ·exact ad hc I.free
theorem Inv.keptF(I:Inv X pins σ H s)(k:∀b u,b≠X.env.locals->s.heap.get? b=some u->h'.get? b=some u)(hn:s.heap.Ns X.env.locals m)(hn':h'.Ns X.env.locals m):Inv X pins σ H { s with heap:=h',toks:=t' }:=by
 refine I.step (g':=s.gens) (d':=s.drawn) (ch:=[]) (λ_ z=>nomatch z) (λb u hL _ _ e _=>k b u hL e) (λb u hL _ _ e _=>⟨u.slots,k b u hL e⟩) (λb u _ e n=>n) (λb u _ e=>?_)
  (λb xs q=>q) (λb u xs q=>q) (λb ps q=>⟨#[],by rw[q];simp⟩) (λm' hm=>?_) (λb w q=>?_) I.bare
 ·by_cases hb:b=X.env.locals
  ·subst hb
   obtain⟨o',_,_,ho,_⟩:=hn'
   exact⟨o',ho⟩
  ·exact⟨u,k b u hb e⟩
 ·have:m=m':=funext λx=>hn.agree hm x
  subst this
  exact hn'
 ·refine(I.hok b w q).stay (λc v hc r=>k c v ?_ r) (λc z=>z) λc xs z=>z
  rcases hc with rfl | hc
  ·exact ad q I.free
  ·exact ad hc I.free
end
section
variable{prog:Program}{w:World}{A:Around}{E:Value->Shared->Prop}{s:Shared}
theorem pX{l:Addr}{vs:List Value}{Q:Value->Shared->Prop}(hl:s.heap.IsList l vs.toArray)(h2:vs.length<2)
  (h:∀D h' n,s.heap.objs.size<=D->(∀b o,s.heap.get? b=some o->h'.get? b=some o)->h'.get? D=some { cls:=.type "list",data:=.seq vs.toArray n }->Q (.ref D) { s with heap:=h' }) :
  wpAny (model prog w) A (call (.builtin "sorted") ([AB3 l])) Q E s:=by
 have few:vs.length<=sizeLine:=by rw[ABl];lia
 refine Calls.call_function_entry kind_sorted plain_sorted entry_sorted (args_sorted1 (.ref l)) ?_
 unfold Builtin.«sorted»
 refine AA0 (m:=checkCount "sorted" 1 1 _) (AA3 (AA0 (collect_list hl (AA0 (AE6 ?_ few)) few)))
 generalize hg:((s.heap.push (seqObj "list" #[] 0)).update s.heap.objs.size (ABZ (· ++ vs.toArray)))=g1
 have hsz:g1.objs.size=s.heap.objs.size+1:=by rw[←hg,Heap.size_update,size_push']
 have k1:∀b o,s.heap.get? b=some o->g1.get? b=some o:=λb o q=>by
  have hlt:=AAG q
  rw[←hg,ACk _ _ _ _ (AAQ hlt),Heap.get?_push_ne _ _ _ (AAQ hlt)]
  exact q
 show wpAny _ _ _ _ _ { s with heap:=g1.push (seqObj "list" vs.toArray 0) }
 have hoL:(g1.push (seqObj "list" vs.toArray 0)).get? g1.objs.size=some (seqObj "list" vs.toArray 0):=AAE _ rfl
 refine AA0 (AAp (AAn slot_list_sort (⟨_,hoL,rfl⟩) entry_list_sort ?body (args_list_sort (.ref _))))
 case body =>
  rw[list_sort_plain]
  refine AA0 (listItems_at hoL rfl ?_)
  refine AA0 (listUpdate_at hoL rfl ?_ (by rw[AAB,ABl];lia) (AAT _))
  obtain⟨e1,ho1⟩:∃e1,((g1.push (seqObj "list" vs.toArray 0)).update g1.objs.size (ABZ λ_=>(#[]:Array Value))).get? g1.objs.size=some (seqObj "list" #[] e1):=⟨_,AEE hoL λ_=>#[]⟩
  refine AA0 (seqEpoch_at ho1 rfl (AA0 (wpAny_newTuple (AA0 (AE6 (AAp ?_) (AAT _))) few)))
  dsimp only
  have hv2:vs.toArray.size<2:=by rw[AAB];exact h2
  rw[if_pos hv2,if_pos hv2]
  refine AA0 (AA3 ?_)
  rw[StateT.run_pure]
  refine AA0 (AA3 ?_)
  dsimp only
  generalize hg3:(((g1.push (seqObj "list" vs.toArray 0)).update g1.objs.size (ABZ λ_=>(#[]:Array Value))).push (seqObj "tuple" vs.toArray 0)).push (seqObj "list" #[] 0)=g3
  have ho3:g3.get? g1.objs.size=some (seqObj "list" #[] e1):=by rw[←hg3];exact AA4 _ (AA4 _ ho1)
  have k3:∀b o,b≠g1.objs.size->s.heap.get? b=some o->g3.get? b=some o:=λb o hb q=>by
   have q1:=k1 b o q
   rw[←hg3]
   refine AA4 _ (AA4 _ ?_)
   rw[ACk _ _ _ _ hb]
   exact AA4 _ q1
  refine AA0 (seqEpoch_at ho3 rfl ?_)
  have eo:∀us:List Value,us.length<2->(us.toArray.zip us.toArray).map (·.2)=us.toArray:=λus hu=>by
   match us,hu with
   | [],_=>simp
   | [v],_=>simp
   | _::_::_,hu=>simp at hu;lia
  have eout:(arrOf (SortSt.mk' general' (vs.toArray.zip vs.toArray) #[] 7 none)).map (·.2)=vs.toArray:=eo vs h2
  rw[eout]
  refine AA0 (listUpdate_at ho3 rfl ?_ (AAT _) (by rw[AAB,ABl];lia))
  simp only[show failedOf (SortSt.mk' general' (vs.toArray.zip vs.toArray) #[] 7 none)=none from rfl,bne_self_eq_false,AAF,if_false]
  refine AA3 ⟨_,rfl,AA3 ⟨_,rfl,?_⟩⟩
  obtain⟨c2,hc2⟩:∃c2,(g3.update g1.objs.size (ABZ λ_=>vs.toArray)).get? g1.objs.size=some (seqObj "list" vs.toArray c2):=⟨_,AEE ho3 λ_=>vs.toArray⟩
  refine h g1.objs.size _ c2 (by lia) (λb o q=>?_) hc2
  have hb:b≠g1.objs.size:=AAQ (by rw[hsz];exact AC9 (AAG q))
  rw[ACk _ _ _ _ hb]
  exact k3 b o hb q
end
structure SrtOk(M:Mem)(xs:List D):Prop where
 len:xs.length<64
 ok:∀x∈xs,okP eqN x=true
 cm:∀x∈xs,∀y∈xs,iQ M eqN x y=true
 kd:(∀x∈xs,∃z,x=.str z)\/(∀x∈xs,∃i,x=.int i)\/(∀x∈xs,∃z r,x=.tup (.str z::r))\/(∀x∈xs,∃i r,x=.tup (.int i::r))\/(∀x∈xs,∃z r,x=.tup (.tup z::r))
structure SrtG(M:Mem)(xs:List D):Prop where
 len:xs.length<64
 okd:∀x∈xs,okD M eqN x=true
 cm:∀x∈xs,∀y∈xs,iQ M eqN x y=true
 kd:(∀x∈xs,∃z,x=.str z)\/(∀x∈xs,∃i,x=.int i)\/(∀x∈xs,∃z r,x=.tup (.str z::r))\/(∀x∈xs,∃i r,x=.tup (.int i::r))\/(∀x∈xs,∃z r,x=.tup (.tup z::r))
 od:∃en:D->List Int,∀a∈xs,∀b∈xs,ltD M eqN a b=decide (en a<en b)
theorem SrtOk.g(so:SrtOk M xs):SrtG M xs :=
 ⟨so.len,λx hx=>HL M _ _ (so.ok x hx),so.cm,so.kd,enc eqN,λa ha b hb=>Ey (so.ok a ha) (so.ok b hb) (so.cm a ha b hb)⟩
def wN(M:Mem)(ys:List D):Prop:=ys.Pairwise λa b=>ltD M eqN b a=false
def xT:DRA:=λds M Q=>match ds with
 | [.ref n]=>∃xs,al M n xs/\SrtG M xs/\∀ys,ys.Perm xs->wN M ys->Q (.ref M.length) (M++[.lst ys])
 | _=>False
theorem Reps.perm{K:AA5}{ρ:List Addr}{H:Hp}{ds:List D}{vs:List V}(r:Reps K ρ H ds vs)(is:List Nat)(hi:∀i∈is,i<ds.length):Reps K ρ H (is.map λi=>ds.getD i .non) (is.map λi=>vs.getD i .non):=by
 induction is with
 | nil=>exact .nil
 | cons i is ih =>
  have h:=hi i AAI
  obtain⟨v,e,rv⟩:=r.get (AA7 h)
  refine .cons ?_ (ih λj hj=>hi j (AA9 _ hj))
  show Rep K ρ H (ds.getD i .non) (vs.getD i .non)
  rw[AAP,AAP,e,AA7 h]
  exact rv
theorem ax.perm(r:ax vs us)(is:List Nat)(hi:∀i∈is,i<vs.length):ax (is.map λi=>vs.getD i .non) (is.map λi=>us.getD i .none):=by
 induction is with
 | nil=>exact .nil
 | cons i is ih =>
  have h:=hi i AAI
  obtain⟨v,e,rv⟩:=fQ r (AA7 h)
  refine .cons ?_ (ih λj hj=>hi j (AA9 _ hj))
  show aK (vs.getD i .non) (us.getD i .none)
  rw[AAP,AAP,e,AA7 h]
  exact rv
instance:Inhabited D:=⟨.non⟩
section
variable{X:Cx}{pins:List (Addr×Obj)}{σ:St}{H:Hp}{s:Shared}{ρ:List Addr}{M:Mem}
theorem Ew:∀(o:HO),bJ P w H h a o->∃u,h.get? a=some u
 | .lst _,⟨_,_,_,_,e⟩=>⟨_,e⟩
 | .tup _,⟨_,_,_,o,e,_⟩=>⟨o,e⟩
 | .dK _,⟨_,_,_,_,_,_,_,e,_⟩=>⟨_,e⟩
 | .dT _,⟨_,_,_,_,o,_,_,e,_⟩=>⟨o,e⟩
 | .set _ _,x=>by obtain⟨o,_,_,_,e,_⟩:=x;exact⟨_,e⟩
 | .ins _ _ _,⟨_,_,_,e,_⟩=>⟨_,e⟩
 | .own _,x=>x
 | .xd _,⟨_,⟨_,_,_,e,_⟩,_⟩=>⟨_,e⟩
 | .rng _ _,⟨_,_,_,e⟩=>⟨_,e⟩
 | .frz _ _,⟨e,_⟩=>⟨_,e⟩
 | .tbl _,e=>⟨_,e⟩
 | .met _ _,e=>⟨_,e⟩
 | .ext _,⟨_,e,_⟩=>e
theorem HOk.none(x:HOk P w H h)(e:h.get? a=none):H a=none:=by
 cases q:H a with
 | none=>rfl
 | some o =>
  exfalso
  obtain⟨u,hu⟩:=Ew o (x a o q)
  rw[e]at hu;cases hu
theorem EA(I:Inv X pins σ H s)(sm:Sim X.K ρ M H)(n:Nat)(A:Around)(hu:A.units+n<cLine):∀(ds es:List D) (vs ws:List V) (its jts:List Value),Reps X.K ρ H ds vs->ax vs its->Reps X.K ρ H es ws->ax ws jts->ds.all (okD M n)=true->es.all (okD M n)=true ->
  Ao (eqD M n) (iQ M n) ds es=true->LexAt A s its jts (sO (eqD M n) (ltD M n) ds es):=by
 intro ds
 induction ds with
 | nil =>
  intro es vs ws its jts p1 q1 p2 q2 _ _ _
  cases p1;cases q1
  cases p2 with
  | nil=>cases q2;exact .nn
  | cons _ _=>cases q2;exact .nc
 | cons d ds hi =>
  intro es vs ws its jts p1 q1 p2 q2 k1 k2 k3
  cases p1 with
  | cons a1 p1 =>
   cases q1 with
   | cons b1 q1 =>
    cases p2 with
    | nil=>cases q2;exact .cn
    | @cons e _ es' _ a2 p2 =>
     cases q2 with
     | cons b2 q2 =>
      rw[ABF,AAC]at k1 k2
      have he:=(lc I sm n A d _ _ _ _ _ hu a1 b1 a2 b2 k1.1 k2.1).1
      rw[sO]
      rw[Ao]at k3
      by_cases hq:eqD M n d e=true
      ·rw[hq]at he
       rw[if_pos hq]at k3 ⊢
       exact .eq he (hi _ _ _ _ _ p1 q1 p2 q2 k1.2 k2.2 k3)
      ·have hq':=ABr.mpr hq
       rw[hq']at he
       rw[if_neg hq]at k3 ⊢
       exact .ne he (yK I sm n A _ _ _ _ _ _ hu a1 b1 a2 b2 k1.1 k2.1 k3)
end
section
variable{prog:Program}{w:World}{A:Around}{s:Shared}{b:Bool}{Q:Bool->Shared->Prop}
theorem BH(h:LexAt A s its jts k):∀(i:Nat),(b&&i==0)=false->(b&&i+1==0)=false->Q k s->KatLex prog w A b (decide (its.length<jts.length)) Q (its.zip jts) i s:=by
 have un:∀i:Nat,(b&&i+1==0)=false:=λi=>by cases b<;>simp
 induction h with
 | nn=>intro i _ _ q;exact q
 | nc=>intro i _ _ q;exact(show Q (decide (0<_+1)) s by rw[decide_eq_true (Nat.succ_pos _)];exact q)
 | cn=>intro i _ _ q;exact(show Q (decide (_+1<0)) s by rw[decide_eq_false (ABx _)];exact q)
 | @eq x y xs ys k he t ih =>
  intro i hb _ q
  refine kat_cons (he prog w _ _ (kat_yes ?_))
  have:=ih (i+1) (un i) (un (i+1)) q
  rw[show decide ((x::xs).length<(y::ys).length)=decide (xs.length<ys.length) by simp]
  exact this
 | @ne x y xs ys k he t =>
  intro i hb _ q
  refine kat_cons (he prog w _ _ (kat_no ?_))
  rw[hb]
  exact kat_one _ _ (t prog w _ _ q)
theorem zj(he:ACq A s p q e)(hl:e=false->∀Q':Bool->Shared->Prop,Q' l s->wpAny (model prog w) A (oneLt' (b&&0==0) p q) Q' (λ_ _=>False) s)(ht:e=true->LexAt A s its jts k)(h:Q (if e=true then k else l) s) :
  KatLex prog w A b (decide ((p::its).length<(q::jts).length)) Q ((p::its).zip (q::jts)) 0 s:=by
 refine kat_cons (he prog w _ _ ?_)
 cases e with
 | true =>
  refine kat_yes ?_
  rw[show decide ((p::its).length<(q::jts).length)=decide (its.length<jts.length) by simp]
  exact BH (ht rfl) 1 (by cases b<;>rfl) (by cases b<;>rfl) h
 | false=>exact kat_no (hl rfl _ h)
end
section
variable{X:Cx}{pins:List (Addr×Obj)}{σ:St}{H:Hp}{s:Shared}{ρ:List Addr}{M:Mem}
theorem qD{M:Model}{h:Heap}{x:Str}{t:Tok}:Looks M h (typeOf (.str x t)) (.type "str"):=Looks.of_pure rfl
theorem qE{M:Model}{h:Heap}{x:Int}{t:Tok}:Looks M h (typeOf (.int x t)) (.type "int"):=Looks.of_pure rfl
theorem Reps.getD'(r:Reps X.K ρ H ds vs)(rr:ax vs its)(h:i<ds.length):∃v,Rep X.K ρ H (ds.getD i default) v/\aK v (its.getD i .none)/\ds.getD i default∈ds:=by
 obtain⟨v,e,rv⟩:=r.get (AA7 h)
 obtain⟨u,e',ru⟩:=fQ rr e
 refine⟨v,?_,?_,?_⟩
 ·rw[AAP,AA7 h];exact rv
 ·rw[AAP,e'];exact ru
 ·rw[AAP,AA7 h];exact AAo h
theorem Reps.mem(r:Reps X.K ρ H ds vs)(rr:ax vs its)(h:u∈its):∃d v,d∈ds/\Rep X.K ρ H d v/\aK v u:=by
 induction ds generalizing vs its with
 | nil=>cases r;cases rr;cases h
 | cons d0 ds ih =>
  cases r with
  | cons r1 r =>
   cases rr with
   | cons q1 q =>
    rcases(AAH (a:=u)).mp h with rfl | h
    ·exact⟨_,_,AAI,r1,q1⟩
    ·obtain⟨d,v,h1,h2,h3⟩:=ih r q h
     exact⟨d,v,AA9 _ h1,h2,h3⟩
theorem tu(I:Inv X pins σ H s)(r:Reps X.K ρ H xs ws)(rr:ax ws its)(hx:∀x∈xs,∃f r,x=.tup (f::r)) :
  ∃fs,KatTups s.heap its fs/\fs.length=its.length/\∀u∈fs,∃d v,Rep X.K ρ H d v/\aK v u/\∃r,D.tup (d::r)∈xs:=by
 induction xs generalizing ws its with
 | nil=>cases r;cases rr;exact⟨[],.nil,rfl,λ_ z=>nomatch z⟩
 | cons d ds ih =>
  cases r with
  | cons r1 r =>
   cases rr with
   | cons q1 q =>
    obtain⟨fs,h1,h2,h3⟩:=ih r q λx hx'=>hx x (AA9 _ hx')
    obtain⟨f,aN,rfl⟩:=hx d AAI
    cases r1 with
    | tup hq rs =>
     cases q1
     obtain⟨its,rv,pl,hz⟩:=I.tuple hq
     cases rs with
     | cons a1 rs =>
      cases rv with
      | cons b1 rv =>
       obtain⟨o,ho,hc,n,hd⟩:=pl
       refine⟨_::fs,.cons ho hc hd rfl h1,by simp[h2],λu hu=>?_⟩
       rcases AAH.mp hu with rfl | hu
       ·exact⟨_,_,a1,b1,_,AAI⟩
       ·obtain⟨d,v,e1,e2,r',e3⟩:=h3 u hu
        exact⟨d,v,e1,e2,r',AA9 _ e3⟩
def ltc(M:Mem)(xs:List D)(i j:Nat):Bool:=ltD M eqN (xs.getD i default) (xs.getD j default)
theorem pZ(I:Inv X pins σ H s)(sm:Sim X.K ρ M H){xs:List D}{ws:List V}{its:List Value}(so:SrtG M xs)(r:Reps X.K ρ H xs ws)(rr:ax ws its)(h2:2<=its.length){A:Around}(hu:A.units+eqN<cLine) :
  wpAny (model X.prog X.w) A (keyKind' its.toArray) (λκ s'=>s'=s/\∀i j (C:Bool->Shared->Prop),i<its.length->j<its.length->C (ltc M xs i j) s->kas_ask X.prog X.w A κ its i j C s) (λ_ _=>False) s:=by
 have lw:=r.length
 have li:=rr.length
 have le:xs.length=its.length:=by lia
 have tups:∀(b:Bool),(∀x∈xs,∃f r,x=.tup (f::r))->(∀(f g:D) (vf vg:V) (p q:Value) (r r':List D),D.tup (f::r)∈xs->D.tup (g::r')∈xs->Rep X.K ρ H f vf->aK vf p->Rep X.K ρ H g vg->aK vg q ->
   (eqD M 29 f g=false->∀Q':Bool->Shared->Prop,Q' (ltD M 29 f g) s->wpAny (model X.prog X.w) A (oneLt' (b&&0==0) p q) Q' (λ_ _=>False) s)) ->
   ∀i j (C:Bool->Shared->Prop),i<its.length->j<its.length->C (ltc M xs i j) s->kas_ask X.prog X.w A (tuples' b) its i j C s:=by
  intro b hx hone i j C hi hj hc
  unfold kas_ask
  obtain⟨v1,r1,e1,m1⟩:=r.getD' rr (show i<xs.length by lia)
  obtain⟨v2,r2,e2,m2⟩:=r.getD' rr (show j<xs.length by lia)
  unfold ltc at hc
  have k1:=so.okd _ m1
  have k2:=so.okd _ m2
  have k3:=so.cm _ m1 _ m2
  generalize xs.getD i default=x at *
  generalize xs.getD j default=y at *
  obtain⟨f,rf,rfl⟩:=hx _ m1
  obtain⟨g,rg,rfl⟩:=hx _ m2
  cases r1 with
  | tup hq rs =>
   cases r2 with
   | tup hq' rs' =>
    generalize its.getD i .none=u1 at *
    generalize its.getD j .none=u2 at *
    cases e1;cases e2
    obtain⟨as,ra,pa,_⟩:=I.tuple hq
    obtain⟨bs,rb,pb,_⟩:=I.tuple hq'
    obtain⟨o,ho,_,n,hd⟩:=pa
    obtain⟨o',ho',_,n',hd'⟩:=pb
    refine kat_lt ho hd ho' hd' ?_
    cases rs with
    | cons a1 rs =>
     cases ra with
     | @cons _ p _ la b1 ra =>
      cases rs' with
      | cons a2 rs' =>
       cases rb with
       | @cons _ q _ lb b2 rb =>
        have hu':A.units+29<cLine:=by have:eqN=30:=rfl;lia
        have z1:okD M 29 f=true/\rf.all (okD M 29)=true:=by
         have:(f::rf).all (okD M 29)=true:=k1
         rwa [ABF,AAC]at this
        have z2:okD M 29 g=true/\rg.all (okD M 29)=true:=by
         have:(g::rg).all (okD M 29)=true:=k2
         rwa [ABF,AAC]at this
        have z3:(if eqD M 29 f g=true then Ao (eqD M 29) (iQ M 29) rf rg else iQ M 29 f g)=true:=k3
        have he:=(lc I sm 29 A _ _ _ _ _ _ hu' a1 b1 a2 b2 z1.1 z2.1).1
        have hc':C (if eqD M 29 f g=true then sO (eqD M 29) (ltD M 29) rf rg else ltD M 29 f g) s:=hc
        cases hq3:eqD M 29 f g with
        | true =>
         rw[hq3]at he hc' z3
         have:=zj (prog:=X.prog) (w:=X.w) (b:=b) (Q:=C) (l:=true) he (λz=>nomatch z) (λ_=>EA I sm 29 A hu' _ _ _ _ _ _ rs ra rs' rb z1.2 z2.2 z3) hc'
         simpa using this
        | false =>
         rw[hq3]at he hc'
         have:=zj (prog:=X.prog) (w:=X.w) (b:=b) (Q:=C) (l:=ltD M 29 f g) (its:=la) (jts:=lb) (k:=true) he (λ_=>hone f g _ _ _ _ _ _ m1 m2 a1 b1 a2 b2 hq3) (λz=>nomatch z) hc'
         simpa using this
 have fin:∀(κ:SortKind),(∀i j (C:Bool->Shared->Prop),i<its.length->j<its.length->C (ltc M xs i j) s->kas_ask X.prog X.w A κ its i j C s)->(s=s/\∀i j (C:Bool->Shared->Prop),i<its.length->j<its.length->C (ltc M xs i j) s->kas_ask X.prog X.w A κ its i j C s):=λκ h=>⟨rfl,h⟩
 have eqn:A.units+29<cLine:=by have:eqN=30:=rfl;lia
 rcases so.kd with hk | hk | hk | hk | hk
 ·refine kas_kind (T:=.type "str") h2 (λu hu=>?_) (by decide) (by decide) (fin _ λi j C hi hj hc=>?_)
  ·obtain⟨d,v,m1,r1,e1⟩:=r.mem rr hu
   obtain⟨z,rfl⟩:=hk d m1
   cases r1
   obtain⟨t,rfl⟩:=e1
   exact qD
  ·unfold kas_ask
   obtain⟨v1,r1,e1,m1⟩:=r.getD' rr (show i<xs.length by lia)
   obtain⟨v2,r2,e2,m2⟩:=r.getD' rr (show j<xs.length by lia)
   unfold ltc at hc
   obtain⟨z,hz⟩:=hk _ m1
   obtain⟨z',hz'⟩:=hk _ m2
   rw[hz]at r1 hc
   rw[hz']at r2 hc
   cases r1;cases r2
   obtain⟨t,h1⟩:=e1
   obtain⟨t',h2⟩:=e2
   rw[h1,h2]
   exact kas_lt_str hc
 ·refine kas_kind (T:=.type "int") h2 (λu hu=>?_) (by decide) (by decide) (fin _ λi j C hi hj hc=>?_)
  ·obtain⟨d,v,m1,r1,e1⟩:=r.mem rr hu
   obtain⟨z,rfl⟩:=hk d m1
   cases r1
   obtain⟨t,rfl⟩:=e1
   exact qE
  ·unfold kas_ask
   obtain⟨v1,r1,e1,m1⟩:=r.getD' rr (show i<xs.length by lia)
   obtain⟨v2,r2,e2,m2⟩:=r.getD' rr (show j<xs.length by lia)
   unfold ltc at hc
   obtain⟨z,hz⟩:=hk _ m1
   obtain⟨z',hz'⟩:=hk _ m2
   rw[hz]at r1 hc
   rw[hz']at r2 hc
   cases r1;cases r2
   obtain⟨t,h1⟩:=e1
   obtain⟨t',h2⟩:=e2
   rw[h1,h2]
   exact kat_lt_int hc
 ·obtain⟨fs,t1,t2,t3⟩:=tu I r rr λx hx=>(hk x hx).elim λz ⟨r,e⟩=>⟨_,_,e⟩
  refine kat_kind (T:=.type "str") t1 (by lia) (λu hu=>?_) (by decide) (fin _ (tups _ (λx hx=>(hk x hx).elim λz ⟨r,e⟩=>⟨_,_,e⟩) λf g vf vg p q r r' m1 m2 r1 e1 r2 e2 hq Q' h=>?_))
  ·obtain⟨d,v,r1,e1,r',m1⟩:=t3 u hu
   obtain⟨z,r'',e⟩:=hk _ m1
   cases e
   cases r1
   obtain⟨t,rfl⟩:=e1
   exact qD
  ·obtain⟨z,_,e⟩:=hk _ m1
   cases e
   obtain⟨z',_,e'⟩:=hk _ m2
   cases e'
   cases r1;cases r2
   obtain⟨t,rfl⟩:=e1
   obtain⟨t',rfl⟩:=e2
   exact oneLt_str h
 ·obtain⟨fs,t1,t2,t3⟩:=tu I r rr λx hx=>(hk x hx).elim λz ⟨r,e⟩=>⟨_,_,e⟩
  refine kat_kind (T:=.type "int") t1 (by lia) (λu hu=>?_) (by decide) (fin _ (tups _ (λx hx=>(hk x hx).elim λz ⟨r,e⟩=>⟨_,_,e⟩) λf g vf vg p q r r' m1 m2 r1 e1 r2 e2 hq Q' h=>?_))
  ·obtain⟨d,v,r1,e1,r',m1⟩:=t3 u hu
   obtain⟨z,r'',e⟩:=hk _ m1
   cases e
   cases r1
   obtain⟨t,rfl⟩:=e1
   exact qE
  ·obtain⟨z,_,e⟩:=hk _ m1
   cases e
   obtain⟨z',_,e'⟩:=hk _ m2
   cases e'
   cases r1;cases r2
   obtain⟨t,rfl⟩:=e1
   obtain⟨t',rfl⟩:=e2
   exact oneLt_int h
 ·obtain⟨fs,t1,t2,t3⟩:=tu I r rr λx hx=>(hk x hx).elim λz ⟨r,e⟩=>⟨_,_,e⟩
  refine kat_kind (T:=.type "tuple") t1 (by lia) (λu hu=>?_) (by decide) (fin _ (tups _ (λx hx=>(hk x hx).elim λz ⟨r,e⟩=>⟨_,_,e⟩) λf g vf vg p q r r' m1 m2 r1 e1 r2 e2 hq Q' h=>?_))
  ·obtain⟨d,v,r1,e1,r',m1⟩:=t3 u hu
   obtain⟨z,r'',e⟩:=hk _ m1
   cases e
   cases r1 with
   | tup hq rs =>
    cases e1
    obtain⟨_,_,pl,_⟩:=I.tuple hq
    obtain⟨o,ho,hc,_⟩:=pl
    rw[←hc]
    exact(show Looks _ s.heap (typeOf (.ref _)) o.cls from(Looks.ld ho).andThen .now)
  ·have k1:okD M 29 f=true:=by
    have:(f::r).all (okD M 29)=true:=so.okd _ m1
    rw[ABF,AAC]at this
    exact this.1
   have k2:okD M 29 g=true:=by
    have:(g::r').all (okD M 29)=true:=so.okd _ m2
    rw[ABF,AAC]at this
    exact this.1
   have k3:(if eqD M 29 f g=true then Ao (eqD M 29) (iQ M 29) r r' else iQ M 29 f g)=true:=so.cm _ m1 _ m2
   rw[hq]at k3
   exact kat_one _ _ (yK I sm 29 A _ _ _ _ _ _ eqn r1 e1 r2 e2 k1 k2 k3 _ _ _ _ h)
end
section
variable{X:Cx}{pins:List (Addr×Obj)}{σ:St}{H:Hp}{s:Shared}{ρ:List Addr}{M:Mem}
theorem Hv(so:SrtG M xs):(∀a∈xs,ltD M eqN a a=false)/\(∀a∈xs,∀b∈xs,∀d∈xs,ltD M eqN a b=true->ltD M eqN b d=true->ltD M eqN a d=true)/\∀a∈xs,∀b∈xs,∀d∈xs,ltD M eqN a d=true->ltD M eqN a b=true\/ltD M eqN b d=true:=by
 obtain⟨en,e⟩:=so.od
 refine⟨λa ha=>?_,λa ha b hb d hd h1 h2=>?_,λa ha b hb d hd h=>?_⟩
 ·rw[e a ha a ha,decide_eq_false (ADG _)]
 ·rw[e a ha b hb,decide_eq_true_eq]at h1
  rw[e b hb d hd,decide_eq_true_eq]at h2
  rw[e a ha d hd,decide_eq_true_eq]
  exact List.lt_trans h1 h2
 ·rw[e a ha d hd,decide_eq_true_eq]at h
  rw[e a ha b hb,e b hb d hd,decide_eq_true_eq,decide_eq_true_eq]
  by_cases z:en a<en b
  ·exact .inl z
  ·have z':en b<=en a:=z
   exact .inr (List.lt_of_le_of_lt z' h)
theorem AI{k:Nat}{l:Addr}{xs:List D}{ws:List V}{its:List Value}{R:VK}(hr:Room k X.A)(I:Inv X pins σ H s)(sm:Sim X.K ρ M H)(so:SrtG M xs)(r:Reps X.K ρ H xs ws)(rr:ax ws its)(hl:s.heap.IsList l its.toArray)(hz:ws.length<=sizeLine)(h2:2<=its.length)(h64:its.length<64)
  (hne:l≠X.env.locals) (kk:∀v H',((∀Q:DK,(∀ys,ys.Perm xs->wN M ys->Q (.ref M.length) (M++[.lst ys]))->VQ X.K ρ H Q v H'))->R v H') :
  wpAny (model X.prog X.w) X.A (call (.builtin "sorted") [.ref l]) (EP X pins σ R) X.xe s:=by
 obtain⟨m,hn,hm⟩:=I.loc
 have lw:=r.length
 have li:=rr.length
 obtain⟨ol,hol,_⟩:=id hl
 have mem:∀a o,(a,o)∈[]++(l,ol)::Att.ledger s.heap X.env.locals l↔a≠X.env.locals/\s.heap.get? a=some o:=λa o=>by
  rw[AAr,AAH,Att.mem_ledger]
  constructor
  ·rintro(h | ⟨h1,_,h3⟩)
   ·cases h;exact⟨hne,hol⟩
   ·exact⟨h1,h3⟩
  ·rintro⟨h1,h2⟩
   by_cases hal:a=l
   ·subst hal
    rw[hol]at h2;cases h2
    exact .inl rfl
   ·exact .inr ⟨h1,hal,h2⟩
 refine kat_sorted (Att.fr_all hn) (Att.news_ledger hne hol) hl h2 h64 λD e1 h' F' N' lt=>?_
 have kp:∀b u,b≠X.env.locals->s.heap.get? b=some u->h'.get? b=some u:=λb u hb e=>(N' (b,u) (AA9 _ ((mem b u).mpr ⟨hb,e⟩))).1
 have hDL:D≠X.env.locals:=(N' _ AAI).2.1
 have hD:s.heap.get? D=none:=by
  cases q:s.heap.get? D with
  | none=>rfl
  | some o=>exact absurd (lt (D,o) ((mem D o).mpr ⟨hDL,q⟩)) (AAq _)
 have I':Inv X pins σ H { s with heap:=h' }:=I.keptF (t':=s.toks) kp hn F'.ns
 have hu:X.A.in1.in1.units+eqN<cLine:=by
  have:=hr.un
  have:eqN=30:=rfl
  show X.A.units+1+1+eqN<cLine
  lia
 refine ABh (pZ I' sm so r rr h2 hu) (λκ s' hk=>?_) λ_ _ x=>x
 obtain⟨rfl,hask⟩:=hk
 refine Srt.wp_run (n:=its.length) (c:=λi j=>if i<xs.length then(if j<xs.length then ltD M eqN (xs.getD i default) (xs.getD j default)else true)else false) (λi j C hi hj hc=>?_) _ (Srt.sort_bd (by lia)).1 ?_
 ·refine hask i j C hi hj ?_
  rw[if_pos (by lia),if_pos (by lia)]at hc
  exact hc
 ·have hent:=Srt.All.run (c:=λi j=>if i<xs.length then(if j<xs.length then ltD M eqN (xs.getD i default) (xs.getD j default)else true)else false) _ (Srt.sort_bd (n:=its.length) (by lia)).2
  obtain⟨o1,o2,o3⟩:=Hv so
  have hsl:=Srt.sort_list xs (by lia) o1 o2 o3
  try dsimp only at hsl
  rw[show xs.length=its.length by lia]at hsl hent ⊢
  generalize Srt.run _ (AEK its.length)=p at hent hsl ⊢
  have hi:∀i∈p.toList,i<xs.length:=λi h=>by
   have:=hent.mem_iff.mp h
   rw[AAk]at this
   lia
  refine KasFin.intro F' N' (UpdF.head λq hq=>AAQ (lt q hq)) λh2 c F2 N2=>?_
  have r':=r.perm p.toList hi
  have rr':=rr.perm p.toList (λi h=>by have:=hi i h;lia)
  have hD':H D=none:=HOk.none I.hok hD
  refine⟨.ref D,_,I.laidF (t':=s.toks) (o:=.lst (p.toList.map λi=>ws.getD i .non)) (λb u hb e=>(N2 (b,u) (AA9 _ ((mem b u).mpr ⟨hb,e⟩))).1) hn F2.ns hD hD' ⟨?_,_,c,rr',(N2 _ AAI).1⟩,rfl,
   kk _ _ λQ hQ=>VQ.laidL sm .refl r' hD' (hQ _ hsl.1 hsl.2)⟩
  rw[AA6]
  have:=hsl.1.length_eq
  rw[AA6]at this
  lia
end
theorem Inv.sqL_ne(I:Inv X pins σ H s)(h:SqL X.K H a xs):a≠X.env.locals:=by
 rcases h with h | ⟨o,its,n,hk,_⟩
 ·rcases h with h | ⟨_,h⟩
  ·exact ad h I.free
  ·exact ad h I.free
 ·have:=AAG (I.mod.kin a o hk)
  exact AAQ (AAd this (ABT I.ok.bsz I.ok.above))
section
variable{X:Cx}
theorem zX(hr:Room k X.A):iY X (.builtin "sorted") xT:=by
 intro pins s σ H vs us R I rv ⟨ds,M,ρ,Q,sm,rs,q,kk⟩
 unfold xT at q
 split at q
 ·obtain⟨xs,hL,so,q⟩:=q
  cases rs with
  | cons r1 rs =>
   cases rs
   obtain⟨u,rfl,e1⟩:=ax.one rv
   cases r1 with
   | ref e =>
    cases e1
    obtain⟨ws,hq,r⟩:=al.seq sm hL e
    obtain⟨its,rr,pl,hz⟩:=I.list hq
    have lw:=r.length
    have li:=rr.length
    by_cases h2:its.length<2
    ·refine pX pl.isList h2 λD h' n hD hk ho=>?_
     refine⟨.ref D,_,I.laid (t':=s.toks) (o:=.lst ws) hk hD ⟨hz,its,n,rr,ho⟩,rfl,kk _ _ (VQ.laidL sm .refl r (I.hok.fresh hD) (q xs (ADH _) ?_))⟩
     unfold wN
     match xs,(show xs.length<2 by lia) with
     | [],_=>exact ADm
     | [x],_=>exact ADa _ _
     | _::_::_,hx=>simp at hx;lia
    ·have h2':2<=its.length:=by lia
     have h64:its.length<64:=by have:=so.len;lia
     exact AI hr I sm so r rr pl.isList hz h2' h64 (I.sqL_ne hq) λv H' x=>kk v H' (x Q q)
 ·exact q.elim
end
end L2
namespace L2
open PySem PySem.Spec PyProof.Rows DL PySem.W
section
variable{prog:Program}{w:World}{A:Around}{E:Value->Shared->Prop}{s:Shared}
theorem qC(hit:s.heap.IsTupleIter it t i)(ht:s.heap.IsTuple t items)(hx:items[i]?=some x)
  (hQ:∀h',h'.IsTupleIter it t (i+1)->ABM it s.heap h'->Q x { s with heap:=h' }):wpAny (model prog w) A (ABC (.ref it)) Q E s:=by
 obtain⟨o,ho,hc,hd⟩:=id hit
 obtain⟨ol,hol,_,nl,hdl⟩:=ht
 unfold ABC
 refine AA0 (AAm (name:=AA1 "__next__") hit.typeIs F.slot_tuple_iterator_next (AAn F.slot_tuple_iterator_next hit.typeIs F.entry_tuple_iterator_next ?_ (F.args_tuple_iterator_next_1 (.ref it))))
 refine(show wpAny (model prog w) _ (field (.ref it) 0 >>= _) _ _ s from AA0 (ABG ho hd (x:=.ref t) rfl ?_))
 refine(show wpAny (model prog w) _ (if (AB3 t==ABb)=true then _ else field (.ref it) 1 >>= _) _ _ s from ?_)
 rw[if_neg (show ¬(AB3 t==ABb)=true from AAb)]
 refine AA0 (ABG ho hd (x:=.int i 0) rfl (show wpAny (model prog w) _ (seqItems? (.ref t) >>= _) _ _ s from AA0 (ABL hol hdl ?_)))
 simp only[ABq,hx]
 refine AA0 (AC8 ho hd (by simp) (AA3 ⟨x,rfl,AA3 (hQ _ ⟨_,AAZ _ ho (Obj.isFreed_of_fields (Obj.data_mapFields hd _)),(Obj.cls_mapFields ..).trans hc,?_⟩ (AB2 ..))⟩))
 rw[Obj.data_mapFields hd];simp[rawInt]
theorem iW(hh:A.handled=none)(hit:s.heap.IsTupleIter it t i)(ht:s.heap.IsTuple t items)(hx:items[i]?=none)
  (hE:∀h' e,Heap.ExtBut it s.heap h'->(∃o,h'.get? e=some o/\o.cls=.type "StopIteration")->E (.ref e) { s with heap:=h' }):wpAny (model prog w) A (ABC (.ref it)) Q E s:=by
 obtain⟨o,ho,hc,hd⟩:=id hit
 obtain⟨ol,hol,_,nl,hdl⟩:=ht
 unfold ABC
 refine AA0 (AAm (name:=AA1 "__next__") hit.typeIs F.slot_tuple_iterator_next (AAn F.slot_tuple_iterator_next hit.typeIs F.entry_tuple_iterator_next ?_ (F.args_tuple_iterator_next_1 (.ref it))))
 refine(show wpAny (model prog w) _ (field (.ref it) 0 >>= _) _ _ s from AA0 (ABG ho hd (x:=.ref t) rfl ?_))
 refine(show wpAny (model prog w) _ (if (AB3 t==ABb)=true then _ else field (.ref it) 1 >>= _) _ _ s from ?_)
 rw[if_neg (show ¬(AB3 t==ABb)=true from AAb)]
 refine AA0 (ABG ho hd (x:=.int i 0) rfl (show wpAny (model prog w) _ (seqItems? (.ref t) >>= _) _ _ s from AA0 (ABL hol hdl ?_)))
 simp only[ABq,hx]
 refine AA0 (ACK (AA0 (AC8 ho hd (by simp) (show wpAny (model prog w) _ (newExc (.type "StopIteration") [] >>= _) _ _ _ from AA0 ?_))))
 simp only[newExc,newTuple]
 refine AA0 (AAj (AA0 (m:=firstArgMember _ _) (wpAny_of_eq (a:=ABb) (by first | rfl | (simp only[firstArgMember];rfl)) (AAj ?_ (by size_fits)))) (by size_fits))
 simp only[raiseNew]
 refine AA0 (wpAny_handled ?_)
 first | rw[show A.in1.handled=none from hh] | rw[hh]
 exact AA0 (AA3 (wpAny_throw (hE _ _ (((AB2 ..).extBut.push _).push _) (⟨_,AAE _ rfl,rfl⟩))))
end
theorem tK(hh:A.handled=none)(it t:Addr)(hne:t≠it)(items:Array Value):Draws prog w A it [it,t] items.size (λi v=>items[i]?=some v) (λi h=>h.IsTupleIter it t i/\h.IsTuple t items) where
 live:=λ_ _ ⟨⟨o,ho,_⟩,_⟩=>⟨o,ho⟩
 frame:=λ_ _ _ ⟨h1,o,e,r⟩ hk=>⟨h1.at λo e=>hk it (AAI) o e,o,hk t (by simp) o e,r⟩
 item:=λi s Q E hi ⟨h1,h2⟩ hQ=>by
  refine qC h1 h2 (x:=items[i]) (AAS hi) λh' hit' hs'=>hQ _ h' s.toks (AAS hi) ⟨hit',?_⟩ hs'
  obtain⟨o,e,r⟩:=h2
  exact⟨o,hs'.extBut _ _ hne e,r⟩
 done:=λs Q E ⟨h1,h2⟩ hE=>iW hh h1 h2 (ACH (AAD _)) hE
structure ZA(z TI TO i1 i2:Addr)(f1 f2:List Addr):Prop where
 nd:[z,TI,TO,i1,i2].Nodup
 z1:z∉f1
 o1:TO∉f1
 y1:i2∉f1
 z2:z∉f2
 o2:TO∉f2
 x2:i1∉f2
theorem cO{prog:Program}{w:World}{A:Around}{it c:Addr}{fp:List Addr}{n k:Nat}{P:Nat->Value->Prop}{St:Nat->Heap->Prop}{h h':Heap}(D:Draws prog w A it fp n P St)(hc:c∉fp)(hs:Heap.ExtBut c h h')(st:St k h):St k h' :=
 D.frame k h h' st λb hb o e=>hs b o (λq=>hc (q ▸ hb)) e
section
variable{prog:Program}{w:World}{A:Around}{E:Value->Shared->Prop}{s:Shared}{z TI TO i1 i2:Addr}{f1 f2:List Addr}{n1 n2 k:Nat}{P1 P2:Nat->Value->Prop}{S1 S2:Nat->Heap->Prop}{a b:Value}
theorem Aq{Q:Value->Shared->Prop}(D1:Draws prog w A i1 f1 n1 P1 S1)(D2:Draws prog w A i2 f2 n2 P2 S2)(Z:ZA z TI TO i1 i2 f1 f2)(hz:IsZip s.heap z TI TO .none)(hTI:IsPair s.heap TI (.ref i1) (.ref i2))(hTO:IsPair s.heap TO a b)
  (st1:S1 k s.heap) (st2:S2 k s.heap) (l1:k<n1) (l2:k<n2)
  (hQ:∀h' tk x y T,P1 k x->P2 k y->s.heap.objs.size<=T->IsZip h' z TI TO (rawInt T)->IsPair h' TO x y->S1 (k+1) h'->S2 (k+1) h'->IsPair h' T x y->(∀c o,c≠z->c≠TO->c≠i1->c≠i2->s.heap.get? c=some o->h'.get? c=some o)->Q (.ref T) { s with heap:=h',toks:=tk }) :
  wpAny (model prog w) A (Builtin.«zip.__next__» ⟨[.ref z],[]⟩) (λfin s'=>∃v,fin=.done (.ret v)/\Q v s') E s:=by
 have nd:=Z.nd
 simp only[AB6,AAH,AAf,or_false,not_or]at nd
 obtain⟨⟨zTI,zTO,zi1,zi2⟩,⟨TITO,TIi1,TIi2⟩,⟨TOi1,TOi2⟩,i12,_⟩:=nd
 refine(show wpAny (model prog w) A (field (.ref z) 2 >>= _) _ _ _ from AA0 (ABG hz rfl (x:=.bool false) rfl ?_))
 refine(show wpAny (model prog w) A (field (.ref z) 3 >>= _) _ _ _ from AA0 (ABG hz rfl (x:=.ref TI) rfl (AA0 (ABL hTI rfl ?_))))
 refine(show wpAny (model prog w) A (ABf (.ref z) >>= _) _ _ _ from AA0 ?_)
 unfold ABf
 refine AA0 (ABG hz rfl (x:=ABb) rfl (AA3 ?_))
 simp only[if_true]
 refine AA0 (ACK (AA0 (ABG hz rfl (x:=.ref TO) rfl (AA0 (ABA hz (by simp) λh₁ (hz₁:IsZip h₁ z TI TO .ellipsis) hs₁=>AA0 ?_)))))
 simp only[List.zipIdx_cons,List.zipIdx_nil,AEB,List.forIn_nil]
 refine AA0 (AA0 (wpAny_onRaise (show wpAny (model prog w) A (ABC (.ref i1) >>= _) _ _ _ from AA0 ?_)))
 refine D1.item k _ _ _ l1 (cO D1 Z.z1 hs₁.extBut st1) λx h₂ tk₂ px s1₂ hs₂=>AA3 ?_
 have hTO₂:IsPair h₂ TO a b:=hs₂.extBut _ _ TOi1 (hs₁.extBut _ _ (AAz zTO) hTO)
 refine AA0 (ABL hTO₂ rfl (AA0 (wpAny_updateSeq_pair hTO₂ λh₃ (hTO₃:IsPair h₃ TO x b) hs₃=>AA0 (wpAny_letGo (AA3 ?_)))))
 refine AA0 (AA0 (wpAny_onRaise (show wpAny (model prog w) A (ABC (.ref i2) >>= _) _ _ _ from AA0 ?_)))
 refine D2.item k _ _ _ l2 (cO D2 Z.o2 hs₃.extBut (cO D2 Z.x2 hs₂.extBut (cO D2 Z.z2 hs₁.extBut st2))) λy h₄ tk₄ py s2₄ hs₄=>AA3 ?_
 have hTO₄:IsPair h₄ TO x b:=hs₄.extBut _ _ TOi2 hTO₃
 refine AA0 (ABL hTO₄ rfl (AA0 (wpAny_updateSeq_pair hTO₄ λh₅ (hTO₅:IsPair h₅ TO x y) hs₅=>AA0 (wpAny_letGo (AA3 (AA3 ?_))))))
 refine AA0 (ABL hTO₅ rfl (AA0 (wpAny_newTuple ?_)))
 have hz₅:IsZip h₅ z TI TO .ellipsis:=hs₅.extBut _ _ zTO (hs₄.extBut _ _ zi2 (hs₃.extBut _ _ zTO (hs₂.extBut _ _ zi1 hz₁)))
 have kp:∀c o,c≠z->c≠TO->c≠i1->c≠i2->s.heap.get? c=some o->h₅.get? c=some o:=λc o c1 c2 c3 c4 e=>hs₅.extBut _ _ c2 (hs₄.extBut _ _ c4 (hs₃.extBut _ _ c2 (hs₂.extBut _ _ c3 (hs₁.extBut _ _ c1 e))))
 have sz:h₅.objs.size=s.heap.objs.size:=by rw[hs₅.1,hs₄.1,hs₃.1,hs₂.1];exact hs₁.1
 have t1:=cO D1 Z.o1 hs₅.extBut (cO D1 Z.y1 hs₄.extBut (cO D1 Z.o1 hs₃.extBut s1₂))
 have t2:=cO D2 Z.o2 hs₅.extBut s2₄
 refine(show wpAny (model prog w) A (ADI (.ref z) (.ref h₅.objs.size) >>= _) _ _ _ from AA0 ?_)
 unfold ADI
 have hz₆:IsZip (h₅.push { cls:=.type "tuple",data:=.seq #[x,y] }) z TI TO .ellipsis:=AA4 _ hz₅
 refine AA0 (ABA hz₆ (by simp) λh₇ (hz₇:IsZip h₇ z TI TO (rawInt h₅.objs.size)) hs₇=>ABA hz₇ (by simp) λh₈ (hz₈:IsZip h₈ z TI TO (rawInt h₅.objs.size)) hs₈=>?_)
 have up:∀c o,c≠z->h₅.get? c=some o->h₈.get? c=some o:=λc o c1 e=>hs₈.extBut _ _ c1 (hs₇.extBut _ _ c1 (AA4 _ e))
 have ne:h₅.objs.size≠z:=ABU (AAG hz₅)
 refine AA3 ⟨_,rfl,hQ h₈ _ x y h₅.objs.size px py (Nat.le_of_eq sz.symm) hz₈ (up _ _ (AAz zTO) hTO₅) ?_ ?_ (hs₈.extBut _ _ ne (hs₇.extBut _ _ ne (AAE _ rfl))) λc o c1 c2 c3 c4 e=>up c o c1 (kp c o c1 c2 c3 c4 e)⟩
 ·exact D1.frame _ _ _ t1 λc hc o e=>up c o (λq=>Z.z1 (q ▸ hc)) e
 ·exact D2.frame _ _ _ t2 λc hc o e=>up c o (λq=>Z.z2 (q ▸ hc)) e
theorem As{Q:Fin->Shared->Prop}(D1:Draws prog w A i1 f1 n1 P1 S1)(D2:Draws prog w A i2 f2 n2 P2 S2)(Z:ZA z TI TO i1 i2 f1 f2)(hz:IsZip s.heap z TI TO .none)(hTI:IsPair s.heap TI (.ref i1) (.ref i2))(hTO:IsPair s.heap TO a b)
  (st1:S1 k s.heap) (st2:S2 k s.heap) (hk:k=n1\/(k<n1/\k=n2))
  (hE:∀h' tk e,(∀c o,c≠z->c≠TO->c≠i1->c≠i2->s.heap.get? c=some o->h'.get? c=some o)->(∃o,h'.get? e=some o/\o.cls=.type "StopIteration")->E (.ref e) { s with heap:=h',toks:=tk }) :
  wpAny (model prog w) A (Builtin.«zip.__next__» ⟨[.ref z],[]⟩) Q E s:=by
 have nd:=Z.nd
 simp only[AB6,AAH,AAf,or_false,not_or]at nd
 obtain⟨⟨zTI,zTO,zi1,zi2⟩,⟨TITO,TIi1,TIi2⟩,⟨TOi1,TOi2⟩,i12,_⟩:=nd
 refine(show wpAny (model prog w) A (field (.ref z) 2 >>= _) _ _ _ from AA0 (ABG hz rfl (x:=.bool false) rfl ?_))
 refine(show wpAny (model prog w) A (field (.ref z) 3 >>= _) _ _ _ from AA0 (ABG hz rfl (x:=.ref TI) rfl (AA0 (ABL hTI rfl ?_))))
 refine(show wpAny (model prog w) A (ABf (.ref z) >>= _) _ _ _ from AA0 ?_)
 unfold ABf
 refine AA0 (ABG hz rfl (x:=ABb) rfl (AA3 ?_))
 simp only[if_true]
 refine AA0 (ACK (AA0 (ABG hz rfl (x:=.ref TO) rfl (AA0 (ABA hz (by simp) λh₁ (hz₁:IsZip h₁ z TI TO .ellipsis) hs₁=>AA0 ?_)))))
 simp only[List.zipIdx_cons,List.zipIdx_nil,AEB,List.forIn_nil]
 refine AA0 (AA0 (wpAny_onRaise (show wpAny (model prog w) A (ABC (.ref i1) >>= _) _ _ _ from AA0 ?_)))
 rcases hk with rfl | ⟨l1,rfl⟩
 ·refine D1.done _ _ _ (cO D1 Z.z1 hs₁.extBut st1) λh₂ e hs₂ ⟨oe,hoe,hce⟩=>?_
  have hz₂:IsZip h₂ z TI TO .ellipsis:=hs₂ _ _ zi1 hz₁
  have hez:e≠z:=λq=>by subst q;rw[hz₂]at hoe;cases hoe;simp at hce
  exact ABA hz₂ (by simp) λh₃ _ hs₃=>hE h₃ _ e (λc o c1 _ c3 _ q=>hs₃.extBut _ _ c1 (hs₂ _ _ c3 (hs₁.extBut _ _ c1 q))) ⟨oe,hs₃.extBut _ _ hez hoe,hce⟩
 ·refine D1.item k _ _ _ l1 (cO D1 Z.z1 hs₁.extBut st1) λx h₂ tk₂ px s1₂ hs₂=>AA3 ?_
  have hTO₂:IsPair h₂ TO a b:=hs₂.extBut _ _ TOi1 (hs₁.extBut _ _ (AAz zTO) hTO)
  refine AA0 (ABL hTO₂ rfl (AA0 (wpAny_updateSeq_pair hTO₂ λh₃ (hTO₃:IsPair h₃ TO x b) hs₃=>AA0 (wpAny_letGo (AA3 ?_)))))
  refine AA0 (AA0 (wpAny_onRaise (show wpAny (model prog w) A (ABC (.ref i2) >>= _) _ _ _ from AA0 ?_)))
  refine D2.done _ _ _ (cO D2 Z.o2 hs₃.extBut (cO D2 Z.x2 hs₂.extBut (cO D2 Z.z2 hs₁.extBut st2))) λh₄ e hs₄ ⟨oe,hoe,hce⟩=>?_
  have hz₄:IsZip h₄ z TI TO .ellipsis:=hs₄ _ _ zi2 (hs₃.extBut _ _ zTO (hs₂.extBut _ _ zi1 hz₁))
  have hez:e≠z:=λq=>by subst q;rw[hz₄]at hoe;cases hoe;simp at hce
  exact ABA hz₄ (by simp) λh₅ _ hs₅=>hE h₅ _ e (λc o c1 c2 c3 c4 q=>hs₅.extBut _ _ c1 (hs₄ _ _ c4 (hs₃.extBut _ _ c2 (hs₂.extBut _ _ c3 (hs₁.extBut _ _ c1 q))))) ⟨oe,hs₅.extBut _ _ hez hoe,hce⟩
end
section
variable{X:Cx}{pins:List (Addr×Obj)}{σ:St}{H:Hp}{s:Shared}{h':Heap}
theorem Inv.turnedL{t':Nat}{fp:List Addr}(I:Inv X pins σ H s)(hf:∀b∈fp,vn X pins H b)(k:∀b o,b∉fp->s.heap.get? b=some o->h'.get? b=some o):Inv X pins σ H { s with heap:=h',toks:=t' }:=by
 have nfp:∀b u,H b=some u->b∉fp:=λb u e z=>by rw[(hf b z).1]at e;cases e
 refine I.step (g':=s.gens) (d':=s.drawn) (ch:=fp) (λb hb=>⟨(hf b hb).2.2.2.1,(hf b hb).2.1,(hf b hb).2.2.2.2.1,(hf b hb).2.2.2.2.2⟩) (λb o _ _ hc e _=>k b o hc e) (λb o _ _ hc e _=>⟨o.slots,k b o hc e⟩) (λ_ _ _ _ n=>n)
  (λb o hc e=>⟨o,k b o hc e⟩) (λ_ _ e=>e) (λ_ _ _ e=>e) (λb ps e=>⟨#[],by rw[e];simp⟩) (λm hm=>?_) (λb u e=>?_) I.bare
 ·obtain⟨o,es,ep,ho,r⟩:=hm
  exact⟨o,es,ep,k _ o (λz=>(hf _ z).2.1 rfl) ho,r⟩
 ·refine(I.hok b u e).stay (λc v hc q=>k c v ?_ q) (λ_ q=>q) λ_ _ q=>q
  rcases hc with rfl | z
  ·exact nfp _ u e
  ·exact nfp _ _ z
theorem Inv.turnedT{t':Nat}{fp:List Addr}{T:Addr}{o:HO}(I:Inv X pins σ H s)(hf:∀b∈fp,vn X pins H b)(k:∀b o,b∉fp->s.heap.get? b=some o->h'.get? b=some o)(hT:s.heap.objs.size<=T)(new:bJ X.prog X.w (upd H T o) h' T o):Inv X pins σ (upd H T o) { s with heap:=h',toks:=t' }:=by
 have fa:H T=none:=I.hok.fresh hT
 have neT:∀b u,s.heap.get? b=some u->b≠T:=λb u e=>AAQ (AAd (AAG e) hT)
 have nfp:∀b u,H b=some u->b∉fp:=λb u e z=>by rw[(hf b z).1]at e;cases e
 refine I.step (g':=s.gens) (d':=s.drawn) (ch:=fp) (λb hb=>⟨(hf b hb).2.2.2.1,(hf b hb).2.1,(hf b hb).2.2.2.2.1,(hf b hb).2.2.2.2.2⟩) (λb o _ _ hc e _=>k b o hc e) (λb o _ _ hc e _=>⟨o.slots,k b o hc e⟩) (λb u _ e n=>by rw[av (neT b u e)];exact n)
  (λb o hc e=>⟨o,k b o hc e⟩) (λb xs q=>by rw[av (ad q fa)];exact q) (λb u xs q=>by rw[av (ad q fa)];exact q) (λb ps q=>⟨#[],by rw[av (ad q fa),q];simp⟩) (λm hm=>?_) (λb u e=>?_) I.bare
 ·obtain⟨o,es,ep,ho,r⟩:=hm
  exact⟨o,es,ep,k _ o (λz=>(hf _ z).2.1 rfl) ho,r⟩
 ·by_cases hb:b=T
  ·subst hb
   rw[aV]at e
   cases e
   exact new
  ·rw[av hb]at e
   refine(I.hok b u e).stay (λc v hc q=>k c v ?_ q) (λc q=>by rw[av (ad q fa)];exact q) λc xs q=>by rw[av (ad q fa)];exact q
   rcases hc with rfl | z
   ·exact nfp _ u e
   ·exact nfp _ _ z
def Sq(t:Bool)(K:AA5)(H:Hp)(a:Addr)(xs:List V):Prop:=if t=true then SqT K H a xs else SqL K H a xs
def SIt(t:Bool)(h:Heap)(i l:Addr)(k:Nat):Prop:=if t=true then h.IsTupleIter i l k else h.IsListIter i l k
def SIs(t:Bool)(h:Heap)(l:Addr)(xs:Array Value):Prop:=if t=true then h.IsTuple l xs else h.IsList l xs
theorem SIt.at(x:SIt t h i l k)(e:∀o,h.get? i=some o->h'.get? i=some o):SIt t h' i l k:=by
 cases t with
 | true=>exact(show h.IsTupleIter i l k from x).at e
 | false=>exact(show h.IsListIter i l k from x).at e
theorem SIt.obj(x:SIt t h i l k):∃o,h.get? i=some o/\∀v,o.data≠.cell v:=by
 cases t with
 | true =>
  obtain⟨o,e,c,d⟩:=(show h.IsTupleIter i l k from x)
  exact⟨o,e,λv z=>by rw[d]at z;cases z⟩
 | false =>
  obtain⟨o,e,c,d⟩:=(show h.IsListIter i l k from x)
  exact⟨o,e,λv z=>by rw[d]at z;cases z⟩
theorem Sq.is(I:Inv X pins σ H s)(h:Sq t X.K H a xs):∃its,ax xs its/\SIs t s.heap a its.toArray/\xs.length<=sizeLine:=by
 cases t with
 | true=>exact I.tuple (show SqT X.K H a xs from h)
 | false =>
  obtain⟨its,rr,pl,hz⟩:=I.list (show SqL X.K H a xs from h)
  exact⟨its,rr,pl.isList,hz⟩
theorem Sq.inj(I:Inv X pins σ H s)(h:Sq t X.K H a xs)(h':Sq t X.K H a ys):xs=ys:=by
 cases t with
 | true=>exact I.tuple_inj h h'
 | false=>exact I.list_inj h h'
theorem Sq.ne(I:Inv X pins σ H s)(h:Sq t X.K H a xs)(f:vn X pins H b):a≠b:=by
 have kc:∀o,X.K.lookup a=some o->a≠b:=λo hk=>by
  have hb:=I.mod.kin a o hk
  rcases f.2.2.2.1 with z | z
  ·intro q;subst q;exact I.ok.noex a o hb z
  ·exact AAQ (AAd (AAG hb) (ABT I.ok.bsz z))
 cases t with
 | true =>
  rcases(show SqT X.K H a xs from h)with(h | ⟨_,h⟩) | ⟨o,its,n,hk,_⟩
  ·exact ad h f.1
  ·exact ad h f.1
  ·exact kc o hk
 | false =>
  rcases(show SqL X.K H a xs from h)with(h | ⟨_,h⟩) | ⟨o,its,n,hk,_⟩
  ·exact ad h f.1
  ·exact ad h f.1
  ·exact kc o hk
theorem gK(hh:A.handled=none)(t:Bool)(it l:Addr)(hne:l≠it)(items:Array Value):Draws prog w A it [it,l] items.size (λi v=>items[i]?=some v) (λi h=>SIt t h it l i/\SIs t h l items):=by
 cases t with
 | true=>exact tK hh it l hne items
 | false=>exact Draws.list hh it l hne items
def Itz(K:AA5)(t1 t2:Bool)(l1 l2:Addr):It :=
 ⟨λi H=>∃xs ys x y,Sq t1 K H l1 xs/\Sq t2 K H l2 ys/\xs[i]?=some x/\ys[i]?=some y,
  λi H v H'=>∃T x y,v=.ref T/\H T=none/\H'=upd H T (.tup [x,y])/\(∀xs,Sq t1 K H l1 xs->xs[i]?=some x)/\∀ys,Sq t2 K H l2 ys->ys[i]?=some y,
  λi H=>∃xs ys,Sq t1 K H l1 xs/\Sq t2 K H l2 ys/\(i=xs.length\/(i<xs.length/\i=ys.length))⟩
def ZSt(t1 t2:Bool)(z TI TO i1 i2 l1 l2:Addr)(i:Nat)(h:Heap):Prop:=IsZip h z TI TO .none/\IsPair h TI (.ref i1) (.ref i2)/\(∃a b,IsPair h TO a b)/\SIt t1 h i1 l1 i/\SIt t2 h i2 l2 i
theorem AD{P:Program}{w:World}{K:AA5}{elts:List Expr}{x1:Nat}{pos:Pos}{t1 t2:Bool}{z TI TO i1 i2 l1 l2:Addr}(nd:[z,TI,TO,i1,i2].Nodup) :
  Turn P w K (.Tuple elts x1 pos) (Itz K t1 t2 l1 l2) [z,TI,TO,i1,i2] z (ZSt t1 t2 z TI TO i1 i2 l1 l2) where
 mem:=AAI
 obj:=λi h ⟨hz,hTI,⟨a,b,hTO⟩,h1,h2⟩ c hc=>by
  simp only[AAH,AAf,or_false]at hc
  rcases hc with rfl | rfl | rfl | rfl | rfl
  ·exact⟨_,hz,λv q=>nomatch q⟩
  ·exact⟨_,hTI,λv q=>nomatch q⟩
  ·exact⟨_,hTO,λv q=>nomatch q⟩
  ·exact h1.obj
  ·exact h2.obj
 keep:=λi h h' ⟨hz,hTI,⟨a,b,hTO⟩,h1,h2⟩ k=>⟨k z (by simp) _ hz,k TI (by simp) _ hTI,⟨a,b,k TO (by simp) _ hTO⟩,h1.at λo e=>k i1 (by simp) o e,h2.at λo e=>k i2 (by simp) o e⟩
 item:=by
  intro X hP hw hK hc i pins s σ H E I hf ⟨hz,hTI,⟨a,b,hTO⟩,h1,h2⟩ ⟨xs,ys,x,y,q1,q2,hx,hy⟩
  subst hP hw hK
  obtain⟨us,ru,iu,hzu⟩:=q1.is I
  obtain⟨vs,rv,iv,hzv⟩:=q2.is I
  have lu:=ru.length
  have lv:=rv.length
  have f:=hf
  have nd':=nd
  simp only[AB6,AAH,AAf,or_false,not_or]at nd'
  obtain⟨⟨zTI,zTO,zi1,zi2⟩,⟨TITO,TIi1,TIi2⟩,⟨TOi1,TOi2⟩,i12,_⟩:=nd'
  have a1:l1≠i1:=q1.ne I (f i1 (by simp))
  have a2:l2≠i2:=q2.ne I (f i2 (by simp))
  have Z:ZA z TI TO i1 i2 [i1,l1] [i2,l2]:=⟨nd,by simp[zi1,AAz (q1.ne I (f z (by simp)))],by simp[TOi1,AAz (q1.ne I (f TO (by simp)))],by simp[AAz i12,AAz (q1.ne I (f i2 (by simp)))],
   by simp[zi2,AAz (q2.ne I (f z (by simp)))],by simp[TOi2,AAz (q2.ne I (f TO (by simp)))],by simp[i12,AAz (q2.ne I (f i1 (by simp)))]⟩
  have ix:i<us.length:=by have:=(AA2.mp hx).1;lia
  have iy:i<vs.length:=by have:=(AA2.mp hy).1;lia
  have hT:s.TypeIs (.ref z) "zip":=⟨_,hz,rfl⟩
  unfold pyNext
  refine AA0 (ACl (AAm (name:=AA1 "__next__") hT F.slot_zip_next (AAn F.slot_zip_next hT F.entry_zip_next ?_ (F.args_zip_next_1 (.ref z)))))
  refine Aq (k:=i) (gK (show X.A.in1.handled=none from I.ok.hd hc) t1 i1 l1 a1 us.toArray) (gK (show X.A.in1.handled=none from I.ok.hd hc) t2 i2 l2 a2 vs.toArray) Z hz hTI hTO ⟨h1,iu⟩ ⟨h2,iv⟩ (by simpa using ix) (by simpa using iy)
   λh' tk px py T hpx hpy hT' hz' hTO' s1 s2 hp hk=>AA3 ⟨_,rfl,?_⟩
  refine wpAny_letOwnedTupleGo_zip hz' λh2 hz2 hs2=>?_
  have zne:T≠z:=λq=>by subst q;exact absurd (AAG hz) (Nat.not_lt_of_le hT')
  obtain⟨px',epx,rpx⟩:=ru.get hx
  obtain⟨py',epy,rpy⟩:=rv.get hy
  have e1:px'=px:=by rw[ADy,epx]at hpx;exact AAR hpx
  have e2:py'=py:=by rw[ADy,epy]at hpy;exact AAR hpy
  subst e1 e2
  have hp2:IsPair h2 T px' py':=hs2.extBut _ _ zne hp
  refine⟨.ref T,upd H T (.tup [x,y]),?_,rfl,⟨T,x,y,rfl,I.hok.fresh hT',rfl,λzs hq=>by rw[hq.inj I q1];exact hx,λzs hq=>by rw[hq.inj I q2];exact hy⟩,
   ⟨hz2,hs2.extBut _ _ (AAz zTI) (hk _ _ (AAz zTI) TITO TIi1 TIi2 hTI),⟨_,_,hs2.extBut _ _ (AAz zTO) hTO'⟩,s1.1.at λo e=>hs2.extBut _ _ (AAz zi1) e,s2.1.at λo e=>hs2.extBut _ _ (AAz zi2) e⟩,λc hc=>?_⟩
  ·refine I.turnedT (t':=tk) hf (λc o hc e=>?_) hT' ⟨by simp[ABl],[px',py'],.cons rpx (.cons rpy .nil),⟨_,hp2,rfl,⟨0,rfl⟩,rfl⟩⟩
   simp only[AAH,AAf,or_false,not_or]at hc
   exact hs2.extBut _ _ hc.1 (hk _ _ hc.1 hc.2.2.1 hc.2.2.2.1 hc.2.2.2.2 e)
  ·obtain⟨oc,ec⟩:∃o,s.heap.get? c=some o:=by
    simp only[AAH,AAf,or_false]at hc
    rcases hc with rfl | rfl | rfl | rfl | rfl
    ·exact⟨_,hz⟩
    ·exact⟨_,hTI⟩
    ·exact⟨_,hTO⟩
    ·obtain⟨o,e,_⟩:=h1.obj;exact⟨o,e⟩
    ·obtain⟨o,e,_⟩:=SIt.obj ‹SIt t2 s.heap _ l2 i›;exact⟨o,e⟩
   rw[av (AAQ (AAd (AAG ec) hT'))]
   exact(hf c hc).1
 done:=by
  intro X hP hw hK hc i pins s σ H E I hf ⟨hz,hTI,⟨a,b,hTO⟩,h1,h2⟩ ⟨xs,ys,q1,q2,hend⟩
  subst hP hw hK
  obtain⟨us,ru,iu,hzu⟩:=q1.is I
  obtain⟨vs,rv,iv,hzv⟩:=q2.is I
  have lu:=ru.length
  have lv:=rv.length
  have f:=hf
  have nd':=nd
  simp only[AB6,AAH,AAf,or_false,not_or]at nd'
  obtain⟨⟨zTI,zTO,zi1,zi2⟩,⟨TITO,TIi1,TIi2⟩,⟨TOi1,TOi2⟩,i12,_⟩:=nd'
  have a1:l1≠i1:=q1.ne I (f i1 (by simp))
  have a2:l2≠i2:=q2.ne I (f i2 (by simp))
  have Z:ZA z TI TO i1 i2 [i1,l1] [i2,l2]:=⟨nd,by simp[zi1,AAz (q1.ne I (f z (by simp)))],by simp[TOi1,AAz (q1.ne I (f TO (by simp)))],by simp[AAz i12,AAz (q1.ne I (f i2 (by simp)))],
   by simp[zi2,AAz (q2.ne I (f z (by simp)))],by simp[TOi2,AAz (q2.ne I (f TO (by simp)))],by simp[i12,AAz (q2.ne I (f i1 (by simp)))]⟩
  have hT:s.TypeIs (.ref z) "zip":=⟨_,hz,rfl⟩
  unfold pyNext
  refine AA0 (ACl (AAm (name:=AA1 "__next__") hT F.slot_zip_next (AAn F.slot_zip_next hT F.entry_zip_next ?_ (F.args_zip_next_1 (.ref z)))))
  refine As (k:=i) (gK (show X.A.in1.handled=none from I.ok.hd hc) t1 i1 l1 a1 us.toArray) (gK (show X.A.in1.handled=none from I.ok.hd hc) t2 i2 l2 a2 vs.toArray) Z hz hTI hTO ⟨h1,iu⟩ ⟨h2,iv⟩ ?_ λh' tk e hk ⟨o,ho,ho'⟩=>?_
  ·rw[AAB,AAB,←lu,←lv]
   exact hend
  ·refine AA0 (ACN (T:="StopIteration") (b:=true) ⟨o,ho,ho'⟩ isSubtype_stop (AA3 ⟨rfl,?_⟩))
   refine I.turnedL (t':=tk) hf λc o hc e=>?_
   simp only[AAH,AAf,or_false,not_or]at hc
   exact hk _ _ hc.1 hc.2.2.1 hc.2.2.2.1 hc.2.2.2.2 e
 self:=λ_ _ _ _ _ st h=>wpAny_pyIter_zip st.1 h
end
abbrev itO(t:Bool)(l:Addr):Obj:={ cls:=.type (if t=true then "tuple_iterator" else "list_iterator"),data:=.fields #[.ref l,.int 0 0] }
section
variable{prog:Program}{w:World}{A:Around}{E:Value->Shared->Prop}{s:Shared}
theorem uR(h:SIs t s.heap l xs)(q:Q (.ref s.heap.objs.size) { s with heap:=s.heap.push (itO t l) }):wpAny (model prog w) A (pyIter (.ref l)) Q E s:=by
 cases t with
 | true=>exact wpAny_pyIter_tuple (show s.heap.IsTuple l xs from h) q
 | false=>exact ADo (show s.heap.IsList l xs from h) q
abbrev zp1(h:Heap)(t1:Bool)(l1:Addr):Heap:=h.push (itO t1 l1)
abbrev zp2(h:Heap)(t1 t2:Bool)(l1 l2:Addr):Heap:=(zp1 h t1 l1).push (itO t2 l2)
abbrev zp3(h:Heap)(t1 t2:Bool)(l1 l2:Addr):Heap:=(zp2 h t1 t2 l1 l2).push { cls:=.type "tuple",data:=.seq #[.ref h.objs.size,.ref (zp1 h t1 l1).objs.size] }
abbrev zp4(h:Heap)(t1 t2:Bool)(l1 l2:Addr):Heap:=(zp3 h t1 t2 l1 l2).push { cls:=.type "tuple",data:=.seq #[.none,.none] }
abbrev zp5(h:Heap)(t1 t2:Bool)(l1 l2:Addr):Heap:=(zp4 h t1 t2 l1 l2).push { cls:=.type "zip",data:=.fields #[.none,.bool false,.bool false,.ref (zp2 h t1 t2 l1 l2).objs.size,.ref (zp3 h t1 t2 l1 l2).objs.size] }
theorem SIs.push(x:SIs t h l xs)(o:Obj):SIs t (h.push o) l xs:=by
 cases t with
 | true=>obtain⟨u,e,r⟩:=(show h.IsTuple l xs from x);exact(show (h.push o).IsTuple l xs from⟨u,AA4 _ e,r⟩)
 | false=>obtain⟨u,e,r⟩:=(show h.IsList l xs from x);exact(show (h.push o).IsList l xs from⟨u,AA4 _ e,r⟩)
theorem Ar(t1 t2:Bool)(l1 l2:Addr)(xs ys:Array Value):Meets (Builtin.«zip.__new__» ⟨[.type "zip",.ref l1,.ref l2],[]⟩) (λ_ R s=>SIs t1 s.heap l1 xs/\SIs t2 s.heap l2 ys/\R (.ok (.ret (.ref (zp4 s.heap t1 t2 l1 l2).objs.size))) { s with heap:=zp5 s.heap t1 t2 l1 l2 }) :=
 .of_wp λprog w A R s h=>by
  obtain⟨hp,g,d,tk,os⟩:=s;obtain⟨hl1,hl2,h⟩:=h
  have hsub:=sub_zip
  have r1:SIs t1 (Shared.heap ⟨hp,g,d,tk,os⟩) l1 xs:=hl1
  have r2:SIs t2 (Shared.heap ⟨hp.push (itO t1 l1),g,d,tk,os⟩) l2 ys:=hl2.push _
  wp_walk using uR r1,uR r2
  exact⟨_,rfl,h⟩
theorem zY(h1:SIs t1 s.heap l1 xs)(h2:SIs t2 s.heap l2 ys)
  (h:∀h',ZSt t1 t2 (s.heap.objs.size+4) (s.heap.objs.size+2) (s.heap.objs.size+3) s.heap.objs.size (s.heap.objs.size+1) l1 l2 0 h'->(∀c o,s.heap.get? c=some o->h'.get? c=some o)->Q (.ref (s.heap.objs.size+4)) { s with heap:=h' }) :
  wpAny (model prog w) A (call (.type "zip") [.ref l1,.ref l2]) Q E s:=by
 refine callType_new F.called_zip (by decide) (F.typeCall_zip_2 _ _) (F.newCall_zip_2 _ _) (λobj=>F.args_object_init_3 obj _ _) F.entry_zip_new (Ar t1 t2 l1 l2 xs ys) ⟨h1,h2,?_⟩
 have z1:(zp1 s.heap t1 l1).objs.size=s.heap.objs.size+1:=AB1 ..
 have z2:(zp2 s.heap t1 t2 l1 l2).objs.size=s.heap.objs.size+2:=by rw[AB1,z1]
 have z3:(zp3 s.heap t1 t2 l1 l2).objs.size=s.heap.objs.size+3:=by rw[AB1,z2]
 have z4:(zp4 s.heap t1 t2 l1 l2).objs.size=s.heap.objs.size+4:=by rw[AB1,z3]
 have up:∀{h:Heap}{c:Addr}{o:Obj} (u:Obj),h.get? c=some o->(h.push u).get? c=some o:=λu e=>AA4 _ e
 have g5:(zp5 s.heap t1 t2 l1 l2).get? (zp4 s.heap t1 t2 l1 l2).objs.size=some _:=AAE _ rfl
 have g4:(zp5 s.heap t1 t2 l1 l2).get? (zp3 s.heap t1 t2 l1 l2).objs.size=some _:=up _ (AAE _ rfl)
 have g3:(zp5 s.heap t1 t2 l1 l2).get? (zp2 s.heap t1 t2 l1 l2).objs.size=some _:=up _ (up _ (AAE _ rfl))
 have g2:(zp5 s.heap t1 t2 l1 l2).get? (zp1 s.heap t1 l1).objs.size=some _:=up _ (up _ (up _ (AAE _ rfl)))
 have g1:(zp5 s.heap t1 t2 l1 l2).get? s.heap.objs.size=some _:=up _ (up _ (up _ (up _ (AAE _ rfl))))
 have si:∀(t:Bool) (h:Heap) (a l:Addr),h.get? a=some (itO t l)->SIt t h a l 0:=λt h a l e=>by cases t<;>exact⟨_,e,rfl,rfl⟩
 show _/\_
 rw[z2,z3,z4]at g5
 rw[z1,z2]at g3
 rw[z3]at g4
 rw[z1]at g2
 rw[z4]
 exact⟨⟨_,g5,rfl⟩,h _ ⟨g5,g3,⟨_,_,g4⟩,si _ _ _ _ g1,si _ _ _ _ g2⟩ λc o q=>up _ (up _ (up _ (up _ (up _ q))))⟩
end
def wK(xs ys:List D):List D:=(xs.zip ys).map λp=>.tup [p.1,p.2]
def Ak(M:Mem)(x:D)(xs:List D)(ok:Mem->Prop):Prop:=match x with
 | .tup ds=>xs=ds/\ok=λ_=>True
 | .ref n=>al M n xs/\ok=λM=>al M n xs
 | _=>False
def dZip(ta:DTA):DTI:=λS M R=>ta S M λds M1=>match ds with
 | [x,y]=>∃xs ys o1 o2,Ak M1 x xs o1/\Ak M1 y ys o2/\R ⟨wK xs ys,λM=>o1 M/\o2 M⟩ M1
 | _=>False
theorem Cs:bootBuiltins "zip" = some (.type "zip"):=by decide +kernel
section
variable{X:Cx}
theorem Ak.sq(sm:Sim X.K ρ M H)(h:Ak M x xs ok)(r:Rep X.K ρ H x v)(e:aK v u) :
  ∃(t:Bool) (l:Addr),u=.ref l/\ok M/\∀ρ' M' H',Sim X.K ρ' M' H'->Grow X.K ρ H ρ' H'->ok M'->∃vs,Sq t X.K H' l vs/\Reps X.K ρ' H' xs vs:=by
 unfold Ak at h
 split at h
 ·obtain⟨rfl,rfl⟩:=h
  obtain⟨a,vs,rfl,hq,r⟩:=Rep.inv_tup r
  cases e
  exact⟨true,a,rfl,trivial,λρ' M' H' sm' g _=>⟨vs,g.tup a vs hq,r.grow g⟩⟩
 ·obtain⟨h,rfl⟩:=h
  cases r with
  | @ref n a hn =>
   cases e
   exact⟨false,a,rfl,h,λρ' M' H' sm' g ok=>al.seq sm' ok (aY g.pre hn)⟩
 ·exact h.elim
theorem ItD.zip{ρ:List Addr}{H:Hp}{xs ys:List D}{o1 o2:Mem->Prop}{t1 t2:Bool}{l1 l2:Addr}{K:AA5}
  (h1:∀ρ' M' H',Sim K ρ' M' H'->Grow K ρ H ρ' H'->o1 M'->∃vs,Sq t1 K H' l1 vs/\Reps K ρ' H' xs vs) (h2:∀ρ' M' H',Sim K ρ' M' H'->Grow K ρ H ρ' H'->o2 M'->∃vs,Sq t2 K H' l2 vs/\Reps K ρ' H' ys vs) :
  ItD K ⟨wK xs ys,λM=>o1 M/\o2 M⟩ ρ H (Itz K t1 t2 l1 l2) where
 go:=λi ρ' M' H' sm g ok hi=>by
  obtain⟨vs,q1,r1⟩:=h1 ρ' M' H' sm g ok.1
  obtain⟨ws,q2,r2⟩:=h2 ρ' M' H' sm g ok.2
  have hi':i<xs.length/\i<ys.length:=by simpa [wK,Nat.lt_min]using hi
  have e1:=r1.length
  have e2:=r2.length
  exact⟨vs,ws,_,_,q1,q2,AA7 (by lia),AA7 (by lia)⟩
 yld:=λi ρ' M' H' x H2 sm g ok hi y=>by
  obtain⟨vs,q1,r1⟩:=h1 ρ' M' H' sm g ok.1
  obtain⟨ws,q2,r2⟩:=h2 ρ' M' H' sm g ok.2
  obtain⟨T,a,b,rfl,hT,rfl,ha,hb⟩:=y
  obtain⟨d,hd,rd⟩:=r1.getV (ha vs q1)
  obtain⟨e,he,re⟩:=r2.getV (hb ws q2)
  refine⟨.tup [d,e],ρ',?_,sm.laid hT,Grow.laid hT,.tup (SqT.of aV) (.cons (rd.grow (Grow.laid hT)) (.cons (re.grow (Grow.laid hT)) .nil))⟩
  show (wK xs ys)[i]?=_
  have:(xs.zip ys)[i]?=some (d,e):=List.getElem?_zip_eq_some.mpr ⟨hd,he⟩
  rw[wK,AAU,this]
  rfl
 stop:=λρ' M' H' sm g ok=>by
  obtain⟨vs,q1,r1⟩:=h1 ρ' M' H' sm g ok.1
  obtain⟨ws,q2,r2⟩:=h2 ρ' M' H' sm g ok.2
  have e1:=r1.length
  have e2:=r2.length
  refine⟨vs,ws,q1,q2,?_⟩
  show (wK xs ys).length=_\/_
  rw[wK,AA6,List.length_zip]
  lia
theorem Jw(hm:X.mg "zip" = none)(ha:DA X [a,b] ta)(hg:Gl X "zip":=by rfl)(hs:starEach [a,b] X.env=[(false,eval a X.env),(false,eval b X.env)]:=by rfl)(hs2:starEach [b] X.env=[(false,eval b X.env)]:=by rfl) :
  DI X (.Tuple elts x1 q) (.Call (.Name "zip" p) [a,b] [] pos) (dZip ta):=by
 intro pins s σ H R I h
 obtain⟨S,M,ρ,Q,sm,sr,hq,k⟩:=h
 refine Call_ (gF I hg hm Cs (ACB (thn (ha pos pins s σ H _ I ⟨S,M,ρ,_,sm,sr,hq,λv H' w=>w⟩) λus s1 ⟨vs,H1,I1,r1,ds,M1,ρ1,sm1,g1,rr,q1⟩=>?_) (by rw[hs,hs2]) (by rw[hs2];rfl)))
 try dsimp only at q1
 split at q1
 ·obtain⟨xs,ys,o1,o2,w1,w2,q2⟩:=q1
  first | have hzz:=Reps.inv_cons rr | have hzz:=ax.inv_cons rr
  clear rr
  obtain⟨_,_,rfl,d1,rr⟩:=hzz
  first | have hzz:=Reps.inv_cons rr | have hzz:=ax.inv_cons rr
  clear rr
  obtain⟨_,_,rfl,d2,rr⟩:=hzz
  cases rr
  first | have hzz:=Reps.inv_cons r1 | have hzz:=ax.inv_cons r1
  clear r1
  obtain⟨_,_,rfl,b1,r1⟩:=hzz
  first | have hzz:=Reps.inv_cons r1 | have hzz:=ax.inv_cons r1
  clear r1
  obtain⟨_,_,rfl,b2,r1⟩:=hzz
  cases r1
  obtain⟨t1,l1,rfl,k1,f1⟩:=w1.sq sm1 d1 b1
  obtain⟨t2,l2,rfl,k2,f2⟩:=w2.sq sm1 d2 b2
  obtain⟨as,qa,_⟩:=f1 ρ1 M1 H1 sm1 .refl k1
  obtain⟨bs,qb,_⟩:=f2 ρ1 M1 H1 sm1 .refl k2
  obtain⟨is,_,ia,_⟩:=qa.is I1
  obtain⟨js,_,ib,_⟩:=qb.is I1
  refine zY ia ib λh' st kp=>?_
  refine wpAny_pyIter_zip st.1 ?_
  have nd:[s1.heap.objs.size+4,s1.heap.objs.size+2,s1.heap.objs.size+3,s1.heap.objs.size,s1.heap.objs.size+1].Nodup:=by simp
  refine⟨s1.heap.objs.size+4,_,_,_,H1,rfl,I1.kept (t':=s1.toks) kp,AD nd,st,λc hc=>?_,k _ H1 ⟨_,M1,ρ1,sm1,g1,ItD.zip f1 f2,q2⟩⟩
  have hc':s1.heap.objs.size<=c:=by
   simp only[AAH,AAf,or_false]at hc
   rcases hc with rfl | rfl | rfl | rfl | rfl<;>first | exact AE2 _ _ | exact AAD _
  exact I1.fpOk hc' (I1.hok.fresh hc')
 ·exact q1.elim
end
end L2
namespace L2
open PySem PySem.Spec PyProof.Rows DL PySem.W
section
variable{X:Cx}{e:Expr}{te:DTE}{pos p2:Pos}
end
section
variable{X:Cx}
theorem qj{K:AA5}{ρ:List Addr}{H:Hp}:∀xs:List Str,Reps K ρ H (xs.map D.str) (xs.map V.str)
 | []=>.nil
 | x::xs=>.cons (.str x) (qj xs)
end
end L2
namespace L2
open PySem PySem.Spec PyProof.Rows DL PySem.W
section
variable{prog:Program}{w:World}{A:Around}{E:Value->Shared->Prop}{s:Shared}
theorem sN{D:Addr}{vs:List Value}{n:Nat}{Q:Value->Shared->Prop}(ho:s.heap.get? D=some (seqObj "list" vs.toArray n))(h2:vs.length<2)
  (h:∀h' c,(∀b o,b≠D->s.heap.get? b=some o->h'.get? b=some o)->h'.get? D=some (seqObj "list" vs.toArray c)->Q .none { s with heap:=h' }):wpAny (model prog w) A (call (.builtin "list.sort") [.ref D]) Q E s:=by
 have few:vs.length<=sizeLine:=by rw[ABl];lia
 refine AAn slot_list_sort (⟨_,ho,rfl⟩) entry_list_sort ?_ (args_list_sort (.ref D))
 rw[list_sort_plain]
 refine AA0 (listItems_at ho rfl (AA0 (listUpdate_at ho rfl ?_ (by rw[AAB];exact few) (AAT _))))
 obtain⟨e1,ho1⟩:∃e1,(s.heap.update D (ABZ λ_=>(#[]:Array Value))).get? D=some (seqObj "list" #[] e1):=⟨_,AEE ho λ_=>#[]⟩
 refine AA0 (seqEpoch_at ho1 rfl (AA0 (wpAny_newTuple (AA0 (AE6 (AAp ?_) (AAT _))) few)))
 dsimp only
 have hv2:vs.toArray.size<2:=by rw[AAB];exact h2
 rw[if_pos hv2,if_pos hv2]
 refine AA0 (AA3 ?_)
 rw[StateT.run_pure]
 refine AA0 (AA3 ?_)
 dsimp only
 generalize hg3:((s.heap.update D (ABZ λ_=>(#[]:Array Value))).push (seqObj "tuple" vs.toArray 0)).push (seqObj "list" #[] 0)=g3
 have ho3:g3.get? D=some (seqObj "list" #[] e1):=by rw[←hg3];exact AA4 _ (AA4 _ ho1)
 have k3:∀b o,b≠D->s.heap.get? b=some o->g3.get? b=some o:=λb o hb q=>by
  rw[←hg3]
  refine AA4 _ (AA4 _ ?_)
  rw[ACk _ _ _ _ hb]
  exact q
 refine AA0 (seqEpoch_at ho3 rfl ?_)
 have eo:∀us:List Value,us.length<2->(us.toArray.zip us.toArray).map (·.2)=us.toArray:=λus hu=>by
  match us,hu with
  | [],_=>simp
  | [v],_=>simp
  | _::_::_,hu=>simp at hu;lia
 have eout:(arrOf (SortSt.mk' general' (vs.toArray.zip vs.toArray) #[] 7 none)).map (·.2)=vs.toArray:=eo vs h2
 rw[eout]
 refine AA0 (listUpdate_at ho3 rfl ?_ (AAT _) (by rw[AAB];exact Nat.le_succ_of_le few))
 simp only[show failedOf (SortSt.mk' general' (vs.toArray.zip vs.toArray) #[] 7 none)=none from rfl,bne_self_eq_false,AAF,if_false]
 obtain⟨c2,hc2⟩:∃c2,(g3.update D (ABZ λ_=>vs.toArray)).get? D=some (seqObj "list" vs.toArray c2):=⟨_,AEE ho3 λ_=>vs.toArray⟩
 refine AA3 ⟨_,rfl,h _ c2 (λb o hb q=>?_) hc2⟩
 rw[ACk _ _ _ _ hb]
 exact k3 b o hb q
end
section
variable{X:Cx}{pins:List (Addr×Obj)}{σ:St}{H:Hp}{s:Shared}{ρ:List Addr}{M:Mem}
theorem sf{k:Nat}{D:Addr}{xs:List L2.D}{ws:List V}{its:List Value}{R:VK}{h1:Heap}{tk n:Nat}{m:Str->Option Value}{A:Around}{E:Value->Shared->Prop}(hr:Room k X.A)(hA:A.units<=X.A.units+4)(I:Inv X pins σ H s)(sm:Sim X.K ρ M H)(so:SrtG M xs)(r:Reps X.K ρ H xs ws)(rr:ax ws its)
  (hn:s.heap.Ns X.env.locals m) (hn1:h1.Ns X.env.locals m) (kp1:∀b u,b≠X.env.locals->s.heap.get? b=some u->h1.get? b=some u) (hD:s.heap.get? D=none) (hne:D≠X.env.locals) (ho:h1.get? D=some (seqObj "list" its.toArray n))
  (kk:∀v H',((∀Q:DK,(∀ys,ys.Perm xs->wN M ys->Q (.ref M.length) (M++[.lst ys]))->VQ X.K ρ H Q v H'))->R v H') :
  wpAny (model X.prog X.w) A (call (.builtin "list.sort") [.ref D]) (λ_ s'=>EP X pins σ R (.ref D) s') E { s with heap:=h1,toks:=tk }:=by
 have lw:=r.length
 have li:=rr.length
 have l64:=so.len
 have hH:H D=none:=HOk.none I.hok hD
 have neD:∀b u,s.heap.get? b=some u->b≠D:=λb u e q=>by subst q;rw[hD]at e;cases e
 by_cases h2:its.length<2
 ·refine sN ho h2 λh' c kp' ho'=>?_
  have hn':h'.Ns X.env.locals m:=by
   obtain⟨o,es,ep,e,aN⟩:=hn1
   exact⟨o,es,ep,kp' _ _ (AAz hne) e,aN⟩
  refine⟨.ref D,_,I.laidF (t':=tk) (o:=.lst ws) (λb u hb e=>kp' b u (neD b u e) (kp1 b u hb e)) hn hn' hD hH ⟨by rw[ABl];lia,its,c,rr,ho'⟩,rfl,kk _ _ λQ hQ=>VQ.laidL sm .refl r hH (hQ xs (ADH _) ?_)⟩
  unfold wN
  match xs,(show xs.length<2 by lia) with
  | [],_=>exact ADm
  | [x],_=>exact ADa _ _
  | _::_::_,hx=>simp at hx;lia
 ·have h2':2<=its.length:=by lia
  have mem:∀a o,(a,o)∈Att.ledger h1 X.env.locals D↔a≠X.env.locals/\a≠D/\h1.get? a=some o:=λa o=>Att.mem_ledger
  have U:UpdF D (seqObj "list" its.toArray n) ([]++(D,seqObj "list" its.toArray n)::Att.ledger h1 X.env.locals D) λo'=>(D,o')::Att.ledger h1 X.env.locals D:=UpdF.head λp hp=>((mem p.1 p.2).mp hp).2.1
  refine kat_lsort (s:={ s with heap:=h1,toks:=tk }) (vs:=its) (Att.fr_all hn1) (Att.news_ledger hne ho) U rfl h2' (by lia) λe1 h' F' N'=>?_
  have kp:∀b u,b≠X.env.locals->s.heap.get? b=some u->h'.get? b=some u:=λb u hb e=>(N' (b,u) (AA9 _ ((mem b u).mpr ⟨hb,neD b u e,kp1 b u hb e⟩))).1
  have I':Inv X pins σ H { s with heap:=h',toks:=tk }:=I.keptF (t':=tk) kp hn F'.ns
  have hu:A.in1.units+eqN<cLine:=by
   have:=hr.un
   have:eqN=30:=rfl
   show A.units+1+eqN<cLine
   lia
  refine ABh (pZ I' sm so r rr h2' hu) (λκ s' hk=>?_) λ_ _ x=>x
  obtain⟨rfl,hask⟩:=hk
  refine Srt.wp_run (n:=its.length) (c:=λi j=>if i<xs.length then(if j<xs.length then ltD M eqN (xs.getD i default) (xs.getD j default)else true)else false) (λi j C hi hj hc=>?_) _ (Srt.sort_bd (by lia)).1 ?_
  ·refine hask i j C hi hj ?_
   rw[if_pos (by lia),if_pos (by lia)]at hc
   exact hc
  ·have hent:=Srt.All.run (c:=λi j=>if i<xs.length then(if j<xs.length then ltD M eqN (xs.getD i default) (xs.getD j default)else true)else false) _ (Srt.sort_bd (n:=its.length) (by lia)).2
   obtain⟨o1,o2,o3⟩:=Hv so
   have hsl:=Srt.sort_list xs (by lia) o1 o2 o3
   try dsimp only at hsl
   rw[show xs.length=its.length by lia]at hsl hent ⊢
   generalize Srt.run _ (AEK its.length)=p at hent hsl ⊢
   have hi:∀i∈p.toList,i<xs.length:=λi h=>by
    have:=hent.mem_iff.mp h
    rw[AAk]at this
    lia
   refine KasFin.intro F' N' (UpdF.head λq hq=>((mem q.1 q.2).mp hq).2.1) λh2 c F2 N2=>?_
   have r':=r.perm p.toList hi
   have rr':=rr.perm p.toList (λi h=>by have:=hi i h;lia)
   refine⟨.ref D,_,I.laidF (t':=tk) (o:=.lst (p.toList.map λi=>ws.getD i .non)) (λb u hb e=>(N2 (b,u) (AA9 _ ((mem b u).mpr ⟨hb,neD b u e,kp1 b u hb e⟩))).1) hn F2.ns hD hH ⟨?_,_,c,rr',(N2 _ AAI).1⟩,rfl,
    kk _ _ λQ hQ=>VQ.laidL sm .refl r' hH (hQ _ hsl.1 hsl.2)⟩
   rw[AA6]
   have:=hsl.1.length_eq
   rw[AA6]at this
   rw[ABl]
   lia
end
section
variable{K:AA5}{ρ:List Addr}{H:Hp}{M:Mem}
theorem Sim.laidM(S:Sim K ρ M H)(hp:H p=none)(ok:wO K (ρ++[p]) (upd H p o) p mo):Sim K (ρ++[p]) (M++[mo]) (upd H p o):=by
 have g:Grow K ρ H (ρ++[p]) (upd H p o):=Grow.laidR hp
 have old:∀(n:Nat),ρ[n]?=some p->isK M[n]?:=λn e=>by
  rcases S.tracked e with⟨o,q⟩ | q
  ·rw[hp]at q;cases q
  ·exact q
 refine⟨λn m a hnm e1 e2=>?_,by rw[AA8,AA8,S.len];rfl,λn a mo' e1 e2=>?_⟩
 ·rcases aP e1 with f1 | ⟨f1,g1⟩
  ·rcases aP e2 with f2 | ⟨f2,g2⟩
   ·exact(S.nd n m a hnm f1 f2).elim (λz=>.inl z.more) λz=>.inr z.more
   ·subst g2
    exact .inl (old n f1).more
  ·rcases aP e2 with f2 | ⟨f2,g2⟩
   ·subst g1
    exact .inr (old m f2).more
   ·exact absurd (f1.trans f2.symm) hnm
 ·rcases aP e1 with f1 | ⟨f1,g1⟩
  ·have hn:n<M.length:=by rw[←S.len];exact(AA2.mp f1).1
   rw[AAJ hn]at e2
   exact(S.obj n a mo' f1 e2).grow g (S.keeps hp f1 e2)
  ·subst g1 f1
   rw[S.len,AAg (AAD _),ABy]at e2
   simp at e2
   subst e2
   exact ok
theorem SqT.writtenD(hp:H p=some (.dK kv))(h:SqT K H a xs):SqT K (upd H p o) a xs:=by
 rcases h with h | h
 ·rcases h with h | ⟨ob,h⟩
  ·exact .inl (.inl (by rw[av (sJ h hp (by intro z;cases z))];exact h))
  ·exact .inl (.inr ⟨ob,by rw[av (sJ h hp (by intro z;cases z))];exact h⟩)
 ·exact .inr h
theorem Sim.writeD(S:Sim K ρ M H)(e1:ρ[n]?=some a)(hM:M[n]?=some (.dct kvs))(hH:H a=some (.dK kv))(r:Reps K ρ H (kvs'.map (·.2)) vs') :
  Sim K ρ (M.set n (.dct kvs')) (upd H a (.dK (nD (kvs'.map (·.1)) vs')))/\Grow K ρ H ρ (upd H a (.dK (nD (kvs'.map (·.1)) vs'))):=by
 have g:Grow K ρ H ρ (upd H a (.dK (nD (kvs'.map (·.1)) vs'))):=⟨ACb,λ_ _ h=>SqT.writtenD hH h⟩
 have hk:∀m,m≠n->(M.set n (.dct kvs'))[m]?=M[m]?:=λm hm=>AAt (AAz hm)
 have notK:¬isK M[n]?:=λ⟨_,z⟩=>by rw[hM]at z;cases z
 refine⟨⟨λm m' b hne f1 f2=>?_,by rw[ABO];exact S.len,λm b mo f1 f2=>?_⟩,g⟩
 ·have q:=S.nd m m' b hne f1 f2
  by_cases h1:m=n
  ·subst h1
   rw[hk m' (AAz hne)]
   exact .inr (q.resolve_left notK)
  ·rw[hk m h1]
   by_cases h2:m'=n
   ·subst h2
    exact .inl (q.resolve_right notK)
   ·rw[hk m' h2]
    exact q
 by_cases hm:m=n
 ·subst hm
  have hb:b=a:=AAR (f1.symm.trans e1)
  subst hb
  rw[ABD (by rw[←S.len];exact(AA2.mp e1).1)]at f2
  cases f2
  exact⟨vs',aV,r.grow g⟩
 ·rw[hk m hm]at f2
  by_cases hb:b=a
  ·subst hb
   have q':=(S.nd m n b hm f1 e1).resolve_right notK
   rw[f2]at q'
   exact(S.obj m b mo f1 f2).grow g (.inr q')
  ·exact(S.obj m b mo f1 f2).grow g (.inl (av hb))
def uH(kvs:List (Str×D))(k:Str)(d:D):List (Str×D):=if (kvs.any λp=>decide (p.1=k))=true then kvs.map (λp=>if p.1=k then(p.1,d)else p)else kvs++[(k,d)]
theorem Fg(a b:Str):decide ((AC5 a:Key)=AC5 b)=decide (a=b):=CV a b
theorem vc:∀{kvs:List (Str×D)}{vs:List V},Reps K ρ H (kvs.map (·.2)) vs->((nD (kvs.map (·.1)) vs).any λkv=>decide (kv.1=AC5 k))=kvs.any λp=>decide (p.1=k)
 | [],_,_=>rfl
 | (k',d')::kvs,_,.cons h t=>by
  have ih:=vc (k:=k) t
  show (decide ((AC5 k':Key)=AC5 k)||(nD (kvs.map (·.1)) _).any _)=(decide (k'=k)||kvs.any _)
  rw[ih,Fg]
theorem uM(hd:Rep K ρ H d v):∀{kvs:List (Str×D)}{vs:List V},Reps K ρ H (kvs.map (·.2)) vs->∃vs',(nD (kvs.map (·.1)) vs).map (λkv=>if kv.1=AC5 k then(kv.1,v)else kv)=nD ((kvs.map λp=>if p.1=k then(p.1,d)else p).map (·.1)) vs'/\Reps K ρ H ((kvs.map λp=>if p.1=k then(p.1,d)else p).map (·.2)) vs'
 | [],_,.nil=>⟨[],rfl,.nil⟩
 | (k',d')::kvs,_,.cons (v:=v') h t=>by
  obtain⟨vs',e,r⟩:=uM (k:=k) hd t
  by_cases q:k'=k
  ·subst q
   refine⟨v::vs',?_,?_⟩
   ·simp only[AAM,if_true,nD,ABK]at e ⊢
    rw[e]
   ·simp only[AAM,if_true]
    exact .cons hd r
  ·have q':¬(AC5 k':Key)=AC5 k:=λz=>q (Sum.inr.inj z)
   refine⟨v'::vs',?_,?_⟩
   ·simp only[AAM,if_neg q,if_neg q',nD,ABK]at e ⊢
    rw[e]
   ·simp only[AAM,if_neg q]
    exact .cons h r
theorem qc:∀{kvs:List (Str×D)}{vs:List V},Reps K ρ H (kvs.map (·.2)) vs->nD (kvs.map (·.1)) vs++[(AC5 k,v)]=nD (kvs.map (·.1)++[k]) (vs++[v])
 | [],_,.nil=>rfl
 | (k',d')::kvs,_,.cons h t=>by
  have:=qc (k:=k) (v:=v) t
  simp only[AAM,nD,ABK,AC4]at this ⊢
  rw[this]
theorem DO(hd:Rep K ρ H d v)(r:Reps K ρ H (kvs.map (·.2)) vs):∃vs',rN (nD (kvs.map (·.1)) vs) (AC5 k) v=nD ((uH kvs k d).map (·.1)) vs'/\Reps K ρ H ((uH kvs k d).map (·.2)) vs':=by
 unfold rN uH
 rw[vc r]
 by_cases q:(kvs.any λp=>decide (p.1=k))=true
 ·rw[if_pos q,if_pos q]
  exact uM hd r
 ·rw[if_neg q,if_neg q]
  refine⟨vs++[v],?_,?_⟩
  ·rw[qc r,ABQ]
   rfl
  ·rw[ABQ]
   exact r.append (.cons hd .nil)
end
section
variable{X:Cx}{o i value:Expr}{td ty tv:DTE}{pos pos':Pos}
def wC(td ty tv:DTE):DTS:=λE S M=>tv S M λv M1=>td S M1 λx M2=>ty S M2 λy M3=>match x,y with
 | .ref n,.str k=>∃kvs,M3[n]?=some (.dct kvs)/\kvs.length<sizeLine/\E.nx S (M3.set n (.dct (uH kvs k v)))
 | _,_=>False
theorem FC(hu:X.A.units+1<cLine)(ho:DE X o td)(hi:DE X i ty)(hv:DE X value tv)(hs:swapsWith value (some (.Subscript o i pos')) pos.line X.env=pure false):DS X (.Assign [.Subscript o i pos'] value pos) (wC td ty tv):=by
 refine PS.imp (DX hu ho hi hv hs) λE σ H ⟨S,M,ρ,F,s,sr,q,k⟩=>⟨S,M,ρ,_,s,sr,q,λv H1 ⟨d,M1,ρ1,s1,g1,r1,q1⟩=>⟨S,M1,ρ1,_,s1,sr.grow g1,q1,λx H2 ⟨e,M2,ρ2,s2,g2,r2,q2⟩=>⟨S,M2,ρ2,_,s2,(sr.grow g1).grow g2,q2,λy H3 ⟨f,M3,ρ3,s3,g3,r3,q3⟩=>?_⟩⟩⟩
 try dsimp only at q3
 split at q3
 ·obtain⟨kvs,hM,hl,q4⟩:=q3
  obtain⟨_,rfl,hn⟩:=Rep.inv_ref r2
  cases r3
  obtain⟨vs,hH,rr⟩:=s3.obj _ _ _ (aY g3.pre hn) hM
  obtain⟨vs',e1,rr'⟩:=DO ((r1.grow g2).grow g3) rr
  obtain⟨w1,w2⟩:=s3.writeD (aY g3.pre hn) hM hH rr'
  refine⟨_,_,rfl,.inl ⟨_,AC5 _,hH,rfl,?_,by rw[e1]⟩,k.nx σ _ (SQ.trans ((g1.trans g2).trans g3) ⟨S,_,ρ3,w1,w2,(((sr.grow g1).grow g2).grow g3).grow w2,q4⟩)⟩
  have:=rr.length
  rw[AA6]at this
  rw[nD,AA6,List.length_zip,AA6]
  lia
 ·exact q3.elim
def gn:DRA:=λds M Q=>match ds with
 | [.ref n]=>∃xs,(al M n xs\/∃kvs,M[n]?=some (.dct kvs)/\xs=kvs.map λp=>.str p.1)/\SrtOk M xs/\∀ys,ys.Perm xs->wN M ys->Q (.ref M.length) (M++[.lst ys])
 | _=>False
theorem zg:∀{kvs:List (Str×D)}{vs:List V}{us:List (Key×Value)},kvs.length=vs.length->KV (nD (kvs.map (·.1)) vs) us->us.map (·.1)=kvs.map (λp=>(AC5 p.1:Key))
 | [],_,_,_,h=>by cases h;rfl
 | _::_,[],_,e,_=>by simp at e
 | p::kvs,v::vs,_,e,h=>by
  have h':KV ((AC5 p.1,v)::nD (kvs.map (·.1)) vs) _:=h
  cases h' with
  | cons a t =>
   rw[AAM,AAM,←a.1,zg (by simpa using e) t]
theorem oS:∀(ks:List Str) (vs:List Value),vs.length=ks.length->(∀(j:Nat) (v:Value),vs[j]?=some v->∃k,ks[j]?=some k/\tj (AC5 k) v=true)->ax (ks.map V.str) vs
 | [],[],_,_=>.nil
 | [],_::_,e,_=>by simp at e
 | _::_,[],e,_=>by simp at e
 | k::ks,v::vs,e,h=>by
  obtain⟨k',e1,e2⟩:=h 0 v rfl
  have:k=k':=by simpa using e1
  subst this
  rcases aT e2 with⟨i,t,z,_⟩|⟨x,t,z,rfl⟩
  ·cases z
  ·cases z
   exact .cons ⟨t,rfl⟩ (oS ks vs (by simpa using e) λj u hj=>by simpa using h (j+1) u (by simpa using hj))
theorem wE{k:Nat}(hr:Room k X.A)(hc:X.calm=true):iY X (.builtin "sorted") gn:=by
 intro pins s σ H vs us R I rv ⟨ds,M,ρ,Q,sm,rs,q,kk⟩
 unfold gn at q
 split at q
 ·obtain⟨xs,hL | ⟨kvs,hM,rfl⟩,so,q⟩:=q
  ·exact zX hr pins s σ H vs us R I rv ⟨_,M,ρ,Q,sm,rs,⟨xs,hL,so.g,q⟩,kk⟩
  ·first | have hzz:=Reps.inv_cons rs | have hzz:=ax.inv_cons rs
   clear rs
   obtain⟨_,_,rfl,r1,rs⟩:=hzz
   cases rs
   obtain⟨u,rfl,e1⟩:=ax.one rv
   obtain⟨a,rfl,e⟩:=Rep.inv_ref r1
   cases e1
   obtain⟨ws,hH,r⟩:=sm.obj _ _ _ e hM
   obtain⟨z1,z2,pvs,rel,dd⟩:=(show bJ X.prog X.w H s.heap a (.dK _)from I.hok a _ hH)
   obtain⟨ep,hat⟩:=dd.dictAt
   obtain⟨m,hn,hm⟩:=I.loc
   have hne:a≠X.env.locals:=ad hH I.free
   obtain⟨oa,_,hoa,_⟩:=id hat
   have lk:kvs.length=ws.length:=by have:=r.length;rwa [AA6]at this
   have kk':=zg lk rel
   have lp:pvs.length=kvs.length:=by have:=congrArg AD0 kk';simpa using this
   have mem:∀b o,(b,o)∈[]++(a,oa)::Att.ledger s.heap X.env.locals a↔b≠X.env.locals/\s.heap.get? b=some o:=λb o=>by
    rw[AAr,AAH,Att.mem_ledger]
    constructor
    ·rintro(h | ⟨h1,_,h3⟩)
     ·cases h;exact⟨hne,hoa⟩
     ·exact⟨h1,h3⟩
    ·rintro⟨h1,h2⟩
     by_cases hal:b=a
     ·subst hal
      rw[hoa]at h2;cases h2
      exact .inl rfl
     ·exact .inr ⟨h1,hal,h2⟩
   refine kdu_sorted (kdl_dict (knd:=br X.prog X.w) (kvs:=pvs) (ep:=ep) z2) (I.ok.hd hc) (Att.fr_all hn) (Att.news_ledger hne hoa) hat (by rw[lp,ABl];have:=so.len;rw[AA6]at this;lia) λD h' tk vs F' N' lt hl hP=>?_
   have kp:∀b u,b≠X.env.locals->s.heap.get? b=some u->h'.get? b=some u:=λb u hb e=>(N' (b,u) (AA9 _ ((mem b u).mpr ⟨hb,e⟩))).1
   have hDL:D≠X.env.locals:=(N' _ AAI).2.1
   have hD:s.heap.get? D=none:=by
    cases q:s.heap.get? D with
    | none=>rfl
    | some o=>exact absurd (lt (D,o) ((mem D o).mpr ⟨hDL,q⟩)) (AAq _)
   have rvs:ax ((kvs.map (·.1)).map V.str) vs:=by
    refine oS _ _ (by rw[AA6];lia) λj v hj=>?_
    obtain⟨key,x,e1,e2⟩:=hP j v hj
    have e3:(pvs.map (·.1))[j]?=some key:=by rw[AAU,e1];rfl
    rw[kk',AAU]at e3
    cases e4:kvs[j]? with
    | none=>rw[e4]at e3;cases e3
    | some p =>
     rw[e4]at e3
     have:key=AC5 p.1:=(AAR e3).symm
     subst this
     exact⟨p.1,by rw[AAU,e4];rfl,e2⟩
   have rps:Reps X.K ρ H (kvs.map λp=>L2.D.str p.1) ((kvs.map (·.1)).map V.str):=by
    have:=qj (K:=X.K) (ρ:=ρ) (H:=H) (kvs.map (·.1))
    rw[AAi]at this
    exact this
   exact sf (n:=0) hr (by show X.A.units+1<=X.A.units+4;lia) I sm so.g rps rvs hn F'.ns kp hD hDL (N' _ AAI).1 λv H' x=>kk v H' (x Q q)
 ·exact q.elim
end
end L2
namespace L2
open PySem PySem.Spec PyProof.Rows DL PySem.W
structure HGs(X:Cx)(es:List Expr)(t:Dk):Prop where
 ok:DGs X es t
section
variable{X:Cx}{e a b c o i tg:Expr}{es aN:List Expr}{te ta tb tc to ti:DTE}{t:DTA}{pos p p2 pos':Pos}{x:Str}{k:Nat}{g:DTG}{u:Dk}{name:Str}{apos cpos:Pos}
theorem ES:HGs X [] eZ:=⟨FH⟩
theorem BE(h1:HG X e g)(h2:HGs X es u)(hs:(assignEach (e::es) X.env).map (·.2)=assign e X.env::(assignEach es X.env).map (·.2):=by kernel_rfl):HGs X (e::es) (aR g u):=⟨Cf h1.ok h2.ok hs⟩
theorem Iq(h:HGs X es u)(hc:X.calm=true:=by kernel_rfl)(hn:(assignEach es X.env).length=n:=by kernel_rfl)(hst:(assignEach es X.env).findIdx? (·.1)=none:=by kernel_rfl):HG X (.Tuple es j pos) (eY n u):=⟨Jy h.ok hc hn hst⟩
theorem Ir(ho:HE X o to)(hi:HE X i ti)
  (ha:∀v,assign (.Subscript o i pos) X.env v=(do
   let ov ←holding [v] (eval o X.env)
   let iv ←holding [v,ov] (eval i X.env)
   standAt pos
   holding [v,ov,iv] (setItem ov iv v)
   release [v,ov,iv] []):=by intro _;kernel_rfl):HG X (.Subscript o i pos) (Cg to ti):=⟨Jz ho.ok hi.ok ha⟩
theorem CU(he:HE X e te)(hg:HG X tg g)(hs:swapsWithSole [tg] e pos.line X.env=pure false:=by kernel_rfl)(hw:swappedStores [tg] e X.env=pure none:=by kernel_rfl)
  (h1:(assignEach [tg] X.env).map (·.2)=[assign tg X.env]:=by kernel_rfl):HS X (.Assign [tg] e pos) (dAsg te g):=⟨Ju he.ok hg.ok hs hw h1⟩
theorem Io(hm:X.mg "zip" = none)(ha:HA X [a,b] t)(hg:X.env.kindOf "zip" = some .globalImplicit:=by kernel_rfl)(hs:starEach [a,b] X.env=[(false,eval a X.env),(false,eval b X.env)]:=by kernel_rfl)(hs2:starEach [b] X.env=[(false,eval b X.env)]:=by kernel_rfl) :
  HI X (.Tuple es x1 q) (.Call (.Name "zip" p) [a,b] [] pos) (dZip t):=⟨Jw hm ha.ok hg hs hs2⟩
theorem Fk:HOp X (binaryOp .Add) aJ:=⟨Ev⟩
theorem IL(hr:Room k X.A):HOp X (compareOp .Lt) GS:=⟨HQ hr⟩
theorem Fq:HC X (.type "list") xV:=⟨FV⟩
theorem BU:HC X (.type "tuple") fh:=⟨Co⟩
theorem zy(hr:Room k X.A)(hc:X.calm=true:=by kernel_rfl):HC X (.builtin "sorted") gn:=⟨wE hr hc⟩
theorem zt:HMl X "extend" ke:=⟨_,PySem.F.slot_list_extend,PySem.F.type_list_extend,we⟩
theorem AM(hr:Room k X.A):X.A.units+1<cLine:=by have:=hr.un;lia
theorem zd(hr:Room k X.A)(ho:HE X o to)(hi:HE X i ti)(hv:HE X e te)(hs:swapsWith e (some (.Subscript o i pos')) pos.line X.env=pure false:=by kernel_rfl):HS X (.Assign [.Subscript o i pos'] e pos) (wC to ti te):=⟨FC (AM hr) ho.ok hi.ok hv.ok hs⟩
end
theorem Cal.never{P:Program}{w:World}{K:AA5}{mg:Str->Option Value}{base:Heap}{k:Nat}{x:Str}{st:Stmt}{ps:List Str}{Pr:DSp}(F:bE K mg x st ps)(h:∀ds M R,¬Pr ds M R):Cal P w K mg base k x ps Pr:=by
 obtain⟨f,fd,F1,hm,hb⟩:=F
 refine⟨f,fd,⟨λvs H Q E q=>?_,λA outer s H args us vs Q E _ _ _ _ q=>?_⟩,hm,F1.kp,hb⟩
 ·obtain⟨ds,M,ρ,R,_,_,q,_⟩:=q
  exact(h ds M R q).elim
 ·obtain⟨ds,M,ρ,R,_,_,q,_⟩:=q
  exact(h ds M R q).elim
end L2
namespace L2
open PySem PySem.Spec PyProof.Rows DL PySem.W
section
variable{X:Cx}
def GD(nt:Nat)(js:List Nat)(wi:TI)(g:TG)(tt:TT)(te:TE)(gN:TG):TS:=λD σ H=>tLC nt js wi g tt te σ H λv H1=>gN v σ H1 D.nx
theorem AU(B:BlkSc X N' nt js scope)(hc:X.calm=true)(hi:PI X tg iter wi)
  (hg:∀cl s0 H0 ex,PG (blk X N' scope cl s0 H0 ex) tg g) (ht:∀cl s0 H0 ex,PTs (blk X N' scope cl s0 H0 ex) ifs tt) (he:∀cl s0 H0 ex,PE (blk X N' scope cl s0 H0 ex) elt te) (hn:PG X (.Name x pos') gN)
  (hs:∀x,foldedSetIterable iter X.env x=pure x) (hsw:swapsWith (.ListComp elt [⟨tg,iter,ifs,0⟩] scope pos) (some (.Name x pos')) pos2.line X.env=pure true) :
  PS X (.Assign [.Name x pos'] (.ListComp elt [⟨tg,iter,ifs,0⟩] scope pos) pos2) (GD nt js wi g tt te gN):=by
 intro pins s σ H Dn I h
 rw[exec_Assign_Name_used _ _ _ _ hsw]
 refine AA0 (wpAny_standAt ?_)
 obtain⟨cl,ecl,hcl1,hcl2⟩:=iR (scope:=scope) (env:=X.env) λp hp hf=>I.ok.has p.1 (B.free p hp hf)
 refine AA0 (show wpAny (model X.prog X.w) X.A (comprehension (.ListComp elt [⟨tg,iter,ifs,0⟩] scope pos) scope X.env _ (newList []) false (eval iter X.env) (some (assign (.Name x pos') X.env)) >>= λ_=>pure ()) _ _ _ from AA0 ?_)
 refine wpAny_comprehension_free (use:=some (assign (.Name x pos') X.env)) (Q:=λ_ s''=>wpAny (model X.prog X.w) X.A (pure ()) (λ_ s3=>wpAny (model X.prog X.w) X.A (pure Flow.next) (SP X pins Dn) X.xe s3) X.xe s'') rfl hs ecl B.kind B.loc ?_
 refine thn (hi pins s σ H _ I h) λv s1 h1=>thn h1 λitv s2 h2=>?_
 obtain⟨it,fp,tn,J,H2,e,I2,T,st2,f2,W,⟨m0,w0⟩,turn⟩:=h2
 subst e
 refine AAj (wpAny_newFunctionEnv B.nocell (by intro y hy;simp at hy) (λh1 hns1 hsb1=>?_) B.kind)
 have hfs:∀b∈fp,b<s2.heap.objs.size:=λb hb=>by
  obtain⟨o,e,_⟩:=T.obj _ _ st2 b hb
  exact AAG e
 have hC:(s2.heap.push (cf [] 0)).objs.size=s2.heap.objs.size+1:=AB1 ..
 have old:∀b o,(s2.heap.push (cf [] 0)).get? b=some o->h1.get? b=some o:=λb o e=>(hsb1.2 b (AAQ (AAG e))).trans (AA4 _ e)
 have I3:=I2.blkStart (tk:=s2.toks+([]:List (Str×Value)).length) B hcl1 hcl2 f2 hfs old hns1
 have st3:tn 0 h1:=T.keep _ _ _ st2 λb _ o e=>old b o (AA4 _ e)
 have hDf:s2.heap.objs.size∉fp:=λz=>AAq _ (hfs _ z)
 have hDs:s2.heap.objs.size∉frs X.stack:=λz=>by
  rcases AAH.mp (I2.stkSub _ z)with q | q
  ·exact absurd I2.lt (by rw[←q];exact AAq _)
  ·exact I2.nofs (AAD _) q
 have hDC:s2.heap.objs.size≠(s2.heap.push (cf [] 0)).objs.size:=by rw[hC];exact AAQ (AB5 _)
 have ltc:∀z c,cl.lookup z=some c->c<s2.heap.objs.size:=λz c e=>by
  obtain⟨v,q⟩:=I2.cell z c (hcl1 z c e)
  exact q.lt
 have hstat:∀b∈fp,b≠(s2.heap.push (cf [] 0)).objs.size/\b∉frs X.stack/\∀x c,cl.lookup x=some c->c≠b:=λb hb=>by
  refine⟨by rw[hC];exact AAQ (AC9 (hfs b hb)),λz=>?_,λx c e=>(f2 b hb).2.2.2.2.1 x c (hcl1 x c e)⟩
  rcases AAH.mp (I2.stkSub b z)with q | q
  ·exact(f2 b hb).2.1 q
  ·exact(f2 b hb).2.2.1 q
 have leC:s2.heap.objs.size<=(s2.heap.push (cf [] 0)).objs.size:=by rw[hC];exact ADn _
 have loop:codeAny (model X.prog X.w) X.A (.compLoop (.ListComp elt [⟨tg,iter,ifs,0⟩] scope pos) 0 (.ref it) (.ref s2.heap.objs.size) (compEnvC scope cl (s2.heap.push (cf [] 0)).objs.size X.env))
   (compPost (model X.prog X.w) X.A X.xe (some (assign (.Name x pos') X.env)) (λ_ s''=>wpAny (model X.prog X.w) X.A (pure ()) (λ_ s3=>wpAny (model X.prog X.w) X.A (pure Flow.next) (SP X pins Dn) X.xe s3) X.xe s'') (.ref s2.heap.objs.size) (s2.heap.push (cf [] 0)).objs.size) { s2 with heap:=h1,toks:=s2.toks+([]:List (Str×Value)).length }:=by
  refine za (s0:={ s2 with heap:=s2.heap.push (cf [] 0) }) (H0:=H2) (N':=N') (Q:=λv H1=>gN v σ H1 Dn.nx) hc (hg _ _ _ _) (ht _ _ _ _) (he _ _ _ _) T hDf turn hstat hDC hDs (λx c e=>AAQ (ltc x c e)) ?_ m0 I3 st3 (λb hb=>(f2 b hb).1) w0
  intro τ H' s' vs its k I4 rv hl q
  obtain⟨mm,hn4,_⟩:=id I4.loc
  obtain⟨oC,es,ep,eC,aN⟩:=id hn4
  have I5:Inv X pins σ (upd H' s2.heap.objs.size (.lst vs)) s':=I2.blkEnd f2 I4 rv hl ⟨rfl,λ_ _=>rfl⟩
  have fC:upd H' s2.heap.objs.size (.lst vs) (s2.heap.push (cf [] 0)).objs.size=none:=by rw[av (AAz hDC)];exact I4.free
  have fk:∀Hx:Hp,Hx (s2.heap.push (cf [] 0)).objs.size=none->vn X pins Hx (s2.heap.push (cf [] 0)).objs.size:=λHx hx=>I2.fpOk leC hx
  have dC:∀v,oC.data≠.cell v:=λv z=>by
   have:∃es ep,oC.data=.dict es ep:=by
    first
     | (obtain⟨d,_⟩:=aN;exact⟨_,_,d⟩)
     | (obtain⟨_,d,_⟩:=aN;exact⟨_,_,d⟩)
     | (obtain⟨_,_,d,_⟩:=aN;exact⟨_,_,d⟩)
   obtain⟨_,_,d⟩:=this
   rw[d]at z;cases z
  have I6:Inv X (pins++[((s2.heap.push (cf [] 0)).objs.size,oC)]) σ (upd H' s2.heap.objs.size (.lst vs)) s':=I5.pins_of λp hp=>by
   rcases AAl.mp hp with hp | hp
   ·exact I5.pin p (AAc _ hp)
   ·have:p=((s2.heap.push (cf [] 0)).objs.size,oC):=by simpa using hp
    subst this
    exact⟨eC,fC,(fk _ fC).2.1,(fk _ fC).2.2.1,dC⟩
  refine thn (hn _ s' σ _ (.ref s2.heap.objs.size) (.ref s2.heap.objs.size) _ I6 rfl q) λ_ s7 ⟨σ7,H7,I7,q7⟩=>?_
  obtain⟨p1,p2,_⟩:=I7.pin ((s2.heap.push (cf [] 0)).objs.size,oC) (AAc _ (AAc _ AAI))
  refine⟨mm,⟨oC,es,ep,p1,aN⟩,λh' sb=>AA3 (AA3 ⟨σ7,H7,?_,q7⟩)⟩
  have I8:Inv X pins σ7 H7 s7:=I7.pins_of λp hp=>I7.pin p (AAc _ (ACY _ hp))
  refine I8.turnedL (t':=s7.toks) (fp:=[(s2.heap.push (cf [] 0)).objs.size]) (λb hb=>?_) λb o hb e=>(sb.2 b (by simpa using hb)).trans e
  have:b=(s2.heap.push (cf [] 0)).objs.size:=by simpa using hb
  subst this
  exact fk H7 p2
 exact codeAny_compStart_list loop (T.self _ 0 _ _ _ st3 loop)
def ls(nt:Nat)(js:List Nat)(di:DTI)(g:DTG)(tt:DTT)(te:DTE)(i:Nat):DTS:=λE S M=>dLC nt js di g tt te S M λd M1=>ar i d S M1 E.nx
theorem Cd(B:BlkSc X N' nt js scope)(hc:X.calm=true)(hi:DI X tg iter di)
  (hg:∀cl s0 H0 ex,DG (blk X N' scope cl s0 H0 ex) tg g) (ht:∀cl s0 H0 ex,PTs (blk X N' scope cl s0 H0 ex) ifs (lowT X.K tt)) (he:∀cl s0 H0 ex,DE (blk X N' scope cl s0 H0 ex) elt te) (hn:DG X (.Name x pos') (ar i))
  (hs:∀x,foldedSetIterable iter X.env x=pure x) (hsw:swapsWith (.ListComp elt [⟨tg,iter,ifs,0⟩] scope pos) (some (.Name x pos')) pos2.line X.env=pure true) :
  DS X (.Assign [.Name x pos'] (.ListComp elt [⟨tg,iter,ifs,0⟩] scope pos) pos2) (ls nt js di g tt te i) :=
 PS.imp (AU (g:=lowG X.K g) (tt:=lowT X.K tt) (te:=lowE X.K te) B hc hi (λcl s0 H0 ex=>hg cl s0 H0 ex) ht (λcl s0 H0 ex=>he cl s0 H0 ex) hn hs hsw) λE σ H ⟨S,M,ρ,F,s,sr,q,k⟩ =>
  yO σ H _ ⟨S,M,ρ,_,s,sr,q,λv H1 ⟨d,M1,ρ1,s1,g1,r1,q1⟩=>⟨d,S,M1,ρ1,_,s1,sr.grow g1,r1,q1,λσ' H' w=>k.nx σ' H' (SQ.trans g1 w)⟩⟩
theorem BC(hN:X.N.Nodup)(hi:HI X tg iter di)
  (hg:∀cl s0 H0 ex,HG (blk X N' scope cl s0 H0 ex) tg g) (ht:∀cl s0 H0 ex,HTs (blk X N' scope cl s0 H0 ex) ifs tt) (he:∀cl s0 H0 ex,HE (blk X N' scope cl s0 H0 ex) elt te) (B:mO X.env.scope.names X.N N' nt js scope=true:=by kernel_rfl) (hc:X.calm=true:=by kernel_rfl)
  (hs:∀x,foldedSetIterable iter X.env x=pure x:=by intro _;kernel_rfl) (hsw:swapsWith (.ListComp elt [⟨tg,iter,ifs,0⟩] scope pos) (some (.Name x pos')) pos2.line X.env=pure true:=by kernel_rfl)
  (hix:X.N[i]?=some x:=by kernel_rfl) (hx:Gj X.env.scope x=true:=by kernel_rfl) (hf:X.fn x=true:=by kernel_rfl):HS X (.Assign [.Name x pos'] (.ListComp elt [⟨tg,iter,ifs,0⟩] scope pos) pos2) (ls nt js di g tt te i) :=
 ⟨Cd (BlkSc.chk B) hc hi.ok (λcl s0 H0 ex=>(hg cl s0 H0 ex).ok) (λcl s0 H0 ex=>(ht cl s0 H0 ex).ok) (λcl s0 H0 ex=>(he cl s0 H0 ex).ok) (tL hN hix (yQ hx) (.inl hf)) hs hsw⟩
end
end L2
namespace L2
open PySem PySem.Spec PyProof.Rows DL PySem.W
theorem at0:atI (a::r) 0=some a:=by
 have:=aZ (xs:=a::r) (j:=0) (v:=a) rfl
 simpa using this
theorem at1:atI (a::b::r) 1=some b:=by
 have:=aZ (xs:=a::b::r) (j:=1) (v:=b) rfl
 simpa using this
theorem at2:atI (a::b::c::r) 2=some c:=by
 have:=aZ (xs:=a::b::c::r) (j:=2) (v:=c) rfl
 simpa using this
theorem aq.lst(h:R (.ref M.length) (M++[.lst xs]))(hn:M.length<=n)(e:(M++L)[n]?=some (.lst xs))(b:Bels M.length xs):aq M R (.ref n) (M++L) :=
 .inr (.inr ⟨M,n,xs,.refl,rfl,hn,e,ABJ _ _,b,h⟩)
theorem xN:(M++a::L).set M.length b=M++b::L:=by
 rw[List.set_append_right _ _ (AAD _)]
 simp
theorem cz(I:List D->List D->SD->Mem->Prop)(h0:∀acc S M,I [] acc S M->ok M/\Q (.ref M.length) (M++[.lst acc]))
  (h1:∀x xs acc S M,I (x::xs) acc S M->∀K:List D->SD->Mem->Prop,(∀acc S M,I xs acc S M->K acc S M)->ok M/\g x S M λS2 M2=>tt S2 M2 λb M3=>if b=true then te S2 M3 λy M4=>acc.length<sizeLine/\K (acc++[y]) S2 M4 else K acc S2 M3) :
  ∀xs acc S M,I xs acc S M->lz ok g tt te Q xs acc S M
 | [],acc,S,M,h=>h0 acc S M h
 | x::xs,acc,S,M,h=>h1 x xs acc S M h _ (cz I h0 h1 xs)
def unS:D->Str
 | .str x=>x
 | _=>Str.empty
theorem ye(h:ys.Perm (ks.map D.str)):∃ns:List Str,ys=ns.map D.str/\ns.Perm ks:=by
 refine⟨ys.map unS,?_,?_⟩
 ·rw[AAi]
  have:∀y∈ys,(D.str ∘ unS) y=y:=λy hy=>by
   obtain⟨x,_,rfl⟩:=AAN.mp (h.mem_iff.mp hy)
   rfl
  exact(ACm this ▸ (List.map_id' ys).symm:ys=ys.map (D.str ∘ unS))
 ·have:=h.map unS
  rw[AAi]at this
  have e:(unS ∘ D.str)=id:=rfl
  rwa [e,List.map_id]at this
theorem vO{M:Mem}{ks:List Str}(h:ks.length<64):SrtOk M (ks.map D.str):=by
 refine⟨by rw[AA6];exact h,λx hx=>?_,λx hx y hy=>?_,.inl λx hx=>?_⟩
 ·obtain⟨z,_,rfl⟩:=AAN.mp hx;rfl
 ·obtain⟨z,_,rfl⟩:=AAN.mp hx
  obtain⟨z',_,rfl⟩:=AAN.mp hy
  rfl
 ·obtain⟨z,_,rfl⟩:=AAN.mp hx;exact⟨z,rfl⟩
theorem xX(h:(kvs.map (·.1)).Nodup):((uH kvs k d).map (·.1)).Nodup:=by
 unfold uH
 by_cases q:(kvs.any λp=>decide (p.1=k))=true
 ·rw[if_pos q,AAi]
  have:((λx:Str×D=>x.1) ∘ λp:Str×D=>if p.1=k then(p.1,d)else p)=λx=>x.1:=by
   funext p
   show (if p.1=k then(p.1,d)else p).1=p.1
   split<;>rfl
  rw[this];exact h
 ·rw[if_neg q,ABQ,List.nodup_append]
  refine⟨h,by simp,λa ha b hb e=>?_⟩
  simp at hb
  subst hb e
  obtain⟨p,hp,e⟩:=AAN.mp ha
  exact q (List.any_eq_true.mpr ⟨p,hp,by simpa using e⟩)
theorem AO:(uH kvs k d).length<=kvs.length+1/\1<=(uH kvs k d).length:=by
 unfold uH
 by_cases q:(kvs.any λp=>decide (p.1=k))=true
 ·rw[if_pos q,AA6]
  obtain⟨p,hp,_⟩:=List.any_eq_true.mp q
  have:0<kvs.length:=List.length_pos_of_mem hp
  lia
 ·rw[if_neg q,AA8,AAX]
  lia
theorem AR{P:Str×D->Prop}{kvs:List (Str×D)}{k:Str}{d:D}(h:∀p∈kvs,P p)(hk:P (k,d)):∀p∈uH kvs k d,P p:=by
 unfold uH
 intro p hp
 by_cases q:(kvs.any λp=>decide (p.1=k))=true
 ·rw[if_pos q]at hp
  obtain⟨p',hp',rfl⟩:=AAN.mp hp
  by_cases e:p'.1=k
  ·rw[if_pos e,e];exact hk
  ·rw[if_neg e];exact h p' hp'
 ·rw[if_neg q]at hp
  rcases AAl.mp hp with hp | hp
  ·exact h p hp
  ·rw[AAY.mp hp];exact hk
end L2
namespace L2
open PySem PySem.Spec PyProof.Rows DL PySem.W
section
variable{prog:Program}{w:World}{A:Around}{E:Value->Shared->Prop}{s:Shared}
end
end L2
namespace L2
open PySem PySem.Spec PyProof.Rows DL PySem.W
section
variable{prog:Program}{w:World}{A:Around}{E:Value->Shared->Prop}{s:Shared}
def aW(w:World):Obj:={ cls:=.type "set",dict:=none,data:=.set #[] 0 (.fresh 0 0 (!w.params.followText "set-order")) }
theorem tO(a:Value)(h:Q₁ (.ref s.heap.objs.size) { s with heap:=s.heap.push (aW w) }) :
  codeAny (model prog w) A (.call (.builtin "set.__new__") ⟨[.type "set",a],[]⟩) (wants Q₁ E) s:=by
 refine codeAny_of_tree (show wpAny (model prog w) A.in1 (do checkBuiltinCall "set.__new__" ⟨[.type "set",a],[]⟩;again (.builtin "set.__new__" ⟨[.type "set",a],[]⟩)) _ _ s from ?_)
 refine AA0 (wpAny_of_eq (F.newCall_set_1 a) (AA3 ⟨ABu F.plain_set_new _,ABX F.entry_set_new ?_⟩))
 rw[AB9 F.plain_set_new _]
 have hsub:=sub_set_self
 obtain⟨hp,g,d,tk,os⟩:=s
 unfold Builtin.«set.__new__» Builtin.Frozenset.newClass
 dsimp only
 wp_walk
 refine ACO (AA3 ?_)
 simp only[newObj]
 exact AA0 (wpAny_alloc (AA3 (AA3 h)))
end
end L2
namespace L2
open PySem PySem.Spec PyProof.Rows DL PySem.W
structure TxSrc(prog:Program)(w:World)(h:Heap)(l:Addr)(T:String)(n:Nat)(P:Nat->Value->Prop):Prop where
 obj:∃o,h.get? l=some o/\o.cls=.type T
 ns:isSubtype (.type T) (.type "set")=pure false
 nf:isSubtype (.type T) (.type "frozenset")=pure false
 nd:(ACp T==ACp "dict")=false
 iter:∀(A:Around) (s':Shared),A.handled=none->(∀o,h.get? l=some o->s'.heap.get? l=some o)->∃(oI:Obj) (St:Nat->Heap->Prop),
  (∀(E:Value->Shared->Prop) (Q:Value->Shared->Prop),Q (.ref s'.heap.objs.size) { s' with heap:=s'.heap.push oI }->wpAny (model prog w) A (pyIter (.ref l)) Q E s') /\
  Walks prog w A s'.heap.objs.size [s'.heap.objs.size,l] [s'.heap.objs.size] n P St/\St 0 (s'.heap.push oI)
theorem se:isSubtype (.type "tuple") (.type "set")=pure false:=by rw[isSubtype_type];kernel_rfl
theorem pU:isSubtype (.type "tuple") (.type "frozenset")=pure false:=by rw[isSubtype_type];kernel_rfl
theorem TxSrc.list(hl:h.IsList l its):TxSrc prog w h l "list" its.size (λi v=>its[i]?=some v):=by
 refine⟨let ⟨o,e,c,_⟩:=hl;⟨o,e,c⟩,F.sub_list_set,F.sub_list_frozenset,by decide,λA s' hh hk=>?_⟩
 have hl':s'.heap.IsList l its:=hl.at hk
 have lt:l<s'.heap.objs.size:=let ⟨o,e,_⟩:=hl';AAG e
 exact⟨_,_,λE Q q=>ADo hl' q,Walks.list hh _ l (AAQ lt) its,⟨_,AAE _ rfl,rfl,rfl⟩,hl'.push _⟩
theorem TxSrc.tuple(hl:h.IsTuple l its):TxSrc prog w h l "tuple" its.size (λi v=>its[i]?=some v):=by
 refine⟨let ⟨o,e,c,_⟩:=hl;⟨o,e,c⟩,se,pU,by decide,λA s' hh hk=>?_⟩
 have hl':s'.heap.IsTuple l its:=let ⟨o,e,r⟩:=hl;⟨o,hk o e,r⟩
 have lt:l<s'.heap.objs.size:=let ⟨o,e,_⟩:=hl';AAG e
 exact⟨_,_,λE Q q=>wpAny_pyIter_tuple hl' q,Walks.tuple hh _ l (AAQ lt) its,⟨_,AAE _ rfl,rfl,rfl⟩,let ⟨o,e,r⟩:=hl';⟨o,AA4 _ e,r⟩⟩
section
variable{prog:Program}{w:World}{A:Around}{E:Value->Shared->Prop}{s:Shared}
end
end L2
namespace L2
open PySem PySem.Spec PyProof.Rows DL PySem.W
theorem aX:Slot "set_iterator" "__next__" "set_iterator.__next__" :=
 .of (owner:="set_iterator") (n:="__next__") (by rw[typeLookup_type,AE0];kernel_rfl) (by decide +kernel) (by decide +kernel) (by decide +kernel) (by first | exact .inl (by decide +kernel) | exact .inr (by decide +kernel)) (by rw[isSubtype_type];kernel_rfl)
theorem dk:entryFor table "set_iterator.__next__" = some Builtin.«set_iterator.__next__»:=entryFor_of_tree (by kernel_rfl)
theorem kF:Manifest.owners.lookup (String.ofList ['r','o','t','a','r','e','t','i','_','t','e','s'].reverse)=some Manifest.sig_set_iterator:=by kernel_rfl
theorem eP(a:Value):argsOk "set_iterator.__next__" ⟨[a],[]⟩:=by
 unfold argsOk;rw[signature?_of (id:="set_iterator.__next__") (n:=['_','_','t','x','e','n','_','_']) (o:=['r','o','t','a','r','e','t','i','_','t','e','s']) (by kernel_rfl) kF];kernel_rfl
theorem nX:entryFor table "set.__iter__" = some Builtin.«frozenset.__iter__»:=entryFor_alias (id':="frozenset.__iter__") (by kernel_rfl) rfl (by decide +kernel) (by kernel_rfl)
theorem im{α:Type}:∀(l:List α) (i:Nat) (h:i<l.length),(l[i]::l.eraseIdx i).Perm l
 | x::l,0,_=>ADH _
 | x::l,i+1,h=>by
  have h':i<l.length:=by simpa using h
  exact(List.Perm.swap x l[i] (l.eraseIdx i)).trans (AEO x (im l i h'))
theorem wG(hn:n≠0)(h:∀i d,i<n->Q i { s with drawn:=d }):wpAny M A (choose src n) Q E s:=by
 intro Γ p hΓ
 show Sem.wp M Γ (Sem.choose src n λi=>Sem.pure i) _ _ p s
 rw[Sem.wp_choose]
 refine⟨hn,?_⟩
 rw[Sem.wp_pure]
 exact h _ _ (Nat.mod_lt _ (Nat.pos_of_ne_zero hn))
theorem rh{α:Type}{M:Model}{A:Around}{E:Value->Shared->Prop}:∀(n:Nat) (xs:List α) (s:Shared) (Q:List α->Shared->Prop),xs.length=n->(∀ys d,ys.Perm xs->Q ys { s with drawn:=d })->wpAny M A (drawOrder n xs) Q E s
 | 0,xs,s,Q,e,h=>by
  cases xs with
  | nil=>exact AA3 (h [] s.drawn (ADH _))
  | cons _ _=>cases e
 | n+1,[],s,Q,e,h=>by cases e
 | n+1,x::xs,s,Q,e,h=>by
  unfold drawOrder
  refine AA0 (wG (by simp) λi d hi=>?_)
  rw[AA7 hi]
  refine AA0 (rh n ((x::xs).eraseIdx i) { s with drawn:=d } _ (by rw[List.length_eraseIdx_of_lt hi];simp at e ⊢;lia) λys d' hp=>AA3 (h _ d' ?_))
  exact(AEO _ hp).trans (im _ i hi)
theorem kh{α:Type}(next:Nat->Nat)(xs:Array α):(pickOrder next xs).toList.Perm xs.toList:=by
 have go:∀(fuel k:Nat) (left:List α) (out:Array α),left.length=fuel->(pickOrder.go next fuel k left out).toList.Perm (out.toList++left):=by
  intro fuel
  induction fuel with
  | zero =>
   intro k left out e
   cases left with
   | nil=>simp[pickOrder.go]
   | cons _ _=>cases e
  | succ n ih =>
   intro k left out e
   have hi:next k % left.length<left.length:=Nat.mod_lt _ (by lia)
   unfold pickOrder.go
   rw[AA7 hi]
   dsimp only
   refine(ih (k+1) _ _ (by rw[List.length_eraseIdx_of_lt hi];lia)).trans ?_
   rw[ADq,ABS]
   exact List.Perm.append_left _ (im _ _ hi)
 have:=go xs.size 0 xs.toList #[] (by simp)
 simpa [pickOrder]using this
end L2
namespace L2
open PySem PySem.Spec PyProof.Rows DL PySem.W
def dh(first:Value)(i n:Nat)(a:Addr)(ep:Nat):Obj:={ cls:=.type "set_iterator",data:=.fields #[first,rawInt i,.ref a,rawInt n,rawInt ep] }
structure SetAt(h:Heap)(a:Addr)(o:Obj)(es:Array (Int×Value))(ep:Nat)(t:SetTable):Prop where
 ob:h.get? a=some o
 dt:o.data=.set es ep t
 ft:t.fits es.size=true
section
variable{prog:Program}{w:World}{A:Around}{E:Value->Shared->Prop}{s:Shared}{a it:Addr}{o:Obj}{es:Array (Int×Value)}{ep:Nat}{t:SetTable}
theorem mv(hh:A.handled=none)(h:∀h' e,(∀b o,s.heap.get? b=some o->h'.get? b=some o)->(∃o,h'.get? e=some o/\o.cls=.type "StopIteration")->F (.ref e) { s with heap:=h' }) :
  wpAny (model prog w) A (do raiseNew (←newExc (.type "StopIteration") []):Sem Fin) Q F s:=by
 refine AA0 ?_
 simp only[newExc,newTuple]
 refine AA0 (AAj (AA0 (m:=firstArgMember _ _) (wpAny_of_eq (a:=ABb) (by first | rfl | (simp only[firstArgMember];rfl)) (AAj ?_ (by size_fits)))) (by size_fits))
 simp only[raiseNew]
 refine AA0 (wpAny_handled ?_)
 rw[hh]
 exact AA0 (AA3 (wpAny_throw (h _ _ (λb o e=>AA4 _ (AA4 _ e)) ⟨_,AAE _ rfl,rfl⟩)))
theorem kJ{slot i next:Nat}{x:Value}{Q:Option Value->Shared->Prop}(hI:s.heap.get? it=some (dh (rawInt slot) i es.size a ep))(S:SetAt s.heap a o es ep t)
  (hn:∀(A:Around) (E:Value->Shared->Prop) (Q:Option (Value×Nat)->Shared->Prop),Q (some (x,next)) s->wpAny (model prog w) A (setNext a slot i ep) Q E s)
  (hQ:∀h',h'.get? it=some (dh (rawInt next) (i+1) es.size a ep)->ABM it s.heap h'->Q (some x) { s with heap:=h' }):wpAny (model prog w) A (pyNext (.ref it)) Q E s:=by
 have hT:s.TypeIs (.ref it) "set_iterator":=⟨_,hI,rfl⟩
 unfold pyNext
 refine AA0 (ACl (AAm (name:=AA1 "__next__") hT aX (AAn aX hT dk ?_ (eP _))))
 unfold Builtin.«set_iterator.__next__»
 refine AA0 (AA3 (AA0 (ACV hI rfl ?_)))
 dsimp only [dh,rawInt]
 refine AA0 (ACn S.ob S.dt S.ft ?_)
 rw[if_neg (by simp)]
 refine AA0 (hn _ _ _ ?_)
 dsimp only
 refine AA0 (AC8 hI rfl (by simp) (AA0 (AC8 (AAZ _ hI rfl) rfl (by simp) (AA3 ⟨x,rfl,AA3 (hQ _ ?_ ((AB2 ..).trans (AB2 ..)))⟩))))
 refine(AAZ _ (AAZ _ hI rfl) rfl).trans ?_
 simp[dh,Obj.mapFields,rawInt]
theorem df{slot i:Nat}{Q:Option Value->Shared->Prop}(hh:A.handled=none)(hI:s.heap.get? it=some (dh (rawInt slot) i es.size a ep))(S:SetAt s.heap a o es ep t)
  (hn:∀(A:Around) (E:Value->Shared->Prop) (Q:Option (Value×Nat)->Shared->Prop),Q none s->wpAny (model prog w) A (setNext a slot i ep) Q E s)
  (hQ:∀h',(∀b o,b≠it->s.heap.get? b=some o->h'.get? b=some o)->Q none { s with heap:=h' }):wpAny (model prog w) A (pyNext (.ref it)) Q E s:=by
 have hT:s.TypeIs (.ref it) "set_iterator":=⟨_,hI,rfl⟩
 unfold pyNext
 refine AA0 (ACl (AAm (name:=AA1 "__next__") hT aX (AAn aX hT dk ?_ (eP _))))
 unfold Builtin.«set_iterator.__next__»
 refine AA0 (AA3 (AA0 (ACV hI rfl ?_)))
 dsimp only [dh,rawInt]
 refine AA0 (ACn S.ob S.dt S.ft ?_)
 rw[if_neg (by simp)]
 refine AA0 (hn _ _ _ ?_)
 dsimp only
 refine AA0 (AC8 hI rfl (by simp) ?_)
 refine mv (by simp[hh]) λh' e hk ⟨oe,he,hc⟩=>?_
 refine AA0 (ACN (T:="StopIteration") (b:=true) ⟨oe,he,hc⟩ isSubtype_stop (AA3 (hQ h' λb ob hb eb=>hk b ob ?_)))
 exact((AB2 ..).2 b hb).trans eb
theorem wd{tt:Addr}{ps:List Nat}{i j:Nat}{e:Int×Value}{Q:Option Value->Shared->Prop}(hI:s.heap.get? it=some (dh (.ref tt) i es.size a ep))(hP:s.heap.IsTuple tt (ps.map λ(k:Nat)=>rawInt k).toArray)(S:SetAt s.heap a o es ep t)
  (hj:ps[i]?=some j) (he:es[j]?=some e) (hQ:∀h',h'.get? it=some (dh (.ref tt) (i+1) es.size a ep)->ABM it s.heap h'->Q (some e.2) { s with heap:=h' }):wpAny (model prog w) A (pyNext (.ref it)) Q E s:=by
 have hT:s.TypeIs (.ref it) "set_iterator":=⟨_,hI,rfl⟩
 obtain⟨ot,hot,_,nt,hdt⟩:=hP
 unfold pyNext
 refine AA0 (ACl (AAm (name:=AA1 "__next__") hT aX (AAn aX hT dk ?_ (eP _))))
 unfold Builtin.«set_iterator.__next__»
 refine AA0 (AA3 (AA0 (ACV hI rfl ?_)))
 dsimp only [dh,rawInt]
 refine AA0 (ACn S.ob S.dt S.ft ?_)
 rw[if_neg (by simp)]
 refine AA0 (ABL hot hdt ?_)
 have hx:(ps.map λ(k:Nat)=>rawInt k).toArray[i]?=some (.int j 0):=by simp[hj,rawInt]
 simp only[ABq,hx]
 unfold setNextDrawn
 refine AA0 (AA0 (ABI S.ob S.dt S.ft ?_))
 simp only[bne_self_eq_false,AAF,if_false,he]
 refine AA3 (AA0 (AC8 hI rfl (by simp) (AA3 ⟨_,rfl,AA3 (hQ _ ?_ (AB2 ..))⟩)))
 refine(AAZ _ hI rfl).trans ?_
 simp[dh,Obj.mapFields,rawInt]
theorem lN{tt:Addr}{ps:List Nat}{i:Nat}{Q:Option Value->Shared->Prop}(hh:A.handled=none)(hI:s.heap.get? it=some (dh (.ref tt) i es.size a ep))(hP:s.heap.IsTuple tt (ps.map λ(k:Nat)=>rawInt k).toArray)(S:SetAt s.heap a o es ep t)
  (hj:ps[i]?=none) (hQ:∀h',(∀b o,b≠it->s.heap.get? b=some o->h'.get? b=some o)->Q none { s with heap:=h' }):wpAny (model prog w) A (pyNext (.ref it)) Q E s:=by
 have hT:s.TypeIs (.ref it) "set_iterator":=⟨_,hI,rfl⟩
 obtain⟨ot,hot,_,nt,hdt⟩:=hP
 unfold pyNext
 refine AA0 (ACl (AAm (name:=AA1 "__next__") hT aX (AAn aX hT dk ?_ (eP _))))
 unfold Builtin.«set_iterator.__next__»
 refine AA0 (AA3 (AA0 (ACV hI rfl ?_)))
 dsimp only [dh,rawInt]
 refine AA0 (ACn S.ob S.dt S.ft ?_)
 rw[if_neg (by simp)]
 refine AA0 (ABL hot hdt ?_)
 have hx:(ps.map λ(k:Nat)=>rawInt k).toArray[i]?=none:=by simpa using hj
 simp only[ABq,hx]
 refine AA0 (AC8 hI rfl (by simp) (AA0 (AC8 (AAZ _ hI rfl) rfl (by simp) ?_)))
 refine mv (by simp[hh]) λh' e hk ⟨oe,he,hc⟩=>?_
 refine AA0 (ACN (T:="StopIteration") (b:=true) ⟨oe,he,hc⟩ isSubtype_stop (AA3 (hQ h' λb ob hb eb=>hk b ob ?_)))
 exact(((AB2 ..).trans (AB2 ..)).2 b hb).trans eb
end
end L2
namespace L2
theorem nodup_le{α:Type}[DecidableEq α]:∀(l xs:List α),l.Nodup->(∀x∈l,x∈xs)->l.length<=xs.length
 | [],xs,_,_=>AAT _
 | a::l,xs,nd,h=>by
  have ha:a∈xs:=h a AAI
  have nd':=AB6.mp nd
  have ih:=nodup_le l (xs.erase a) nd'.2 λx hx=>(List.mem_erase_of_ne (show x≠a from λz=>nd'.1 (by rw[←z];exact hx))).mpr (h x (AA9 _ hx))
  rw[List.length_erase_of_mem ha]at ih
  have:0<xs.length:=List.length_pos_of_mem ha
  rw[AAA]
  lia
end L2
namespace Ht
open PySem
def adv(m:Nat)(p:ACW):ACW :=
 if p.more > 0 then { p with j:=p.j+1,more:=p.more-1 } else
 { p with j:=(ACR m p.i p.perturb).1,more:=AAs m (ACR m p.i p.perturb).1-(ACR m p.i p.perturb).1,i:=(ACR m p.i p.perturb).1,perturb:=(ACR m p.i p.perturb).2 }
def gY(m i pt:Nat):ACW:={ j:=i,more:=AAs m i-i,i,perturb:=pt,dummy:=none }
def jU(m:Nat)(p:ACW):Nat->ACW
 | 0=>p
 | n+1=>adv m (jU m p n)
def sq(m:Nat)(h:Int)(n:Nat):ACW:=jU m (gY m (ABv h % (m+1)) (ABv h)) n
theorem pW(m:Nat)(p:ACW)(a b:Nat):jU m p (a+b)=jU m (jU m p a) b:=by
 induction b with
 | zero=>rfl
 | succ b ih=>rw[Nat.add_succ,jU,ih];rfl
theorem GN(m i:Nat):AAs m i-i<=9:=by
 unfold AAs;split<;>lia
theorem zq(m i pt:Nat):∀k,k<=AAs m i-i->jU m (gY m i pt) k={ j:=i+k,more:=AAs m i-i-k,i,perturb:=pt,dummy:=none }
 | 0,_=>by simp[jU,gY]
 | k+1,h=>by
  rw[jU,zq m i pt k (by lia)]
  unfold adv
  rw[if_pos (show AAs m i-i-k > 0 by lia)]
  simp only[SetTable.Probe.mk.injEq,true_and,and_true]
  lia
theorem Bk(m i pt:Nat):jU m (gY m i pt) (AAs m i-i+1)=gY m (ACR m i pt).1 (ACR m i pt).2:=by
 rw[jU,zq m i pt _ (AAD _)]
 unfold adv
 rw[if_neg (show ¬AAs m i-i-(AAs m i-i) > 0 by lia)]
 rfl
def cY(m:Nat)(h:Int):Nat->Nat×Nat
 | 0=>(ABv h % (m+1),ABv h)
 | k+1=>ACR m (cY m h k).1 (cY m h k).2
def dn(m:Nat)(h:Int):Nat->Nat
 | 0=>0
 | k+1=>dn m h k+(AAs m (cY m h k).1-(cY m h k).1+1)
theorem Cv(m:Nat)(h:Int)(k:Nat):dn m h k<=10*k:=by
 induction k with
 | zero=>exact AAD _
 | succ k ih=>have:=GN m (cY m h k).1;unfold dn;lia
theorem CJ(m:Nat)(h:Int)(k:Nat):sq m h (dn m h k)=gY m (cY m h k).1 (cY m h k).2:=by
 induction k with
 | zero=>rfl
 | succ k ih =>
  unfold sq at ih ⊢
  unfold dn
  rw[pW,ih,Bk]
  rfl
theorem xJ(m:Nat)(h:Int)(k r:Nat)(hr:r<=AAs m (cY m h k).1-(cY m h k).1):(sq m h (dn m h k+r)).j=(cY m h k).1+r:=by
 have e:=CJ m h k
 unfold sq at e ⊢
 rw[pW,e,zq _ _ _ _ hr]
theorem FY(h:Int):ABv h<2 ^ 64:=by
 unfold ABv
 have h0:=ADb h (show (2 ^ 64:Int)≠0 by decide)
 have h1:=ACx h (show (0:Int)<2 ^ 64 by decide)
 lia
theorem mB(m:Nat)(h:Int):∀k,(cY m h k).2=ABv h / 32 ^ k
 | 0=>by simp[cY]
 | k+1=>by
  show (cY m h k).2 / 32=_
  rw[mB m h k,Nat.div_div_eq_div_mul,←Nat.pow_succ]
theorem ql(m:Nat)(h:Int)(k:Nat)(hk:13<=k):(cY m h k).2=0:=by
 rw[mB]
 apply Nat.div_eq_of_lt
 have h1:=FY h
 have h2:32 ^ 13<=32 ^ k:=Nat.pow_le_pow_right (by decide) hk
 have h3:(2:Nat) ^ 64<32 ^ 13:=by decide
 lia
def tS(m i:Nat):Nat:=(i*5+1) % (m+1)
def bF(m i:Nat):Nat->Nat
 | 0=>i
 | k+1=>tS m (bF m i k)
theorem cT(m i a b:Nat):bF m i (a+b)=bF m (bF m i a) b:=by
 induction b with
 | zero=>rfl
 | succ b ih=>rw[Nat.add_succ,bF,ih];rfl
theorem sh(m:Nat)(h:Int)(r:Nat):(cY m h (13+r)).1=bF m (cY m h 13).1 r:=by
 induction r with
 | zero=>rfl
 | succ r ih =>
  show (ACR m (cY m h (13+r)).1 (cY m h (13+r)).2).1=tS m (bF m (cY m h 13).1 r)
  rw[ql m h _ (by lia),ih]
  rfl
theorem sj(m:Nat)(h:Int):∀k,(cY m h k).1<=m
 | 0=>Nat.lt_succ_iff.mp (Nat.mod_lt _ (Nat.succ_pos _))
 | k+1=>Nat.lt_succ_iff.mp (Nat.mod_lt _ (Nat.succ_pos _))
def Gp(m:Nat):Prop:=bF m 0 (m+1)=0/\∀s,s<=m->∃k,k<=m/\bF m 0 k=s
def sG(m:Nat):Nat->Nat->List Nat
 | 0,_=>[]
 | n+1,i=>i::sG m n (tS m i)
theorem kG(m:Nat):∀(n i k:Nat),k<n->(sG m n i)[k]?=some (bF m i k)
 | 0,_,_,h=>absurd h (ABx _)
 | n+1,i,0,_=>rfl
 | n+1,i,k+1,h=>by
  rw[sG,ABB,kG m n (tS m i) k (by lia),←show bF m (bF m i 1) k=bF m i (k+1)from by rw[←cT,Nat.add_comm]]
  rfl
theorem tH(m:Nat)(h:((sG m (m+2) 0)[m+1]?==some 0&&(AAe (m+1)).all λs=>(sG m (m+1) 0).contains s)=true):Gp m:=by
 rw[AAC,beq_iff_eq,AAK]at h
 refine⟨?_,λs hs=>?_⟩
 ·have:=kG m (m+2) 0 (m+1) (by lia)
  rw[h.1]at this
  exact(AAR this).symm
 ·have:=h.2 s (AAk.mpr (by lia))
  rw[List.contains_iff_mem]at this
  obtain⟨k,hk⟩:=AAv this
  have hl:k<m+1:=by
   have:=(AA2.mp hk).1
   have len:∀n i,(sG m n i).length=n:=by
    intro n;induction n with
    | zero=>intro i;rfl
    | succ n ih=>intro i;simp[sG,ih]
   rw[len]at this;exact this
  rw[kG m _ 0 k hl]at hk
  exact⟨k,by lia,AAR hk⟩
theorem full7:Gp 7:=tH 7 (by decide +kernel)
theorem Jg:Gp 31:=tH 31 (by decide +kernel)
theorem Fv:Gp 127:=tH 127 (by decide +kernel)
theorem zE(F:Gp m)(hi:i<=m)(hs:s<=m):∃k,k<=m/\bF m i k=s:=by
 obtain⟨a,ha,ea⟩:=F.2 i hi
 obtain⟨b,hb,eb⟩:=F.2 s hs
 by_cases h:a<=b
 ·refine⟨b-a,by lia,?_⟩
  rw[←ea,←cT,show a+(b-a)=b by lia];exact eb
 ·refine⟨m+1-a+b,by lia,?_⟩
  rw[←ea,←cT,show a+(m+1-a+b)=(m+1)+b by lia,cT,F.1];exact eb
def lR(m:Nat):Prop:=m=7\/m=31\/m=127
theorem lR.full(h:lR m):Gp m:=by
 rcases h with rfl | rfl | rfl
 ·exact full7
 ·exact Jg
 ·exact Fv
theorem Dj(hm:lR m)(h:Int)(hs:s<=m):∃k,k<=m+13/\(cY m h k).1=s:=by
 obtain⟨r,hr,e⟩:=zE hm.full (sj m h 13) hs
 exact⟨13+r,by lia,by rw[sh];exact e⟩
theorem DH(hm:lR m)(h:Int)(hs:s<=m):∃n,n<10*(m+15)/\(sq m h n).j=s:=by
 obtain⟨k,hk,e⟩:=Dj hm h hs
 refine⟨dn m h k,by have:=Cv m h k;lia,?_⟩
 rw[CJ];exact e
theorem GH(h:Int):∀n,∃k r,r<=AAs m (cY m h k).1-(cY m h k).1/\n=dn m h k+r
 | 0=>⟨0,0,AAT _,rfl⟩
 | n+1=>by
  obtain⟨k,r,hr,e⟩:=GH (m:=m) h n
  by_cases q:r<AAs m (cY m h k).1-(cY m h k).1
  ·exact⟨k,r+1,q,by lia⟩
  ·exact⟨k+1,0,AAT _,by rw[dn];lia⟩
theorem xI(h:Int)(n:Nat):(sq m h n).j<=m:=by
 obtain⟨k,r,hr,e⟩:=GH (m:=m) h n
 rw[e,xJ m h k r hr]
 have:=sj m h k
 unfold AAs at hr
 split at hr<;>lia
end Ht
namespace Ht
open PySem
theorem below_spec(xs:Array Nat)(hr:xs.toList.Pairwise (· < ·))(j:Nat) :
  AAa xs j<=xs.size/\(∀k (h:k<xs.size),k<AAa xs j->xs[k]<j)/\∀k (h:k<xs.size),AAa xs j<=k->j<=xs[k]:=by
 have mono:∀a b (ha:a<xs.size) (hb:b<xs.size),a<b->xs[a]<xs[b]:=λa b ha hb h=>by
  have:=ADJ.mp hr a b (by simpa using ha) (by simpa using hb) h
  simpa using this
 have go:∀(fuel lo hi:Nat),lo<=hi->hi<=xs.size->hi-lo<=fuel->(∀k (h:k<xs.size),k<lo->xs[k]<j)->(∀k (h:k<xs.size),hi<=k->j<=xs[k]) ->
   ACA xs j fuel lo hi<=xs.size/\(∀k (h:k<xs.size),k<ACA xs j fuel lo hi->xs[k]<j)/\∀k (h:k<xs.size),ACA xs j fuel lo hi<=k->j<=xs[k]:=by
  intro fuel
  induction fuel with
  | zero =>
   intro lo hi h1 h2 h3 h4 h5
   have:lo=hi:=by lia
   subst this
   exact⟨h2,h4,h5⟩
  | succ fuel ih =>
   intro lo hi h1 h2 h3 h4 h5
   unfold ACA
   by_cases h:lo<hi
   ·rw[if_pos h]
    have hm:(lo+hi) / 2<xs.size:=by lia
    have eg:xs.getD ((lo+hi) / 2) j=xs[(lo+hi) / 2]:=by simp[ACL,hm]
    simp only[eg]
    by_cases q:xs[(lo+hi) / 2]<j
    ·rw[if_pos q]
     refine ih _ _ (by lia) h2 (by lia) (λk hk hlt=>?_) h5
     rcases ABz k ((lo+hi) / 2)with z | z
     ·exact ADx (mono k _ hk hm z) q
     ·have:k=(lo+hi) / 2:=by lia
      subst this;exact q
    ·rw[if_neg q]
     refine ih _ _ (by lia) (by lia) (by lia) h4 λk hk hle=>?_
     rcases ABz ((lo+hi) / 2) k with z | z
     ·exact ABT (AD6.mp q) (AEJ (mono _ k hm hk z))
     ·have:k=(lo+hi) / 2:=by lia
      subst this;exact AD6.mp q
   ·rw[if_neg h]
    have:lo=hi:=by lia
    subst this
    exact⟨h2,h4,h5⟩
 exact go xs.size 0 xs.size (AAT _) (AAD _) (by lia) (λk _ h=>absurd h (ABx _)) λk h h'=>absurd h (AD6.mpr h')
theorem below_at(hr:xs.toList.Pairwise (· < ·))(h:xs[i]?=some j):AAa xs j=i:=by
 obtain⟨hi,e⟩:=AAy.mp h
 obtain⟨b1,b2,b3⟩:=below_spec xs hr j
 have mono:∀a b (ha:a<xs.size) (hb:b<xs.size),a<b->xs[a]<xs[b]:=λa b ha hb h=>by
  have:=ADJ.mp hr a b (by simpa using ha) (by simpa using hb) h
  simpa using this
 rcases ACd (AAa xs j) i with q | q | q
 ·have hb:AAa xs j<xs.size:=by lia
  have:=b3 _ hb (AAD _)
  have:=mono _ i hb hi q
  lia
 ·exact q
 ·have:=b2 i hi q
  lia
theorem slot_live{t:SetTable}(hr:t.place.toList.Pairwise (· < ·)){i j:Nat}(h:t.place[i]?=some j):t.slot j=.live i:=by
 unfold SetTable.slot
 simp only[below_at hr h]
 rw[if_pos (by rw[h];simp)]
theorem vQ{t:SetTable}(hd:t.dummies = #[]){j:Nat}(h:j∉t.place.toList):t.slot j=.empty:=by
 unfold SetTable.slot
 have e1:¬(t.place[AAa t.place j]?==some j)=true:=λz=>h (by
  rw[beq_iff_eq]at z
  have:=Array.mem_of_getElem? z
  simpa using this)
 have e2:SetTable.has t.dummies j=false:=by rw[hd];rfl
 simp only[e1,if_false,e2,AAF]
theorem go_spec{t:SetTable}(hr:t.place.toList.Pairwise (· < ·))(hd:t.dummies = #[])(hashAt:Nat->Int)(h:Int):∀(fuel n N:Nat),n<=N->N<n+fuel->(sq t.mask h N).j∉t.place.toList->(∀k,n<=k->k<N->(sq t.mask h k).j∈t.place.toList) ->
  (∀k,(sq t.mask h k).dummy=none) ->
  ((∀k i,n<=k->k<N->t.place[i]?=some (sq t.mask h k).j->hashAt i≠h)/\AER t hashAt h fuel (sq t.mask h n)=some (.empty (sq t.mask h N).j none)) \/
  ∃n' i,n<=n'/\n' < N/\t.place[i]?=some (sq t.mask h n').j/\hashAt i=h/\(∀k i,n<=k->k<n'->t.place[i]?=some (sq t.mask h k).j->hashAt i≠h)/\AER t hashAt h fuel (sq t.mask h n)=some (.candidate (sq t.mask h n').j i (sq t.mask h (n'+1))):=by
 intro fuel
 induction fuel with
 | zero=>intro n N h1 h2;lia
 | succ fuel ih =>
  intro n N h1 h2 h3 h4 h5
  unfold AER
  by_cases e:n=N
  ·subst e
   rw[vQ hd h3]
   exact .inl ⟨λk i a b=>by lia,by rw[h5]⟩
  ·have hm:=h4 n (AAD _) (by lia)
   obtain⟨i,hi⟩:=AAv hm
   have hi':t.place[i]?=some (sq t.mask h n).j:=by rw[←AAV];exact hi
   rw[slot_live hr hi']
   dsimp only
   have uq:∀i',t.place[i']?=some (sq t.mask h n).j->i'=i:=λi' z=>by rw[←below_at hr z,below_at hr hi']
   by_cases q:hashAt i=h
   ·simp only[beq_iff_eq,q,if_true]
    exact .inr ⟨n,i,AAD _,by lia,hi',q,λk i a b=>by lia,rfl⟩
   ·simp only[beq_iff_eq,q,if_false]
    rcases ih (n+1) N (by lia) (by lia) h3 (λk a b=>h4 k (by lia) b) h5 with⟨z1,z2⟩|⟨n',i',a1,a2,a3,a4,a5,a6⟩
    ·refine .inl ⟨λk i' a b c=>?_,z2⟩
     rcases ABz n k with z | z
     ·exact z1 k i' z b c
     ·have:k=n:=by lia
      subst this;rw[uq i' c];exact q
    ·refine .inr ⟨n',i',by lia,a2,a3,a4,λk i'' a b c=>?_,a6⟩
     rcases ABz n k with z | z
     ·exact a5 k i'' z b c
     ·have:k=n:=by lia
      subst this;rw[uq i'' c];exact q
theorem sq_dummy(m:Nat)(h:Int):∀n,(sq m h n).dummy=none
 | 0=>rfl
 | n+1=>by
  show (adv m (sq m h n)).dummy=none
  unfold adv
  split
  ·exact sq_dummy m h n
  ·exact sq_dummy m h n
structure TOk(t:SetTable)(hs:List Int):Prop where
 msk:lR t.mask
 len:t.place.size=hs.length
 nod:t.dummies = #[]
 ris:t.place.toList.Pairwise (· < ·)
 rng:∀j∈t.place.toList,j<=t.mask
 few:t.place.size*5<t.mask*3
 path:∀(i:Nat) (h:Int) (j:Nat),hs[i]?=some h->t.place[i]?=some j->∃n,(sq t.mask h n).j=j/\∀n',n' < n->(sq t.mask h n').j∈t.place.toList
theorem zC{m:Nat}{l:List Nat}(hn:l.Nodup)(hr:∀j∈l,j<=m)(hl:l.length<=m):∃j,j<=m/\j∉l:=by
 refine AB4 λhc=>?_
 have all:∀j∈AAe (m+1),j∈l:=λj hj=>AB4 λhj'=>hc ⟨j,by have:=AAk.mp hj;lia,hj'⟩
 have:=L2.nodup_le (AAe (m+1)) l AE3 all
 rw[AD7]at this
 lia
theorem tJ{m:Nat}(hm:lR m){l:List Nat}(hn:l.Nodup)(hr:∀j∈l,j<=m)(hl:l.length<=m)(h:Int):∃N,N<10*(m+15)/\(sq m h N).j∉l/\∀k,k<N->(sq m h k).j∈l:=by
 obtain⟨s,hs,hs'⟩:=zC hn hr hl
 obtain⟨n,hn1,hn2⟩:=DH hm h hs
 have:∀b n,n<b->(sq m h n).j∉l->∃N,N<=n/\(sq m h N).j∉l/\∀k,k<N->(sq m h k).j∈l:=by
  intro b
  induction b with
  | zero=>intro n h;lia
  | succ b ih =>
   intro n hb hq
   by_cases q:∀k,k<n->(sq m h k).j∈l
   ·exact⟨n,AAD _,hq,q⟩
   ·have:∃k,k<n/\(sq m h k).j∉l:=AB4 λz=>q λk hk=>AB4 λz'=>z ⟨k,hk,z'⟩
    obtain⟨k,hk,hk'⟩:=this
    obtain⟨N,a1,a2,a3⟩:=ih k (by lia) hk'
    exact⟨N,by lia,a2,a3⟩
 obtain⟨N,a1,a2,a3⟩:=this (n+1) n (AB5 _) (by rw[hn2];exact hs')
 exact⟨N,by lia,a2,a3⟩
theorem TOk.empty{t:SetTable}{hs:List Int}(T:TOk t hs)(h:Int):∃N,N<10*(t.mask+15)/\(sq t.mask h N).j∉t.place.toList/\∀k,k<N->(sq t.mask h k).j∈t.place.toList:=by
 refine tJ T.msk (T.ris.imp λh=>AAQ h) T.rng ?_ h
 have:=T.few
 rw[AAO]
 rcases T.msk with e | e | e<;>lia
theorem xW{t:SetTable}(hr:t.place.toList.Pairwise (· < ·)){j:Nat}(hj:j∉t.place.toList) :
  (t.put j).1.place.toList=t.place.toList.take (AAa t.place j)++j::t.place.toList.drop (AAa t.place j)/\(t.put j).1.place.toList.Pairwise (· < ·):=by
 obtain⟨b1,b2,b3⟩:=below_spec t.place hr j
 have e:(t.put j).1.place.toList=t.place.toList.take (AAa t.place j)++j::t.place.toList.drop (AAa t.place j):=by
  show (ADr t.place (AAa t.place j) j).toList=_
  rw[SetTable.toList_insertAt]
 refine⟨e,?_⟩
 rw[e,List.pairwise_append]
 refine⟨hr.sublist (ADl ..),List.pairwise_cons.mpr ⟨λx hx=>?_,hr.sublist (List.drop_sublist ..)⟩,λx hx y hy=>?_⟩
 ·obtain⟨k,hk⟩:=AAv hx
  rw[ADc]at hk
  have hk':t.place[AAa t.place j+k]?=some x:=by rw[←AAV];exact hk
  obtain⟨hl,ex⟩:=AAy.mp hk'
  have:=b3 _ hl (AE2 _ _)
  rw[ex]at this
  rcases ABz j x with z | z
  ·exact z
  ·have:x=j:=by lia
   subst this
   exact absurd (ADA hx) hj
 ·obtain⟨k,hk⟩:=AAv hx
  rw[List.getElem?_take]at hk
  split at hk
  ·rename_i hkl
   have hk':t.place[k]?=some x:=by rw[←AAV];exact hk
   obtain⟨hl,ex⟩:=AAy.mp hk'
   have h1:=b2 k hl hkl
   rw[ex]at h1
   rcases AAH.mp hy with rfl | hy
   ·exact h1
   ·obtain⟨k2,hk2⟩:=AAv hy
    rw[ADc]at hk2
    have hk2':t.place[AAa t.place j+k2]?=some y:=by rw[←AAV];exact hk2
    obtain⟨hl2,ey⟩:=AAy.mp hk2'
    have:=b3 _ hl2 (AE2 _ _)
    rw[ey]at this
    lia
  ·cases hk
end Ht
namespace L2
open PySem PySem.Spec PyProof.Rows DL PySem.W
theorem dU:Slot "set_iterator" "__iter__" "set_iterator.__iter__" :=
 .of (owner:="set_iterator") (n:="__iter__") (by rw[typeLookup_type,AE0];kernel_rfl) (by decide +kernel) (by decide +kernel) (by decide +kernel) (by first | exact .inl (by decide +kernel) | exact .inr (by decide +kernel)) (by rw[isSubtype_type];kernel_rfl)
theorem iX:entryFor table "set_iterator.__iter__" = some Builtin.«dict_keyiterator.__iter__»:=entryFor_alias (id':="dict_keyiterator.__iter__") (by kernel_rfl) rfl (by decide +kernel) (by kernel_rfl)
theorem lB(a:Value):argsOk "set_iterator.__iter__" ⟨[a],[]⟩:=by
 unfold argsOk;rw[signature?_of (id:="set_iterator.__iter__") (n:=['_','_','r','e','t','i','_','_']) (o:=['r','o','t','a','r','e','t','i','_','t','e','s']) (by kernel_rfl) kF];kernel_rfl
section
variable{prog:Program}{w:World}{A:Around}{E:Value->Shared->Prop}{s:Shared}{a it:Addr}{o:Obj}{es:Array (Int×Value)}{ep:Nat}{t:SetTable}
theorem eI(hI:s.heap.get? it=some (dh first i n a ep))(h:Q (.ref it) s):wpAny (model prog w) A (pyIter (.ref it)) Q E s:=by
 have hT:s.TypeIs (.ref it) "set_iterator":=⟨_,hI,rfl⟩
 refine wpAny_pyIter_slot hT dU (AAn dU hT iX (show wpAny _ _ (ret (.ref it)) _ _ s from ?_) (lB _))
 exact AA3 ⟨_,rfl,"set_iterator",_,hT,aX.lookup,h⟩
theorem SetAt.at(S:SetAt h a o es ep t)(k:∀o,h.get? a=some o->h'.get? a=some o):SetAt h' a o es ep t:=⟨k _ S.ob,S.dt,S.ft⟩
theorem iG(hb:w.params.followText "set-order" = true)(S:SetAt s.heap a o es ep t)(h:Q (((pickOrder (w.params.setOrder a ep) es)[i]?).map λe=>(e.2,0)) s) :
  wpAny (model prog w) A (setNext a 0 i ep) Q E s:=by
 unfold setNext
 refine AA0 (ABI S.ob S.dt S.ft ?_)
 unfold setsByText
 refine AA0 (AA0 (ACO (AA3 ?_)))
 simp only[model,hb,if_true,bne_self_eq_false,AAF,if_false]
 unfold setWalk
 refine AA0 (AA0 (ABI S.ob S.dt S.ft ?_))
 unfold setsByText
 refine AA0 (AA0 (ACO (AA3 ?_)))
 simp only[model,hb,if_true]
 exact AA0 (ACO (AA3 (AA3 h)))
theorem vH(hb:w.params.followText "set-order" = true)(hh:A.handled=none)(hne:a≠it) :
  Walks prog w A it [it,a] [it] es.size (λi v=>((pickOrder (w.params.setOrder a ep) es).toList.map (·.2))[i]?=some v) (λi h=>h.get? it=some (dh (rawInt 0) i es.size a ep)/\SetAt h a o es ep t) where
 sub:=λb hb=>by simp at hb;simp[hb]
 frame:=λ_ _ _ st hk=>⟨hk it (by simp) _ st.1,st.2.at λo e=>hk a (by simp) o e⟩
 item:=λi s Q E hi st hQ=>by
  have hl:(pickOrder (w.params.setOrder a ep) es).size=es.size:=by have:=(kh (w.params.setOrder a ep) es).length_eq;simpa using this
  obtain⟨e,he⟩:∃e,(pickOrder (w.params.setOrder a ep) es)[i]?=some e:=⟨_,AAS (by rw[hl];exact hi)⟩
  refine kJ (slot:=0) (next:=0) (x:=e.2) st.1 st.2 (λA E Q q=>iG hb st.2 (by rw[he];exact q)) λh' h1 sb=>hQ _ h' s.toks (by simp[he]) ⟨h1,st.2.at λo e=>(sb.2 a hne).trans e⟩ λb o hb e=>(sb.2 b (by simpa using hb)).trans e
 done:=λs Q E st hQ=>by
  have hl:(pickOrder (w.params.setOrder a ep) es).size=es.size:=by have:=(kh (w.params.setOrder a ep) es).length_eq;simpa using this
  refine df (slot:=0) hh st.1 st.2 (λA E Q q=>iG hb st.2 ?_) λh' k=>hQ h' s.toks λb o hb e=>k b o (by simpa using hb) e
  rw[ACH (by rw[hl];exact AAD _)]
  exact q
 self:=λ_ _ _ _ st hQ=>eI st.1 hQ
theorem rS{tt:Addr}{ps:List Nat}(hp:ps.Perm (AAe es.size))(hh:A.handled=none)(hne:a≠it)(hnt:tt≠it) :
  Walks prog w A it [it,a,tt] [it] es.size (λi v=>(ps.filterMap λj=>(es[j]?).map (·.2))[i]?=some v) (λi h=>h.get? it=some (dh (.ref tt) i es.size a ep)/\SetAt h a o es ep t/\h.IsTuple tt (ps.map λ(k:Nat)=>rawInt k).toArray) where
 sub:=λb hb=>by simp at hb;simp[hb]
 frame:=λ_ _ _ st hk=>⟨hk it (by simp) _ st.1,st.2.1.at λo e=>hk a (by simp) o e,let ⟨o,e,r⟩:=st.2.2;⟨o,hk tt (by simp) _ e,r⟩⟩
 item:=λi s Q E hi st hQ=>by
  have hl:ps.length=es.size:=by have:=hp.length_eq;simpa using this
  have hall:∀j∈ps,j<es.size:=λj hj=>by have:=hp.mem_iff.mp hj;simpa using this
  have hj:ps[i]?=some ps[i]:=AA7 (by lia)
  have hlt:ps[i]<es.size:=hall _ (AAo _)
  have he:es[ps[i]]?=some es[ps[i]]:=AAS hlt
  have fm:(ps.filterMap λj=>(es[j]?).map (·.2))=ps.map λj=>(es.getD j default).2:=by
   clear hj hl hp hi st hQ he hlt
   induction ps with
   | nil=>rfl
   | cons j r ih =>
    have hj:=hall j AAI
    rw[ABp,AAS hj,AAM,←ih λk hk=>hall k (AA9 _ hk)]
    simp[ACL,hj]
  refine wd st.1 st.2.2 st.2.1 hj he λh' h1 sb=>hQ _ h' s.toks ?_ ⟨h1,st.2.1.at λo e=>(sb.2 a hne).trans e,let ⟨o,e,r⟩:=st.2.2;⟨o,(sb.2 tt hnt).trans e,r⟩⟩ λb o hb e=>(sb.2 b (by simpa using hb)).trans e
  rw[fm,AAU,hj]
  simp[ACL,hlt]
 done:=λs Q E st hQ=>by
  have hl:ps.length=es.size:=by have:=hp.length_eq;simpa using this
  exact lN hh st.1 st.2.2 st.2.1 (ABW (by lia)) λh' k=>hQ h' s.toks λb o hb e=>k b o (by simpa using hb) e
 self:=λ_ _ _ _ st hQ=>eI st.1 hQ
theorem iH(hb:w.params.followText "set-order" = false)(hled:t.led=true)(hsz:es.size<=1)(S:SetAt s.heap a o es ep t)
  (h:Q (match es[AAa t.place slot]?,t.place[AAa t.place slot]? with | some (_,x),some j=>some (x,j+1) | _,_=>none) s) :
  wpAny (model prog w) A (setNext a slot i ep) Q E s:=by
 unfold setNext
 refine AA0 (ABI S.ob S.dt S.ft ?_)
 unfold setsByText
 refine AA0 (AA0 (ACO (AA3 ?_)))
 simp only[model,hb,AAF,if_false]
 refine ABc (λz=>?_) λ_=>?_
 ·have z':(!t.plain&&decide (es.size > 1))=true:=z
  simp at z'
  lia
 ·refine AA0 (show wpAny (model prog w) A (if (!t.led && !es.isEmpty)=true then unsupported _ else pure ()) _ _ s from ?_)
  rw[hled]
  simp only[AC7,AAw,AAF,if_false]
  exact AA3 (AA3 h)
theorem rH(j k:Nat):AAa #[j] k=if j<k then 1 else 0:=by
 unfold AAa
 simp only[AAB,AAA,AAW]
 unfold ACA
 simp only[Nat.zero_lt_succ,if_true]
 by_cases h:j<k
 ·simp[h,ACA]
 ·simp[h,ACA]
theorem vI(hb:w.params.followText "set-order" = false)(hled:t.led=true)(hsz:es.size<=1)(hh:A.handled=none)(hne:a≠it) :
  Walks prog w A it [it,a] [it] es.size (λi v=>(es.toList.map (·.2))[i]?=some v) (λi h=>h.get? it=some (dh (rawInt (if i=0 then 0 else t.place.getD 0 0+1:Nat)) i es.size a ep)/\SetAt h a o es ep t) where
 sub:=λb hb=>by simp at hb;simp[hb]
 frame:=λ_ _ _ st hk=>⟨hk it (by simp) _ st.1,st.2.at λo e=>hk a (by simp) o e⟩
 item:=λi s Q E hi st hQ=>by
  obtain rfl:i=0:=by lia
  have ps:t.place.size=1:=by have:=st.2.ft;simp[ADd]at this;lia
  obtain⟨j,hj⟩:∃j,t.place = #[j]:=⟨t.place[0],by apply Array.ext (by simpa using ps);intro i h1 h2;simp at h2;subst h2;rfl⟩
  have he:es[0]?=some es[0]:=AAS hi
  refine kJ (slot:=0) (next:=j+1) (x:=es[0].2) st.1 st.2 (λA E Q q=>iH hb hled hsz st.2 ?_) λh' h1 sb=>hQ _ h' s.toks ?_ ⟨?_,st.2.at λo e=>(sb.2 a hne).trans e⟩ λb o hb e=>(sb.2 b (by simpa using hb)).trans e
  ·rw[hj,rH,if_neg (ABx _),he]
   exact q
  ·rw[AAU,AAV,he];rfl
  ·simpa [hj]using h1
 done:=λs Q E st hQ=>by
  refine df (slot:=if es.size=0 then 0 else t.place.getD 0 0+1) hh st.1 st.2 (λA E Q q=>iH hb hled hsz st.2 ?_) λh' k=>hQ h' s.toks λb o hb e=>k b o (by simpa using hb) e
  have ps:t.place.size=es.size:=by have:=st.2.ft;simp[ADd]at this;lia
  by_cases z:es.size=0
  ·have:es = #[]:=Array.eq_empty_of_size_eq_zero z
   subst this
   simpa using q
  ·obtain⟨j,hj⟩:∃j,t.place = #[j]:=⟨t.place[0],by apply Array.ext (by simp;lia);intro i h1 h2;simp at h2;subst h2;rfl⟩
   have e1:AAa t.place (if es.size=0 then 0 else t.place.getD 0 0+1)=1:=by rw[if_neg z,hj,rH];simp
   rw[e1,ACH (by lia)]
   exact q
 self:=λ_ _ _ _ st hQ=>eI st.1 hQ
theorem iI(hb:w.params.followText "set-order" = false)(hled:t.led=true)(hnd:(!t.plain&&decide (es.size > 1))=false)(S:SetAt s.heap a o es ep t)
  (h:Q (match es[AAa t.place slot]?,t.place[AAa t.place slot]? with | some (_,x),some j=>some (x,j+1) | _,_=>none) s) :
  wpAny (model prog w) A (setNext a slot i ep) Q E s:=by
 unfold setNext
 refine AA0 (ABI S.ob S.dt S.ft ?_)
 unfold setsByText
 refine AA0 (AA0 (ACO (AA3 ?_)))
 simp only[model,hb,AAF,if_false]
 refine ABc (λz=>?_) λ_=>?_
 ·have z':(!t.plain&&decide (es.size > 1))=true:=z
  rw[hnd]at z';cases z'
 ·refine AA0 (show wpAny (model prog w) A (if (!t.led && !es.isEmpty)=true then unsupported _ else pure ()) _ _ s from ?_)
  rw[hled]
  simp only[AC7,AAw,AAF,if_false]
  exact AA3 (AA3 h)
theorem vJ(hb:w.params.followText "set-order" = false)(hled:t.led=true)(hnd:(!t.plain&&decide (es.size > 1))=false)(hr:t.place.toList.Pairwise (· < ·))(hh:A.handled=none)(hne:a≠it) :
  Walks prog w A it [it,a] [it] es.size (λi v=>(es.toList.map (·.2))[i]?=some v) (λi h=>h.get? it=some (dh (rawInt (if i=0 then 0 else t.place.getD (i-1) 0+1:Nat)) i es.size a ep)/\SetAt h a o es ep t):=by
 have bel:∀i,i<=t.place.size->AAa t.place (if i=0 then 0 else t.place.getD (i-1) 0+1)=i:=λi hi=>by
  obtain⟨b1,b2,b3⟩:=Ht.below_spec t.place hr (if i=0 then 0 else t.place.getD (i-1) 0+1)
  have mono:∀a b (ha:a<t.place.size) (hb:b<t.place.size),a<b->t.place[a]<t.place[b]:=λa b ha hb h=>by
   have:=ADJ.mp hr a b (by simpa using ha) (by simpa using hb) h
   simpa using this
  by_cases z:i=0
  ·rw[if_pos z]at b1 b2 b3 ⊢
   rcases Nat.eq_zero_or_pos (AAa t.place 0)with q | q
   ·rw[q,z]
   ·have:=b2 0 (by lia) q
    lia
  ·rw[if_neg z]at b1 b2 b3 ⊢
   have hl:i-1<t.place.size:=by lia
   have eg:t.place.getD (i-1) 0=t.place[i-1]:=by simp[ACL,hl]
   rw[eg]at b1 b2 b3 ⊢
   rcases ACd (AAa t.place (t.place[i-1]+1)) i with q | q | q
   ·have:=b3 (i-1) hl (by lia)
    lia
   ·exact q
   ·have:=b2 i (by lia) q
    have:=mono (i-1) i hl (by lia) (by lia)
    lia
 exact {
  sub:=λb hb=>by simp at hb;simp[hb]
  frame:=λ_ _ _ st hk=>⟨hk it (by simp) _ st.1,st.2.at λo e=>hk a (by simp) o e⟩
  item:=λi s Q E hi st hQ=>by
   have ps:t.place.size=es.size:=by have:=st.2.ft;simp[ADd]at this;lia
   have hp:i<t.place.size:=by lia
   have he:es[i]?=some es[i]:=AAS hi
   have hpl:t.place[i]?=some t.place[i]:=AAS hp
   refine kJ (next:=t.place[i]+1) (x:=es[i].2) st.1 st.2 (λA E Q q=>iI hb hled hnd st.2 ?_) λh' h1 sb=>hQ _ h' s.toks ?_ ⟨?_,st.2.at λo e=>(sb.2 a hne).trans e⟩ λb o hb e=>(sb.2 b (by simpa using hb)).trans e
   ·rw[bel i (by lia),he,hpl]
    exact q
   ·rw[AAU,AAV,he];rfl
   ·rw[if_neg (Nat.succ_ne_zero i),Nat.add_sub_cancel,show t.place.getD i 0=t.place[i] by simp[ACL,hp]]
    exact h1
  done:=λs Q E st hQ=>by
   have ps:t.place.size=es.size:=by have:=st.2.ft;simp[ADd]at this;lia
   refine df hh st.1 st.2 (λA E Q q=>iI hb hled hnd st.2 ?_) λh' k=>hQ h' s.toks λb o hb e=>k b o (by simpa using hb) e
   rw[bel es.size (by lia),ACH (AAD _)]
   exact q
  self:=λ_ _ _ _ st hQ=>eI st.1 hQ }
end
end L2
namespace L2
open PySem PySem.Spec PyProof.Rows DL PySem.W
section
variable{prog:Program}{w:World}{A:Around}{E:Value->Shared->Prop}{s:Shared}{a:Addr}{o:Obj}{es:Array (Int×Value)}{ep:Nat}{t:SetTable}
theorem BJ(S:SetAt s.heap a o es ep t)(hc:o.cls=.type "set")(hpl:t.plain=true->es.size<=1\/t.place.toList.Pairwise (· < ·))(hled:t.led = !w.params.followText "set-order")(hz:es.size<=sizeLine)
  (h:∀(it:Addr) (h':Heap) (d:Drawn) (vs:List Value) (fp:List Addr) (St:Nat->Heap->Prop),(∀b o,s.heap.get? b=some o->h'.get? b=some o)->vs.Perm (es.toList.map (·.2))->s.heap.objs.size<=it->it<h'.objs.size->(∀b∈fp,b=a\/s.heap.objs.size<=b/\b<h'.objs.size) ->
   (∀A':Around,A'.handled=none->Walks prog w A' it fp [it] es.size (λi v=>vs[i]?=some v) St)->St 0 h'->Q (.ref it) { s with heap:=h',drawn:=d }):wpAny (model prog w) A (pyIter (.ref a)) Q E s:=by
 have hT:s.TypeIs (.ref a) "set":=⟨o,S.ob,hc⟩
 have la:a<s.heap.objs.size:=AAG S.ob
 refine wpAny_pyIter_slot hT F.slot_set_iter (AAn F.slot_set_iter hT nX ?_ (F.args_set_iter_1 _))
 unfold Builtin.«frozenset.__iter__»
 refine AA0 (show wpAny (model prog w) _ (pure a) _ _ s from AA3 ?_)
 unfold Builtin.Frozenset.sizeOf
 refine AA0 (AA0 (ACn S.ob S.dt S.ft (AA3 ?_)))
 unfold setDrawn
 refine AA0 (AA0 (ABI S.ob S.dt S.ft ?_))
 unfold setsByText
 refine AA0 (AA0 (ACO (AA3 (AA3 ?_))))
 by_cases hd:(!w.params.followText "set-order" && (!t.plain&&decide (es.size > 1)))=true
 ·refine ABc (λ_=>?_) λz=>absurd hd z
  refine AA0 (rh _ _ _ _ (by simp) λps d hp=>?_)
  refine AA0 (show wpAny (model prog w) _ (newObj (.type "tuple") (.seq (ps.map λ(i:Nat)=>rawInt i).toArray)) _ _ _ from AAj ?_ (by have e:=hp.length_eq;rw[AD7]at e;show (ps.map λ(i:Nat)=>rawInt i).toArray.size<=sizeLine;rw[AAB,AA6,e];exact hz))
  have S1:=S.at (h':=s.heap.push { cls:=.type "tuple",data:=.seq (ps.map λ(i:Nat)=>rawInt i).toArray }) λo e=>AA4 _ e
  refine AA0 (wpAny_setEpoch_of (s:={ s with heap:=_,drawn:=d }) S1.ob S1.dt S1.ft ?_)
  refine AA0 (show wpAny (model prog w) _ (newObj (.type "set_iterator") (.fields #[.ref s.heap.objs.size,rawInt 0,.ref a,rawInt es.size,rawInt ep])) _ _ _ from AAj ?_ (by size_fits))
  refine AA3 ⟨_,rfl,"set_iterator",_,⟨_,AAE _ rfl,rfl⟩,aX.lookup,?_⟩
  have sz:(s.heap.push { cls:=.type "tuple",data:=.seq (ps.map λ(i:Nat)=>rawInt i).toArray }).objs.size=s.heap.objs.size+1:=AB1 ..
  refine h _ _ d (ps.filterMap λj=>(es[j]?).map (·.2)) _ _ (λb o e=>AA4 _ (AA4 _ e)) ?_ (by show s.heap.objs.size<=(s.heap.push _).objs.size;rw[sz];exact ADn _) (by show _<((s.heap.push _).push _).objs.size;rw[AB1 (h:=s.heap.push _)];exact AB5 _) ?_
   (λA' hh=>rS (o:=o) (t:=t) (ep:=ep) hp hh (AAQ (by rw[sz];exact AC9 la)) (AAQ (by rw[sz];exact AB5 _))) ⟨AAE _ rfl,S1.at λo e=>AA4 _ e,⟨_,AA4 _ (AAE _ rfl),rfl,_,rfl⟩⟩
  ·refine(hp.filterMap _).trans ?_
   have e1:(AAe es.size).filterMap (λj=>(es[j]?).map (·.2))=((AAe es.size).filterMap λj=>es[j]?).map (·.2):=by rw[List.map_filterMap]
   rw[e1,filterMap_getElem?_range]
  ·intro b hb
   rw[AB1,sz]
   rcases AAH.mp hb with rfl | hb
   ·exact .inr ⟨by rw[sz];exact ADn _,by rw[sz];exact AB5 _⟩
   ·rcases AAH.mp hb with rfl | hb
    ·exact .inl rfl
    ·rw[AAY.mp hb]
     exact .inr ⟨AAD _,AC9 (AB5 _)⟩
 ·refine ABc (λz=>absurd z hd) λ_=>?_
  refine AA0 (AA3 (AA0 (wpAny_setEpoch_of S.ob S.dt S.ft ?_)))
  refine AA0 (show wpAny (model prog w) _ (newObj (.type "set_iterator") (.fields #[rawInt 0,rawInt 0,.ref a,rawInt es.size,rawInt ep])) _ _ _ from AAj ?_ (by size_fits))
  refine AA3 ⟨_,rfl,"set_iterator",_,⟨_,AAE _ rfl,rfl⟩,aX.lookup,?_⟩
  have S1:=S.at (h':=s.heap.push (dh (rawInt 0) 0 es.size a ep)) λo e=>AA4 _ e
  have fpl:∀b∈[s.heap.objs.size,a],b=a\/s.heap.objs.size<=b/\b<(s.heap.push (dh (rawInt 0) 0 es.size a ep)).objs.size:=λb hb=>by
   rcases AAH.mp hb with rfl | hb
   ·exact .inr ⟨AAD _,by rw[AB1];exact AB5 _⟩
   ·exact .inl (AAY.mp hb)
  by_cases hb:w.params.followText "set-order" = true
  ·refine h _ _ s.drawn ((pickOrder (w.params.setOrder a ep) es).toList.map (·.2)) _ _ (λb o e=>AA4 _ e) ((kh _ es).map _) (AAD _) (by rw[AB1];exact AB5 _) fpl
    (λA' hh=>vH (o:=o) (t:=t) (ep:=ep) hb hh (AAQ la)) ⟨AAE _ rfl,S1⟩
  ·have hb':w.params.followText "set-order" = false:=by simpa using hb
   have hnd:(!t.plain&&decide (es.size > 1))=false:=by
    rw[hb']at hd
    simpa using hd
   have am:es.size<=1\/t.place.toList.Pairwise (· < ·):=by
    by_cases q:t.plain=true
    ·exact hpl q
    ·simp[q]at hnd
     exact .inl hnd
   rcases am with h1 | hr
   ·refine h _ _ s.drawn (es.toList.map (·.2)) _ _ (λb o e=>AA4 _ e) (ADH _) (AAD _) (by rw[AB1];exact AB5 _) fpl
     (λA' hh=>vI (o:=o) (t:=t) (ep:=ep) hb' (by rw[hled,hb'];rfl) h1 hh (AAQ la)) ⟨?_,S1⟩
    rw[if_pos rfl]
    exact AAE _ rfl
   ·refine h _ _ s.drawn (es.toList.map (·.2)) _ _ (λb o e=>AA4 _ e) (ADH _) (AAD _) (by rw[AB1];exact AB5 _) fpl
     (λA' hh=>vJ (o:=o) (t:=t) (ep:=ep) hb' (by rw[hled,hb'];rfl) hnd hr hh (AAQ la)) ⟨?_,S1⟩
    rw[if_pos rfl]
    exact AAE _ rfl
end
end L2
namespace L2
open PySem PySem.Spec PyProof.Rows DL PySem.W PySem.Calls PyProof.V
section
variable{prog:Program}{w:World}{A:Around}{E:Value->Shared->Prop}{s:Shared}{a:Addr}{o:Obj}{es:Array (Int×Value)}{ep:Nat}{t:SetTable}
theorem BP(hT:s.TypeIs (.ref a) "set")(h:Q false s):wpAny (model prog w) A (AEF (.ref a)) Q E s:=by
 unfold AEF
 refine AA0 (ACC hT F.slot_set_len.lookup ?_)
 generalize hi:("set.__len__":String)=ident
 wp_delta
 rw[show splitId ident=some ("set","__len__") by rw[←hi];decide +kernel]
 rw[←hi]
 refine AA0 (ACN (T:="set") (b:=true) hT sub_set_self (ABc (λz=>absurd z (by decide)) λ_=>ABc (λ_=>AA0 (ACg hT (AA3 h))) λz=>absurd (by decide +kernel) z))
theorem wA{R:Result->Shared->Prop}(hh:A.handled=none)(S:SetAt s.heap a o es ep t)(hc:o.cls=.type "set")(hpl:t.plain=true->es.size<=1\/t.place.toList.Pairwise (· < ·))(hled:t.led = !w.params.followText "set-order")(hz:es.size<=sizeLine)
  {D:Addr}{c₀:Nat} (hDa:D≠a) (hD:s.heap.get? D=some { cls:=.type "list",data:=.seq #[] c₀ }) (res:Value)
  (hR:∀h' tk d vs c,(∀b u,b≠D->s.heap.get? b=some u->h'.get? b=some u)->h'.get? D=some { cls:=.type "list",data:=.seq vs c }->vs.toList.Perm (es.toList.map (·.2))->R (.ok (.ret res)) { s with heap:=h',toks:=tk,drawn:=d }) :
  wpAny (model prog w) A.in1 (ACD (.ref D) (.ref a) res)
   (λfin s'=>match fin with | .done f=>R (.ok f) s' | .again c'=>c'.quiet=true/\codeAny (model prog w) A c' R s') (λe s'=>R (.error e) s') s:=by
 have ld:D<s.heap.objs.size:=AAG hD
 have hT:s.TypeIs (.ref a) "set":=⟨o,S.ob,hc⟩
 unfold ACD
 refine AA0 (ACg hT ?_)
 have e1:ACe (.ref D) (.ref a)=false:=by simp[ACe,hDa]
 have e2:(ACp "set" == ACp "list")=false:=by decide
 have e3:(ACp "set" == ACp "tuple")=false:=by decide
 simp only[e1,e2,e3,Bool.or_false,AAF,if_false]
 refine AA0 (BJ S hc hpl hled hz λit h1 d vs fp St k1 pv lit uit hfp W st=>?_)
 have hDf:D∉fp:=λz=>by
  rcases hfp D z with e | ⟨e,_⟩
  ·exact hDa e
  ·exact absurd ld (AD6.mpr e)
 have lv:vs.length=es.size:=by have:=pv.length_eq;simpa using this
 have go:∀(h:Heap) (c₁:Nat),St 0 h->(∀b u,b≠D->h1.get? b=some u->h.get? b=some u)->h.get? D=some { cls:=.type "list",data:=.seq #[] c₁ } ->
   codeAny (model prog w) A (.builtin "list.extend.loop" ⟨[.ref D,.ref it,res],[]⟩) R { s with heap:=h,drawn:=d }:=λh c₁ st' kk hD'=>by
  refine codeAny_extend_loopS (W A.in1 (by simp[hh])).toS hz D hDf res es.size 0 _ #[] c₁ rfl (AAT _) st' hD' (ItemsOf.nil _) λs' acc c' hm hD'' hacc=>?_
  rw[Moved.eq_with hm]
  have ea:acc.toList=vs:=by
   apply List.ext_getElem?
   intro i
   by_cases hi:i<es.size
   ·have hi':i<acc.size:=by rw[hacc.1];exact hi
    have h1:acc[i]?=some acc[i]:=AAS hi'
    rw[AAV,h1]
    exact(hacc.2 i _ h1).symm
   ·rw[ABW (by rw[AAO,hacc.1];lia),ABW (by lia)]
  refine hR s'.heap s'.toks d acc c' (λb u hb e=>hm.heap b u (λz=>?_) (kk b u hb (k1 b u e))) hD'' (by rw[ea];exact pv)
  rcases AAH.mp z with e' | z
  ·exact hb e'
  ·rw[AAY.mp z]at e
   exact absurd (AAG e) (AD6.mpr lit)
 have hD1:=k1 _ _ hD
 refine AA0 (AAp (BP (s:={ s with heap:=h1,drawn:=d }) ⟨o,k1 _ _ S.ob,hc⟩ ?_))
 refine ABc (λz=>?_) λ_=>AA3 ⟨ABu F.plain_extend_loop _,go h1 c₀ st (λ_ _ _ e=>e) hD1⟩
 refine AA0 (ACK (AA0 (show wpAny (model prog w) _ (updateSeq D (·.push .none) >>= λ_=>updateSeq D (·.pop)) _ _ _ from AA0 (ADe hD1 rfl ?_))))
 have hD2:=AAZ (ABZ (·.push ABb)) hD1 rfl
 refine ADe (hz:=by seq_fits) hD2 rfl ?_
 have hD3:=AAZ (ABZ (·.pop)) hD2 rfl
 have other:∀b,b≠D->((h1.update D (ABZ (·.push ABb))).update D (ABZ (·.pop))).get? b=h1.get? b:=λb hb=>by
  rw[ABE _ _ (AAz hb),ABE _ _ (AAz hb)]
 refine AA3 ⟨ABu F.plain_extend_loop _,go _ _ ((W A hh).frame 0 _ _ st λb hb u e=>(other b λq=>hDf (q ▸ hb)).trans e) (λb u hb e=>(other b hb).trans e) hD3⟩
theorem vP{Q:Value->Shared->Prop}(hh:A.handled=none)(S:SetAt s.heap a o es ep t)(hc:o.cls=.type "set")(hpl:t.plain=true->es.size<=1\/t.place.toList.Pairwise (· < ·))(hled:t.led = !w.params.followText "set-order")(hz:es.size<=sizeLine)
  (h:∀h' tk d D (vs:List Value),(∀b u,s.heap.get? b=some u->h'.get? b=some u)->s.heap.get? D=none->h'.get? D=some { cls:=.type "list",data:=.seq vs.toArray }->vs.Perm (es.toList.map (·.2)) ->
   wpAny (model prog w) A.in1 (call (.builtin "list.sort") [.ref D]) (λ_ s'=>Q (.ref D) s') E { s with heap:=h',toks:=tk,drawn:=d }):wpAny (model prog w) A (call (.builtin "sorted") [.ref a]) Q E s:=by
 have la:a<s.heap.objs.size:=AAG S.ob
 refine call_function_entry kind_sorted plain_sorted entry_sorted (args_sorted1 _) ?_
 unfold Builtin.«sorted»
 refine AA0 (m:=checkCount "sorted" 1 1 _) (AA3 ?_)
 unfold collect
 refine AA0 (AA0 (wpAny_runValue (ABX F.entry_proto_collect ?_)))
 rw[AB9 F.plain_proto_collect _]
 refine(show wpAny (model prog w) _ (newList [] >>= λl=>again (.builtin "list.__iadd__" ⟨[l,.ref a],[]⟩)) _ _ s from AA0 (AAj (AA3 ⟨ABu F.plain_list_iadd _,ABX F.entry_list_iadd ?_⟩)))
 rw[AB9 F.plain_list_iadd _]
 have S1:=S.at (h':=s.heap.push { cls:=.type "list",data:=.seq ([]:List Value).toArray }) λo e=>AA4 _ e
 have key:=wA (prog:=prog) (A:=A.in1) (s:={ s with heap:=s.heap.push { cls:=.type "list",data:=.seq ([]:List Value).toArray } }) (D:=s.heap.objs.size) (c₀:=0) (res:=.ref s.heap.objs.size)
  (R:=λr s'=>∃h' tk d vs c,r=.ok (.ret (.ref s.heap.objs.size))/\s'={ s with heap:=h',toks:=tk,drawn:=d }/\(∀b u,s.heap.get? b=some u->h'.get? b=some u)/\h'.get? s.heap.objs.size=some { cls:=.type "list",data:=.seq vs c }/\vs.toList.Perm (es.toList.map (·.2)))
  (by simp[hh]) S1 hc hpl hled hz (ABU la) (AAE _ rfl) λh' tk d vs c k hD p=>⟨h',tk,d,vs,c,rfl,rfl,λb u e=>k b u (AAQ (AAG e)) (AA4 _ e),hD,p⟩
 have last:∀h' tk d (vs:Array Value) c,(∀b u,s.heap.get? b=some u->h'.get? b=some u)->h'.get? s.heap.objs.size=some { cls:=.type "list",data:=.seq vs c }->vs.toList.Perm (es.toList.map (·.2)) ->
   wpAny (model prog w) A.in1 (do let ob ←load s.heap.objs.size;match ob.data with | .seq xs _=>pure xs.toList | _=>unsupported "internal:collect":Sem (List Value))
    (λxs s'=>wpAny (model prog w) A.in1 (do let l ←newList xs;let _ ←holding [l] (call (.builtin "list.sort") [l] []);ret l) (λfin s'=>∃v,fin=Fin.done (Flow.ret v)/\Q v s') E s') E { s with heap:=h',toks:=tk,drawn:=d }:=λh' tk d vs c kk hD p=>by
  refine AA0 (wpAny_load hD (AA3 (AA0 (AE6 ?_ (by rw[p.length_eq];simpa using hz)))))
  have la':s.heap.objs.size<h'.objs.size:=AAG hD
  refine AA0 (AAp (ABh (h (h'.push { cls:=.type "list",data:=.seq vs.toList.toArray }) tk d h'.objs.size vs.toList (λb u e=>AA4 _ (kk b u e)) ?_ (AAE _ rfl) p) (λ_ s' q=>AA3 ⟨_,rfl,q⟩) λ_ _ z=>z))
  cases q:s.heap.get? h'.objs.size with
  | none=>rfl
  | some o'=>exact absurd (AAG (kk _ _ q)) (AAq _)
 refine ABh key (λfin s' x=>?_) λe s' ⟨_,_,_,_,_,z,_⟩=>by cases z
 cases fin with
 | done f =>
  obtain⟨h',tk,d,vs,c,z,rfl,kk,hD,p⟩:=x
  cases z
  exact last h' tk d vs c kk hD p
 | again c' =>
  refine⟨x.1,ADR x.2 λr s2 ⟨h',tk,d,vs,c,z,e,kk,hD,p⟩=>?_⟩
  subst z e
  exact last h' tk d vs c kk hD p
end
end L2
namespace L2
open PySem PySem.Spec PyProof.Rows DL PySem.W
section
variable{X:Cx}{e:Expr}{te:DTE}{p p' pos pos':Pos}{k:Nat}
theorem Inv.drew(I:Inv X pins σ H s):Inv X pins σ H { s with drawn:=d } :=
 ⟨I.ok,I.os,I.bare,I.base,I.loc,I.cell,I.free,I.freeC,I.pin,I.hok,I.len⟩
end
end L2
namespace L2
open PySem PySem.Spec PyProof.Rows DL PySem.Builtin PySem.Builtin.Str PySem.StrLaws
theorem zV(a b len:Nat):strSliceIndices (some (a:Int)) (some (b:Int)) 1 len=strSliceIndices (some ((min a len:Nat):Int)) (some ((min b len:Nat):Int)) 1 len:=by
 have e:∀i:Nat,max (0:Int) (min (i:Int) (len:Int))=max (0:Int) (min ((min i len:Nat):Int) (len:Int)):=λi=>by lia
 have n:∀i:Nat,¬((i:Int)<0):=λi=>by lia
 simp only[strSliceIndices,n,if_false,show ((1:Int) > 0)=True by simp,if_true]
 rw[e a,e b]
theorem cX(x:Str)(l u:Option Int):(ABn x l u).cps.toList=if (strSliceIndices l u 1 x.length).length=x.length then x.cps.toList else(strSliceIndices l u 1 x.length).filterMap (x.cps[·]?):=by
 unfold ABn
 by_cases h:(strSliceIndices l u 1 x.length).length=x.length
 ·rw[if_pos (by simp[h]),if_pos h]
 ·rw[if_neg (by simp[h]),if_neg h]
theorem qd(x:Str){a b:Nat}(hab:a<=b):(ABn x (some (a:Int)) (some (b:Int))).cps.toList=(x.cps.toList.drop a).take (b-a):=by
 have hm:min a x.length<=min b x.length:=by lia
 have key:(strSliceIndices (some ((min a x.length:Nat):Int)) (some ((min b x.length:Nat):Int)) 1 x.length).filterMap (x.cps[·]?)=(x.cps.toList.drop (min a x.length)).take (min b x.length-min a x.length):=sliced_plain x hm (Nat.min_le_right ..)
 have ll:=aB (a:=x)
 have fin:(x.cps.toList.drop (min a x.length)).take (min b x.length-min a x.length)=(x.cps.toList.drop a).take (b-a):=by
  by_cases ha:a<=x.length
  ·rw[Nat.min_eq_left ha]
   by_cases hb:b<=x.length
   ·rw[Nat.min_eq_left hb]
   ·rw[Nat.min_eq_right (by lia),ACG (by rw[ABd];lia),ACG (by rw[ABd];lia)]
  ·rw[ADi (i:=a) (by lia),ADi (i:=min a x.length) (by lia)]
   simp
 rw[cX,zV,key,fin]
 split
 ·rename_i h
  rw[strSliceIndices_plain hm (Nat.min_le_right ..)]at h
  simp only[AA6,AD7]at h
  have h0:min a x.length=0:=by lia
  by_cases hx:x.length=0
  ·have:x.cps.toList=[]:=List.eq_nil_of_length_eq_zero (by lia)
   rw[this];simp
  ·have:a=0:=by lia
   subst this
   rw[List.drop_zero,ACG (by lia)]
 ·rfl
end L2
namespace L2
open PySem PySem.Spec PyProof.Rows DL PySem.W
section
variable{X:Cx}
def CK:DR2:=λx y M Q=>match x,y with
 | .int i,.int j=>Gq i j/\Q (.int (i ^ j.toNat)) M
 | _,_=>False
theorem HN:OpD X (binaryOp .Pow) CK:=by
 refine OpR.imp Hy λvx vy H R ⟨x,y,M,ρ,Q,sm,r1,r2,q,k⟩=>?_
 unfold CK at q
 split at q
 ·cases r1
  cases r2
  exact⟨_,_,rfl,rfl,q.1,k _ H (VQ.now sm (.int _) q.2)⟩
 ·exact q.elim
theorem II:HOp X (binaryOp .Pow) CK:=⟨HN⟩
def sk(z:Str):DRA:=λds M Q=>match ds with
 | [.ref n]=>∃xs:List Str,al M n (xs.map .str)/\(xs.map (·.length)).sum+xs.length*z.length<=16777216/\Q (.str (Txt.join z xs)) M
 | _=>False
theorem pV:∀{xs:List Str}{us:List Value},ax (xs.map V.str) us->StrsAre us xs
 | [],_,h=>by cases h;exact .nil
 | x::xs,_,h=>by
  cases h with
  | cons a t =>
   obtain⟨t',rfl⟩:=a
   exact .cons x t' (pV t)
theorem my{K:AA5}{ρ:List Addr}{H:Hp}:∀{xs:List Str}{vs:List V},Reps K ρ H (xs.map D.str) vs->vs=xs.map V.str
 | [],_,h=>by cases h;rfl
 | x::xs,_,h=>by
  cases h with
  | cons a t=>cases a;rw[AAM,my t]
theorem Ex:MtR X "str.join" (Bo X.K sk):=by
 intro pins s σ H x xs v us R I rx rs ⟨z,ds,M,ρ,Q,ez,sm,rr,q,k⟩
 subst ez
 obtain⟨t,rfl⟩:=rx
 unfold sk at q
 split at q
 ·obtain⟨ys,hL,hok,q⟩:=q
  first | have hzz:=Reps.inv_cons rr | have hzz:=ax.inv_cons rr
  clear rr
  obtain⟨_,_,rfl,r1,rr⟩:=hzz
  cases rr
  obtain⟨_,rfl,hn⟩:=Rep.inv_ref r1
  obtain⟨u,rfl,rfl⟩:=ax.one rs
  obtain⟨vs,hs,r⟩:=hL.seq sm hn
  obtain rfl:=my r
  obtain⟨its,r2,p,_⟩:=I.list hs
  exact join_list p.isList (by simpa using pV r2) hok λt' k'=>⟨.str _,H,I.tok k',⟨t',rfl⟩,k _ H (VQ.now sm (.str _) q)⟩
 ·exact q.elim
theorem Fl:HMs X "join" sk:=⟨_,PySem.F.slot_str_join,PySem.F.type_str_join,Ex⟩
def jY(z:Str):DRA:=λds M Q=>match ds with
 | [.str y]=>∃i aN,AC6 z y 0 z.length 1=i::aN/\Q (.int (i:Nat)) M
 | _=>False
theorem Bm:MtR X "str.index" (Bo X.K jY):=by
 intro pins s σ H x xs v us R I rx rs ⟨z,ds,M,ρ,Q,ez,sm,rr,q,k⟩
 subst ez
 obtain⟨t,rfl⟩:=rx
 unfold jY at q
 split at q
 ·obtain⟨i,aN,ho,q⟩:=q
  first | have hzz:=Reps.inv_cons rr | have hzz:=ax.inv_cons rr
  clear rr
  obtain⟨_,_,rfl,r1,rr⟩:=hzz
  cases rr
  cases r1
  obtain⟨u,rfl,t',rfl⟩:=ax.one rs
  exact call_gives F.slot_str_index (typeIs_str _ _ _) F.entry_str_index (F.args_str_index_2 _ _) (gives_str_index _ _ _ _ i aN ho) ⟨.int _,H,I.tok _,⟨_,rfl⟩,k _ H (VQ.now sm (.int _) q)⟩
 ·exact q.elim
theorem BO:HMs X "index" jY:=⟨_,PySem.F.slot_str_index,PySem.F.type_str_index,Bm⟩
def rp(i:Nat)(b:Bool):DTE:=λS M Q=>match S[i]? with
 | some (some (.str z))=>Q (.ref M.length) (M++[.dct [(z,.bl b)]])
 | _=>False
theorem FQ(hk:PE X (.Name x p) (tVar i)):DE X (.Dict [some (.Name x p)] [.Constant (.bool b) j p'] pos) (rp i b):=by
 refine PE.imp (Ed (AV hk Hq DY) rfl rfl (by simp) (Nat.succ_le_succ (AAT _))) λσ H R ⟨S,M,ρ,Q,sm,sr,q,k⟩=>?_
 unfold rp at q
 split at q
 ·rename_i z hS
  obtain⟨v,hv,rv⟩:=sr.get i _ hS
  cases rv
  intro a ha
  refine⟨_,hv,aV,[(AC5 z,.bl b)],rfl,Nat.succ_le_succ (AAT _),k _ _ ?_⟩
  have e:upd (upd H a (.dK [])) a (.dK (mG [] [(AC5 z,V.bl b)]))=upd H a (.dK (nD [z] [V.bl b])):=by
   funext c
   by_cases hc:c=a
   ·subst hc;rw[aV,aV];rfl
   ·rw[av hc,av hc,av hc]
  rw[e]
  exact⟨.ref M.length,M++[.dct [(z,.bl b)]],ρ++[a],sm.laidM (mo:=.dct [(z,.bl b)]) ha ⟨[.bl b],aV,.cons (.bl b) .nil⟩,Grow.laidR ha,.ref sm.last,q⟩
 ·exact q.elim
theorem EX(hN:X.N[i]?=some x:=by kernel_rfl)(hv:visB X.env.scope x=true:=by kernel_rfl)(hd:(x==("__debug__":Str))=false:=by kernel_rfl)(hcd:(x==("__classdict__":Str))=false:=by kernel_rfl) :
  HE X (.Dict [some (.Name x p)] [.Constant (.bool b) j p'] pos) (rp i b):=⟨FQ (yg hN (CA hv) hd hcd)⟩
end
end L2
namespace Ht
open PySem
def Occ(ow:Array (Option Nat))(s:Nat):Prop:=∃i,ow[s]?=some (some i)
theorem getD_none(hs:s<ow.size):(ow.getD s (some 0)).isNone=true↔¬Occ ow s:=by
 have e:ow[s]?=some ow[s]:=AAS hs
 have e2:ow.getD s (some 0)=ow[s]:=by simp[ACL,hs]
 rw[e2]
 unfold Occ
 rw[e]
 cases ow[s]<;>simp
theorem zF(hz:ow.size=m+1)(h:Int):∀(fuel k0 k:Nat),k0<=k->k<k0+fuel->¬Occ ow (cY m h k).1->(∀n,n<dn m h k0->Occ ow (sq m h n).j) ->
  ∃N,ACt m ow fuel (cY m h k0).1 (cY m h k0).2=some (sq m h N).j/\¬Occ ow (sq m h N).j/\∀n,n<N->Occ ow (sq m h n).j:=by
 intro fuel
 induction fuel with
 | zero=>intro k0 k h1 h2;lia
 | succ fuel ih =>
  intro k0 k h1 h2 h3 h4
  have ile:=sj m h k0
  have rle:AAs m (cY m h k0).1<=m/\(cY m h k0).1<=AAs m (cY m h k0).1:=by
   unfold AAs;split<;>lia
  unfold ACt
  cases hf:(AAe (AAs m (cY m h k0).1+1-(cY m h k0).1)).find? λk=>(ow.getD ((cY m h k0).1+k) (some 0)).isNone with
  | some r =>
   have hr:=List.find?_some hf
   have hmem:=List.mem_of_find?_eq_some hf
   rw[AAk]at hmem
   refine⟨dn m h k0+r,by rw[xJ m h k0 r (by lia)],?_,λn hn=>?_⟩
   ·rw[xJ m h k0 r (by lia)]
    exact(getD_none (by lia)).mp hr
   ·rcases ABz n (dn m h k0)with q | q
    ·exact h4 n q
    ·obtain⟨r',rfl⟩:∃r',n=dn m h k0+r':=⟨n-dn m h k0,by lia⟩
     rw[xJ m h k0 r' (by lia)]
     refine AB4 λhno=>?_
     have hlt:r' < r:=by lia
     have z:=(getD_none (ow:=ow) (s:=(cY m h k0).1+r') (by lia)).mpr hno
     have:=List.find?_range_eq_some.mp hf
     have:=this.2.2 r' hlt
     rw[z]at this
     exact absurd this (by simp)
  | none =>
   have all:∀r,r<=AAs m (cY m h k0).1-(cY m h k0).1->Occ ow ((cY m h k0).1+r):=λr hr=>by
    refine AB4 λhno=>?_
    have z:=(getD_none (ow:=ow) (s:=(cY m h k0).1+r) (by lia)).mpr hno
    have:=List.find?_eq_none.mp hf r (AAk.mpr (by lia))
    exact this z
   have hk:k0≠k:=λe=>by subst e;exact h3 (all 0 (AAT _))
   refine ih (k0+1) k (by lia) (by lia) h3 λn hn=>?_
   unfold dn at hn
   rcases ABz n (dn m h k0)with q | q
   ·exact h4 n q
   ·obtain⟨r',rfl⟩:∃r',n=dn m h k0+r':=⟨n-dn m h k0,by lia⟩
    rw[xJ m h k0 r' (by lia)]
    exact all r' (by lia)
structure Laid(m:Nat)(hs:List Int)(ow:Array (Option Nat))(k:Nat):Prop where
 sz:ow.size=m+1
 lt:∀s i:Nat,ow[s]?=some (some i)->i<k
 inj:∀s s' i:Nat,ow[s]?=some (some i)->ow[s']?=some (some i)->s=s'
 all:∀i:Nat,i<k->∃s:Nat,ow[s]?=some (some i)
 path:∀(s i:Nat) (h:Int),ow[s]?=some (some i)->hs[i]?=some h->∃n,(sq m h n).j=s/\∀n',n' < n->Occ ow (sq m h n').j
theorem Laid.room(L:Laid m hs ow k)(hk:k<=m):∃s,s<=m/\¬Occ ow s:=by
 refine AB4 λhc=>?_
 have occ:∀s,s<=m->Occ ow s:=λs hs=>AB4 λz=>hc ⟨s,hs,z⟩
 have idx:∀s,s∈AAe (m+1)->((ow.getD s none).getD 0)∈AAe k:=λs hs'=>by
  obtain⟨i,e⟩:=occ s (by have:=AAk.mp hs';lia)
  have:ow.getD s none=some i:=by
   obtain⟨hl,z⟩:=AAy.mp e
   simp[ACL,hl,z]
  rw[this]
  exact AAk.mpr (L.lt s i e)
 have nd:((AAe (m+1)).map λs=>(ow.getD s none).getD 0).Nodup:=by
  rw[ACJ,ADs]
  have base:=AE3 (n:=m+1)
  rw[ACJ]at base
  refine base.imp_of_mem λ{a b} ha hb hne e=>hne ?_
  obtain⟨i,ei⟩:=occ a (by have:=AAk.mp ha;lia)
  obtain⟨j,ej⟩:=occ b (by have:=AAk.mp hb;lia)
  have e1:ow.getD a none=some i:=by
   obtain⟨hl,z⟩:=AAy.mp ei
   simp[ACL,hl,z]
  have e2:ow.getD b none=some j:=by
   obtain⟨hl,z⟩:=AAy.mp ej
   simp[ACL,hl,z]
  rw[e1,e2]at e
  have:i=j:=e
  subst this
  exact L.inj a b i ei ej
 have:=L2.nodup_le _ (AAe k) nd λx hx=>by
  obtain⟨s,hs',rfl⟩:=AAN.mp hx
  exact idx s hs'
 rw[AA6,AD7,AD7]at this
 lia
theorem Laid.step(hm:lR m)(L:Laid m hs ow k)(hk:k<=m)(hh:hs[k]?=some h) :
  ∃j,ACt m ow (ADK m) (ABv h % (m+1)) (ABv h)=some j/\Laid m hs (ow.setIfInBounds j (some k)) (k+1):=by
 obtain⟨s,hs1,hs2⟩:=L.room hk
 obtain⟨k',hk',e⟩:=Dj hm h hs1
 obtain⟨N,f1,f2,f3⟩:=zF L.sz h (ADK m) 0 k' (AAT _) (by unfold ADK;lia) (by rw[e];exact hs2) λn hn=>absurd hn (ABx _)
 refine⟨(sq m h N).j,f1,?_⟩
 have jl:(sq m h N).j<ow.size:=by have:=xI (m:=m) h N;rw[L.sz];lia
 have same:(ow.setIfInBounds (sq m h N).j (some k))[(sq m h N).j]?=some (some k):=by
  rw[Array.getElem?_setIfInBounds_self_of_lt jl]
 have other:∀s,s≠(sq m h N).j->(ow.setIfInBounds (sq m h N).j (some k))[s]?=ow[s]?:=λs hne=>Array.getElem?_setIfInBounds_ne (AAz hne)
 have grow:∀s,Occ ow s->Occ (ow.setIfInBounds (sq m h N).j (some k)) s:=λs ⟨i,z⟩=>by
  by_cases q:s=(sq m h N).j
  ·subst q;exact⟨k,same⟩
  ·exact⟨i,by rw[other s q];exact z⟩
 have wh:∀s i,(ow.setIfInBounds (sq m h N).j (some k))[s]?=some (some i)->(s=(sq m h N).j/\i=k)\/(s≠(sq m h N).j/\ow[s]?=some (some i)):=λs i z=>by
  by_cases q:s=(sq m h N).j
  ·subst q;rw[same]at z;cases z;exact .inl ⟨rfl,rfl⟩
  ·rw[other s q]at z;exact .inr ⟨q,z⟩
 refine⟨by rw[Array.size_setIfInBounds];exact L.sz,λs i z=>?_,λs s' i z z'=>?_,λi hi=>?_,λs i h' z hh'=>?_⟩
 ·rcases wh s i z with⟨_,e⟩|⟨_,z⟩
  ·lia
  ·have:=L.lt s i z;lia
 ·rcases wh s i z with⟨e1,e2⟩|⟨_,z⟩
  ·rcases wh s' i z' with⟨e3,_⟩|⟨_,z'⟩
   ·rw[e1,e3]
   ·have:=L.lt s' i z';lia
  ·rcases wh s' i z' with⟨_,e4⟩|⟨_,z'⟩
   ·have:=L.lt s i z;lia
   ·exact L.inj s s' i z z'
 ·by_cases q:i=k
  ·subst q;exact⟨_,same⟩
  ·obtain⟨s,z⟩:=L.all i (by lia)
   refine⟨s,?_⟩
   rw[other s λe=>f2 ⟨i,by rw[←e];exact z⟩]
   exact z
 ·rcases wh s i z with⟨e1,e2⟩|⟨_,z⟩
  ·subst e1 e2
   rw[hh]at hh';cases hh'
   exact⟨N,rfl,λn' hn'=>grow _ (f3 n' hn')⟩
  ·obtain⟨n,a1,a2⟩:=L.path s i h' z hh'
   exact⟨n,a1,λn' hn'=>grow _ (a2 n' hn')⟩
theorem EF(hm:lR m)(hs:List Int)(hl:hs.length<=m):∃ow,SetTable.layClean m hs.toArray=some ow/\Laid m hs ow hs.length:=by
 have start:Laid m hs (Array.replicate (m+1) none) 0:=by
  have no:∀s i:Nat,(Array.replicate (m+1) (none:Option Nat))[s]?≠some (some i):=λs i z=>by
   rw[Array.getElem?_replicate]at z
   split at z<;>cases z
  exact⟨by simp,λs i z=>absurd z (no s i),λs _ i z=>absurd z (no s i),λi hi=>absurd hi (ABx _),λs i _ z=>absurd z (no s i)⟩
 have go:∀(aN:List Int) (k:Nat) (ow:Array (Option Nat)),hs.drop k=aN->k+aN.length=hs.length->Laid m hs ow k ->
   ∃ow',aN.foldl (init:=some (ow,k)) (λacc h=>do
    let (owner,k) ←acc
    let j ←ACt m owner (ADK m) (ABv h % (m+1)) (ABv h)
    pure (owner.setIfInBounds j (some k),k+1))=some (ow',hs.length)/\Laid m hs ow' hs.length:=by
  intro aN
  induction aN with
  | nil =>
   intro k ow e hk L
   have:k=hs.length:=by simpa using hk
   subst this
   exact⟨ow,rfl,L⟩
  | cons h aN ih =>
   intro k ow e hk L
   have hh:hs[k]?=some h:=by
    have:(hs.drop k)[0]?=some h:=by rw[e];rfl
    rw[ADc]at this
    simpa using this
   rw[AAA]at hk
   obtain⟨j,f1,L'⟩:=L.step hm (by lia) hh
   obtain⟨ow',g1,g2⟩:=ih (k+1) (ow.setIfInBounds j (some k)) (by
    have:hs.drop (k+1)=(hs.drop k).drop 1:=by rw[List.drop_drop]
    rw[this,e];rfl) (by lia) L'
   refine⟨ow',?_,g2⟩
   rw[AEG]
   simp only[Option.bind_eq_bind,Option.bind_some,f1,Option.pure_def]
   exact g1
 obtain⟨ow,g1,g2⟩:=go hs 0 _ rfl (by simp) start
 refine⟨ow,?_,g2⟩
 unfold SetTable.layClean
 rw[←Array.foldl_toList]
 have:hs.toArray.toList=hs:=by simp
 rw[this,g1]
 rfl
end Ht
namespace Ht
open PySem
theorem ki{α:Type}[DecidableEq α]:∀{l l':List α},l.Nodup->l'.Nodup->(∀x,x∈l↔x∈l')->l.Perm l'
 | [],l',_,_,h=>by
  have:l'=[]:=List.eq_nil_iff_forall_not_mem.mpr λx hx=>absurd ((h x).mpr hx) (by simp)
  rw[this]
 | x::l,l',n,n',h=>by
  have hx:x∈l':=(h x).mp AAI
  have n1:=AB6.mp n
  refine(AEO x (ki n1.2 (n'.erase x) λy=>?_)).trans (List.perm_cons_erase hx).symm
  by_cases e:y=x
  ·subst e
   constructor
   ·intro z;exact absurd z n1.1
   ·intro z;exact absurd z (List.Nodup.not_mem_erase n')
  ·rw[List.mem_erase_of_ne e,←h y,AAH]
   exact⟨.inr,λz=>z.resolve_left e⟩
def bq(m:Nat)(ow:Array (Option Nat)):List (Nat×Nat):=(AAe (m+1)).filterMap λj=>(ow.getD j none).map (j,·)
theorem dg(L:Laid m hs ow k):(s,i)∈bq m ow↔ow[s]?=some (some i):=by
 unfold bq
 rw[List.mem_filterMap]
 constructor
 ·rintro⟨j,hj,e⟩
  have hj':j<ow.size:=by rw[L.sz];exact AAk.mp hj
  have e2:ow.getD j none=ow[j]:=by simp[ACL,hj']
  rw[e2]at e
  cases q:ow[j] with
  | none=>rw[q]at e;cases e
  | some i' =>
   rw[q]at e
   have:=AAR e
   cases this
   rw[AAS hj',q]
 ·intro e
  obtain⟨hl,z⟩:=AAy.mp e
  refine⟨s,AAk.mpr (by rw[←L.sz];exact hl),?_⟩
  have e2:ow.getD s none=ow[s]:=by simp[ACL,hl]
  rw[e2,z];rfl
theorem qF(m:Nat)(ow:Array (Option Nat)):((bq m ow).map (·.1)).Pairwise (· < ·):=by
 unfold bq
 rw[ADs]
 refine List.Pairwise.filterMap (R:=(· < ·)) _ (λa a' h b hb b' hb'=>?_) (List.pairwise_lt_range)
 obtain⟨x,_,rfl⟩:=ABo.mp hb
 obtain⟨y,_,rfl⟩:=ABo.mp hb'
 exact h
theorem qG(L:Laid m hs ow hs.length):((bq m ow).map (·.2)).Perm (AAe hs.length):=by
 have nd1:(bq m ow).Nodup:=by
  have:=qF m ow
  rw[ADs]at this
  exact this.imp λh e=>by rw[e]at h;exact AAq _ h
 have nd:((bq m ow).map (·.2)).Nodup:=by
  rw[ACJ,ADs]
  rw[ACJ]at nd1
  refine nd1.imp_of_mem λ{a b} ha hb hne e=>hne ?_
  obtain⟨s,i⟩:=a
  obtain⟨s',i'⟩:=b
  have e':i=i':=e
  subst e'
  rw[L.inj s s' i ((dg L).mp ha) ((dg L).mp hb)]
 refine ki nd AE3 λi=>?_
 rw[AAk,AAN]
 constructor
 ·rintro⟨⟨s,i'⟩,hm,rfl⟩
  exact L.lt s i' ((dg L).mp hm)
 ·intro hi
  obtain⟨s,e⟩:=L.all i hi
  exact⟨(s,i),(dg L).mpr e,rfl⟩
end Ht
namespace Ht
open PySem
theorem nU{α:Type}{l:List α}{p:Nat}{x y:α}(hp:p<=l.length){i:Nat}(h:(l.take p++x::l.drop p)[i]?=some y):(i<p/\l[i]?=some y)\/(i=p/\y=x)\/(p<i/\l[i-1]?=some y):=by
 have lt:(l.take p).length=p:=by rw[AAh];lia
 rcases ACd i p with q | q | q
 ·rw[AAJ (by lia),List.getElem?_take,if_pos q]at h
  exact .inl ⟨q,h⟩
 ·subst q
  rw[AAg (by lia),lt,ABy]at h
  exact .inr (.inl ⟨rfl,(AAR h).symm⟩)
 ·rw[AAg (by lia),lt]at h
  obtain⟨r,hr⟩:∃r,i-p=r+1:=⟨i-p-1,by lia⟩
  rw[hr,ABB,ADc]at h
  exact .inr (.inr ⟨q,by rw[show i-1=p+r by lia];exact h⟩)
structure TPre(t:SetTable)(hs:List Int):Prop where
 msk:lR t.mask
 len:t.place.size=hs.length
 nod:t.dummies = #[]
 ris:t.place.toList.Pairwise (· < ·)
 rng:∀j∈t.place.toList,j<=t.mask
 path:∀(i:Nat) (h:Int) (j:Nat),hs[i]?=some h->t.place[i]?=some j->∃n,(sq t.mask h n).j=j/\∀n',n' < n->(sq t.mask h n').j∈t.place.toList
theorem put_pre(T:TOk t hs)(h2:(sq t.mask h N).j∉t.place.toList)(h3:∀k,k<N->(sq t.mask h k).j∈t.place.toList)(pl:Bool) :
  (t.put (sq t.mask h N).j).2<=hs.length/\TPre { (t.put (sq t.mask h N).j).1 with plain:=pl } (hs.take (t.put (sq t.mask h N).j).2++h::hs.drop (t.put (sq t.mask h N).j).2):=by
 obtain⟨e,ris⟩:=xW T.ris h2
 obtain⟨b1,_,_⟩:=below_spec t.place T.ris (sq t.mask h N).j
 have bl:AAa t.place (sq t.mask h N).j<=hs.length:=by rw[←T.len];exact b1
 refine⟨bl,⟨T.msk,?_,?_,ris,λj hj=>?_,λi h' j hh hj=>?_⟩⟩
 ·have:=congrArg AD0 e
  rw[AAO,AA8,AAA,AAh,ABd,AAO]at this
  show (t.put (sq t.mask h N).j).1.place.size=(hs.take (AAa t.place (sq t.mask h N).j)++h::hs.drop (AAa t.place (sq t.mask h N).j)).length
  rw[this,AA8,AAA,AAh,ABd,T.len]
 ·show (if SetTable.has t.dummies (sq t.mask h N).j then SetTable.eraseAt t.dummies (AAa t.dummies (sq t.mask h N).j)else t.dummies) = #[]
  rw[T.nod]
  rfl
 ·have hj':j∈(t.put (sq t.mask h N).j).1.place.toList:=hj
  rw[e]at hj'
  rcases AAl.mp hj' with q | q
  ·exact T.rng j (ADB q)
  ·rcases AAH.mp q with q | q
   ·rw[q];exact xI h N
   ·exact T.rng j (ADA q)
 ·have sub:∀x,x∈t.place.toList->x∈(t.put (sq t.mask h N).j).1.place.toList:=λx hx=>by
   rw[e]
   rw[←List.take_append_drop (AAa t.place (sq t.mask h N).j) t.place.toList]at hx
   rcases AAl.mp hx with q | q
   ·exact ACY _ q
   ·exact AAc _ (AA9 _ q)
  have hj':(t.put (sq t.mask h N).j).1.place.toList[i]?=some j:=by rw[AAV];exact hj
  rw[e]at hj'
  have go:∀k,hs[k]?=some h'->t.place[k]?=some j->∃n,(sq t.mask h' n).j=j/\∀n',n' < n->(sq t.mask h' n').j∈(t.put (sq t.mask h N).j).1.place.toList:=λk z1 z2=>by
   obtain⟨n,a1,a2⟩:=T.path k h' j z1 z2
   exact⟨n,a1,λn' hn'=>sub _ (a2 n' hn')⟩
  rcases nU (by rw[AAO];exact b1) hj' with⟨q,z⟩|⟨q,z⟩|⟨q,z⟩
  ·rcases nU bl hh with⟨q',z'⟩|⟨q',z'⟩|⟨q',z'⟩
   ·exact go i z' (by rw[←AAV];exact z)
   ·lia
   ·lia
  ·rcases nU bl hh with⟨q',z'⟩|⟨q',z'⟩|⟨q',z'⟩
   ·lia
   ·subst z z'
    exact⟨N,rfl,λn' hn'=>sub _ (h3 n' hn')⟩
   ·lia
  ·rcases nU bl hh with⟨q',z'⟩|⟨q',z'⟩|⟨q',z'⟩
   ·lia
   ·lia
   ·exact go (i-1) z' (by rw[←AAV];exact z)
theorem TPre.ok(T:TPre t hs)(h:t.tooFull=false):TOk t hs:=by
 refine⟨T.msk,T.len,T.nod,T.ris,T.rng,?_,T.path⟩
 unfold SetTable.tooFull AEV at h
 rw[T.nod]at h
 simp at h
 simpa using h
theorem TPre.anew(T:TPre t hs)(h:t.tooFull=true)(hb:(hs.length-1)*5<t.mask*3)(h60:hs.length<=64) :
  AEM (ACr hs.length)<=sizeLine/\∃t2 ord,t.relaid hs.toArray (ACr hs.length)=some (t2,ord)/\ord.toList.Perm (AAe hs.length)/\TOk t2 (ord.toList.map λi=>hs.getD i 0)/\t2.led=t.led:=by
 have full:hs.length*5 ≥ t.mask*3:=by
  unfold SetTable.tooFull AEV at h
  rw[T.nod,T.len]at h
  simpa using h
 have gm:∃m,AEM (ACr hs.length)=m+1/\lR m/\hs.length<=m/\hs.length*5<m*3:=by
  rcases T.msk with e | e | e
  ·have:hs.length=5:=by lia
   rw[this]
   exact⟨31,by decide +kernel,.inr (.inl rfl),by decide,by decide⟩
  ·have:hs.length=19:=by lia
   rw[this]
   exact⟨127,by decide +kernel,.inr (.inr rfl),by decide,by decide⟩
  ·lia
 obtain⟨m,e,hm,hl,few⟩:=gm
 refine⟨by rw[e,ABl];rcases hm with rfl | rfl | rfl<;>lia,?_⟩
 obtain⟨ow,f1,L⟩:=EF hm hs hl
 unfold SetTable.relaid
 rw[e,Nat.add_sub_cancel]
 unfold SetTable.laid
 rw[f1]
 refine⟨_,_,rfl,?_,?_,rfl⟩
 ·show ((bq m ow).map (·.2)).toArray.toList.Perm _
  simpa using qG L
 ·have pl:((bq m ow).map (·.1)).toArray.toList=(bq m ow).map (·.1):=by simp
  have ol:((bq m ow).map (·.2)).toArray.toList=(bq m ow).map (·.2):=by simp
  have ln:(bq m ow).length=hs.length:=by have:=(qG L).length_eq;simpa using this
  refine⟨hm,?_,rfl,?_,λj hj=>?_,?_,λi h' j hh hj=>?_⟩
  ·show ((bq m ow).map (·.1)).toArray.size=(((bq m ow).map (·.2)).toArray.toList.map λi=>hs.getD i 0).length
   simp
  ·show ((bq m ow).map (·.1)).toArray.toList.Pairwise _
   rw[pl];exact qF m ow
  ·have hj':j∈((bq m ow).map (·.1)).toArray.toList:=hj
   rw[pl]at hj'
   obtain⟨⟨s,i⟩,hm',rfl⟩:=AAN.mp hj'
   have:=(AAy.mp ((dg L).mp hm')).1
   rw[L.sz]at this
   show s<=m
   lia
  ·show ((bq m ow).map (·.1)).toArray.size*5<m*3
   rw[AAB,AA6,ln];exact few
  ·have hh':(((bq m ow).map (·.2)).map λi=>hs.getD i 0)[i]?=some h':=by rw[←ol];exact hh
   have hj':((bq m ow).map (·.1))[i]?=some j:=by rw[←pl,AAV];exact hj
   rw[AAi,AAU]at hh'
   rw[AAU]at hj'
   cases q:(bq m ow)[i]? with
   | none=>rw[q]at hj';cases hj'
   | some p =>
    obtain⟨s,k⟩:=p
    rw[q]at hh' hj'
    have e1:s=j:=AAR hj'
    have e2:hs.getD k 0=h':=AAR hh'
    subst e1
    have mem:=(dg L).mp (AAu q)
    have kl:=L.lt s k mem
    have hk:hs[k]?=some h':=by
     rw[AA7 kl]
     rw[←e2];simp[AEQ,kl]
    obtain⟨n,a1,a2⟩:=L.path s k h' mem hk
    refine⟨n,a1,λn' hn'=>?_⟩
    obtain⟨k',z⟩:=a2 n' hn'
    show (sq m h' n').j∈((bq m ow).map (·.1)).toArray.toList
    rw[pl]
    exact AAN.mpr ⟨(_,k'),(dg L).mpr z,rfl⟩
end Ht
namespace L2
open PySem PySem.Spec PyProof.Rows DL PySem.W
theorem tm:∀(n:Nat) (d:D),cK n d=true->okD M n d=true
 | 0,d,h=>by cases d<;>first | rfl | cases h
 | n+1,d,h=>by
  cases d with
  | tup ds =>
   have h':ds.all (cK n)=true:=h
   show ds.all (okD M n)=true
   rw[AAK]at h' ⊢
   exact λx hx=>tm n x (h' x hx)
  | str x=>rfl
  | int i=>rfl
  | _=>cases h
theorem il:∀(n:Nat) (x y:D),cK n x=true->cK n y=true->(eqD M n x y=true↔x=y):=by
 intro n
 induction n with
 | zero =>
  intro x y h1 h2
  cases x with
  | str a =>
   cases y with
   | str b=>simp[eqD]
   | int b=>simp[eqD]
   | _=>cases h2
  | int a =>
   cases y with
   | str b=>simp[eqD]
   | int b=>simp[eqD]
   | _=>cases h2
  | _=>cases h1
 | succ n ih =>
  have go:∀xs ys:List D,xs.all (cK n)=true->ys.all (cK n)=true->(eqL (eqD M n) xs ys=true↔xs=ys):=by
   intro xs
   induction xs with
   | nil=>intro ys _ _;cases ys<;>simp[eqL]
   | cons x xs ih2 =>
    intro ys a1 a2
    cases ys with
    | nil=>simp[eqL]
    | cons y ys =>
     rw[ABF,AAC]at a1 a2
     show (eqD M n x y&&eqL (eqD M n) xs ys)=true↔_
     rw[AAC,ih x y a1.1 a2.1,ih2 ys a1.2 a2.2,AED]
  intro x y h1 h2
  cases x with
  | str a =>
   cases y with
   | str b=>simp[eqD]
   | int b=>simp[eqD]
   | tup ys=>simp[eqD]
   | _=>cases h2
  | int a =>
   cases y with
   | str b=>simp[eqD]
   | int b=>simp[eqD]
   | tup ys=>simp[eqD]
   | _=>cases h2
  | tup xs =>
   cases y with
   | str b=>simp[eqD]
   | int b=>simp[eqD]
   | tup ys=>rw[D.tup.injEq];exact go _ _ h1 h2
   | _=>cases h2
  | _=>cases h1
section
variable{X:Cx}{pins:List (Addr×Obj)}{σ:St}{H:Hp}{ρ:List Addr}{M:Mem}
theorem IY(sm:Sim X.K ρ M H):∀(n:Nat) (A:Around) (s:Shared) (d:D) (v:V) (u:Value) (E:Value->Shared->Prop) (Q:Int->Shared->Prop),A.units+n<cLine->Inv X pins σ H s->Rep X.K ρ H d v->aK v u->cK n d=true ->
  (∀tk,Q (hkD X.w n d) { s with toks:=tk })->wpAny (model X.prog X.w) A (pyHash u) Q E s:=by
 intro n
 induction n with
 | zero =>
  intro A s d v u E Q hu I r rv hk h
  cases r with
  | str x=>obtain⟨t,rfl⟩:=rv;exact ADN (h _)
  | int x=>obtain⟨t,rfl⟩:=rv;exact ADM (h _)
  | _=>cases hk
 | succ n ih =>
  intro A s d v u E Q hu I r rv hk h
  cases r with
  | str x=>obtain⟨t,rfl⟩:=rv;exact ADN (h _)
  | int x=>obtain⟨t,rfl⟩:=rv;exact ADM (h _)
  | @tup a vs ds hq rr =>
   cases rv
   obtain⟨its,r2,p,_⟩:=I.tuple hq
   obtain⟨o,ho,hc,nn,hd⟩:=id p
   have hT:s.TypeIs (.ref a) "tuple":=⟨o,ho,hc⟩
   have hks:ds.all (cK n)=true:=hk
   unfold pyHash
   first | unfold pyHashByItsType | skip
   first | refine AA0 (wpAny_cRoomFor_or (.inr (by lia)) ?_) | skip
   refine AA0 (ACC hT F.slot_tuple_hash.lookup ?_)
   refine(show wpAny (model X.prog X.w) _ (if (some (Value.builtin "tuple.__hash__")==some ABb)=true then _ else _) Q E s from ?_)
   rw[if_neg (by rw[beq_builtin_none];exact AAb)]
   refine AA0 (ACC hT F.slot_tuple_hash.lookup ?_)
   refine(show wpAny (model X.prog X.w) _ (callSpecialIfBoundUnlessNone? (.ref a) "__hash__" _ >>= _) Q E s from AA0 (ACz hT F.slot_tuple_hash (AAn F.slot_tuple_hash hT F.entry_tuple_hash ?_ (F.args_tuple_hash_1 _))))
   refine(show wpAny (model X.prog X.w) _ (ACI (.ref a) >>= _) _ _ s from AA0 (wpAny_tupleItemsOf ho hd (AA0 ?_)))
   rw[←ACS]
   refine AC3 _ (λaN (b:Array Int) s'=>∃done left ws,ds=done++left/\Reps X.K ρ H left ws/\ax ws aN/\b.toList=done.map (hkD X.w n)/\∃tk,s'={ s with toks:=tk }) _ ?_ ?_ _ _ ⟨[],ds,vs,rfl,rr,by simpa using r2,rfl,s.toks,rfl⟩
   ·rintro x aN b s' ⟨done,left,ws,e,h1,h2,hb,tk,rfl⟩
    cases h2 with
    | @cons v0 _ ws' _ q1 q2 =>
     cases h1 with
     | @cons d0 _ left' _ r0 t0 =>
      refine AA0 (ih _ _ d0 v0 x _ _ (by show A.units+1+n<cLine;lia) (I.tok tk) r0 q1 ?_ λtk'=>?_)
      ·have:=AAK.mp hks d0 (by rw[e];simp)
       exact this
      ·first
        | exact AA3 ⟨done++[d0],left',ws',by rw[e];simp,t0,q2,by simp[hb],tk',rfl⟩
        | exact AA0 (AA3 (AA3 ⟨done++[d0],left',ws',by rw[e];simp,t0,q2,by simp[hb],tk',rfl⟩))
   ·rintro b s' ⟨done,left,ws,e,h1,h2,hb,tk,rfl⟩
    cases h2
    cases h1
    rw[ACZ]at e
    subst e
    refine(show wpAny (model X.prog X.w) _ (retInt (ABR b.toList)) _ _ _ from ?_)
    rw[hb]
    refine wpAny_ret_mkInt ?_
    have key:hkD X.w (n+1) (.tup ds)=reduceHash (ABR (ds.map (hkD X.w n))):=rfl
    generalize ABR (ds.map (hkD X.w n))=z at key
    refine(show wpAny (model X.prog X.w) _ (if (decide (-(2:Int) ^ 63<=z)&&decide (z<2 ^ 63))=true then _ else _) Q E _ from ?_)
    unfold reduceHash at key
    by_cases hr:(decide (-(2:Int) ^ 63<=z)&&decide (z<2 ^ 63))=true
    ·rw[if_pos hr]at key ⊢
     exact AA3 (by rw[←key];exact h _)
    ·rw[if_neg hr]at key ⊢
     exact AA0 (ACK (AA3 (by rw[←key];exact h _)))
  | _=>cases hk
end
end L2
namespace L2
open PySem PySem.Spec PyProof.Rows DL PySem.W
section
variable{X:Cx}{pins:List (Addr×Obj)}{σ:St}{H:Hp}{ρ:List Addr}{M:Mem}
theorem hbv_D(sm:Sim X.K ρ M H):∀(n k:Nat) (A:Around) (s:Shared) (d:D) (v:V) (u:Value) (E:Value->Shared->Prop) (Q:Bool->Shared->Prop),n<=k->Inv X pins σ H s->Rep X.K ρ H d v->aK v u->cK n d=true->(∀b,Q b s)->wpAny (model X.prog X.w) A (hashByValue k u) Q E s:=by
 intro n
 induction n with
 | zero =>
  intro k A s d v u E Q hk I r rv kd h
  cases r with
  | str x=>obtain⟨t,rfl⟩:=rv;cases k<;>exact AA3 (h _)
  | int x=>obtain⟨t,rfl⟩:=rv;cases k<;>exact AA3 (h _)
  | _=>cases kd
 | succ n ih =>
  intro k A s d v u E Q hk I r rv kd h
  cases r with
  | str x=>obtain⟨t,rfl⟩:=rv;cases k<;>exact AA3 (h _)
  | int x=>obtain⟨t,rfl⟩:=rv;cases k<;>exact AA3 (h _)
  | @tup a vs ds hq rr =>
   cases rv
   obtain⟨k,rfl⟩:∃k',k=k'+1:=⟨k-1,by lia⟩
   obtain⟨its,r2,p,_⟩:=I.tuple hq
   obtain⟨o,ho,hc,nn,hd⟩:=id p
   have hT:s.TypeIs (.ref a) "tuple":=⟨o,ho,hc⟩
   have hks:ds.all (cK n)=true:=kd
   unfold hashByValue
   refine AA0 (ACC hT F.slot_tuple_hash.lookup ?_)
   dsimp only
   refine AA0 (ABL ho hd ?_)
   simp only[Option.getD_some]
   rw[←ACS]
   refine AA0 ?_
   refine AC3 _ (λaN r s'=>s'=s/\r.1=none/\∃left ws,(∀x∈left,cK n x=true)/\Reps X.K ρ H left ws/\ax ws aN) _ ?_ ?_ _ _ ⟨rfl,rfl,ds,vs,AAK.mp hks,rr,by simpa using r2⟩
   ·rintro x aN r s' ⟨rfl,hr,left,ws,hl,h1,h2⟩
    cases h2 with
    | cons q1 q2 =>
     cases h1 with
     | cons r0 t0 =>
      refine AA0 (ih k _ _ _ _ x _ _ (by lia) I r0 q1 (hl _ AAI) λb=>?_)
      cases b with
      | false=>exact AA3 (AA3 (h _))
      | true=>exact AA3 ⟨rfl,rfl,_,_,λx hx=>hl x (AA9 _ hx),t0,q2⟩
   ·rintro⟨r1,r2⟩ s' ⟨rfl,hr,_⟩
    simp only at hr
    subst hr
    exact AA3 (h _)
  | _=>cases kd
theorem xS(sm:Sim X.K ρ M H):∀(n k:Nat) (A:Around) (s:Shared) (d:D) (v:V) (u:Value) (E:Value->Shared->Prop) (Q:Bool->Shared->Prop),n<=k->Inv X pins σ H s->Rep X.K ρ H d v->aK v u->cK n d=true->Q true s->wpAny (model X.prog X.w) A (eqIsQuiet k u) Q E s:=by
 intro n
 induction n with
 | zero =>
  intro k A s d v u E Q hk I r rv kd h
  cases r with
  | str x=>obtain⟨t,rfl⟩:=rv;rw[ABs k (v:=.str x t) rfl];exact AA3 h
  | int x=>obtain⟨t,rfl⟩:=rv;rw[ABs k (v:=.int x t) rfl];exact AA3 h
  | _=>cases kd
 | succ n ih =>
  intro k A s d v u E Q hk I r rv kd h
  cases r with
  | str x=>obtain⟨t,rfl⟩:=rv;rw[ABs k (v:=.str x t) rfl];exact AA3 h
  | int x=>obtain⟨t,rfl⟩:=rv;rw[ABs k (v:=.int x t) rfl];exact AA3 h
  | @tup a vs ds hq rr =>
   cases rv
   obtain⟨k,rfl⟩:∃k',k=k'+1:=⟨k-1,by lia⟩
   obtain⟨its,r2,p,_⟩:=I.tuple hq
   obtain⟨o,ho,hc,nn,hd⟩:=id p
   have hT:s.TypeIs (.ref a) "tuple":=⟨o,ho,hc⟩
   have hks:ds.all (cK n)=true:=kd
   unfold eqIsQuiet
   refine AA0 (ACC hT F.slot_tuple_eq.lookup ?_)
   refine(show wpAny (model X.prog X.w) A (isInstance (.ref a) (.type "tuple") >>= _) _ _ s from AA0 (ACN hT isSubtype_tuple_tuple ?_))
   simp only[AC7,AAF,if_false]
   refine AA0 (ABL ho hd ?_)
   simp only[Option.getD_some]
   refine AA0 ?_
   rw[←ACS]
   refine AC3 _ (λaN r s'=>s'=s/\r.1=none/\∃left ws,(∀x∈left,cK n x=true)/\Reps X.K ρ H left ws/\ax ws aN) _ ?_ ?_ _ _ ⟨rfl,rfl,ds,vs,AAK.mp hks,rr,by simpa using r2⟩
   ·rintro x aN r s' ⟨rfl,hr,left,ws,hl,h1,h2⟩
    cases h2 with
    | cons q1 q2 =>
     cases h1 with
     | cons r0 t0 =>
      refine AA0 (ih k _ _ _ _ x _ _ (by lia) I r0 q1 (hl _ AAI) ?_)
      simp only[AC7,AAF,if_false]
      exact AA3 ⟨rfl,rfl,_,_,λx hx=>hl x (AA9 _ hx),t0,q2⟩
   ·rintro⟨r1,r2⟩ s' ⟨rfl,hr,_⟩
    simp only at hr
    subst hr
    exact AA3 h
  | _=>cases kd
theorem JG(sm:Sim X.K ρ M H):∀(n k:Nat) (A:Around) (s:Shared) (d:D) (v:V) (u:Value) (E:Value->Shared->Prop) (Q:Bool->Shared->Prop),n<=k->Inv X pins σ H s->Rep X.K ρ H d v->aK v u->cK n d=true->Q false s->wpAny (model X.prog X.w) A (ofAClassStatement k u) Q E s:=by
 intro n
 induction n with
 | zero =>
  intro k A s d v u E Q hk I r rv kd h
  cases r with
  | str x=>obtain⟨t,rfl⟩:=rv;cases k<;>exact AA3 h
  | int x=>obtain⟨t,rfl⟩:=rv;cases k<;>exact AA3 h
  | _=>cases kd
 | succ n ih =>
  intro k A s d v u E Q hk I r rv kd h
  cases r with
  | str x=>obtain⟨t,rfl⟩:=rv;cases k<;>exact AA3 h
  | int x=>obtain⟨t,rfl⟩:=rv;cases k<;>exact AA3 h
  | @tup a vs ds hq rr =>
   cases rv
   obtain⟨k,rfl⟩:∃k',k=k'+1:=⟨k-1,by lia⟩
   obtain⟨its,r2,p,_⟩:=I.tuple hq
   obtain⟨o,ho,hc,nn,hd⟩:=id p
   have hT:s.TypeIs (.ref a) "tuple":=⟨o,ho,hc⟩
   have hks:ds.all (cK n)=true:=kd
   unfold ofAClassStatement
   refine AA0 (ACg hT ?_)
   dsimp only
   simp only[beq_self_eq_true,if_true]
   refine AA0 (AA3 ?_)
   simp only[AC7,AAF,if_false]
   refine AA0 (ABL ho hd ?_)
   dsimp only
   refine AA0 ?_
   rw[←ACS]
   refine AC3 _ (λaN r s'=>s'=s/\r.1=none/\∃left ws,(∀x∈left,cK n x=true)/\Reps X.K ρ H left ws/\ax ws aN) _ ?_ ?_ _ _ ⟨rfl,rfl,ds,vs,AAK.mp hks,rr,by simpa using r2⟩
   ·rintro x aN r s' ⟨rfl,hr,left,ws,hl,h1,h2⟩
    cases h2 with
    | cons q1 q2 =>
     cases h1 with
     | cons r0 t0 =>
      refine AA0 (ih k _ _ _ _ x _ _ (by lia) I r0 q1 (hl _ AAI) ?_)
      simp only[AAF,if_false]
      exact AA3 ⟨rfl,rfl,_,_,λx hx=>hl x (AA9 _ hx),t0,q2⟩
   ·rintro⟨r1,r2⟩ s' ⟨rfl,hr,_⟩
    simp only at hr
    subst hr
    exact AA3 h
  | _=>cases kd
end
end L2
namespace L2
open PySem PySem.Spec PyProof.Rows DL PySem.W
def gI:D->Bool
 | .tup _=>true
 | _=>false
def Ent(X:Cx)(ρ:List Addr)(H:Hp)(n:Nat)(d:D)(e:Int×Value):Prop:=(∃v,Rep X.K ρ H d v/\aK v e.2)/\e.1=hkD X.w n d/\cK n d=true/\gI d=true
structure KSet(X:Cx)(ρ:List Addr)(H:Hp)(h:Heap)(a:Addr)(n:Nat)(ds:List D)(o:Obj)(es:Array (Int×Value))(ep:Nat)(t:SetTable):Prop where
 ob:h.get? a=some o
 ex:o.ExactSet
 dt:o.data=.set es ep t
 en:Paired (Ent X ρ H n) ds es.toList
 nd:ds.Nodup
 tk:Ht.TOk t (es.toList.map (·.1))
 ld:t.led = !X.w.params.followText "set-order"
theorem fq{α β:Type}{R:α->β->Prop}:∀{xs:List α}{ys:List β}{i:Nat}{y:β},Paired R xs ys->ys[i]?=some y->∃x,xs[i]?=some x/\R x y
 | _,_,i,y,.nil,e=>by simp at e
 | _,_,0,y,.cons r _,e=>by simp at e;subst e;exact⟨_,rfl,r⟩
 | _,_,i+1,y,.cons _ t,e=>by
  obtain⟨x,h1,h2⟩:=fq (i:=i) t (by simpa using e)
  exact⟨x,by simpa using h1,h2⟩
theorem gu{α β:Type}{R:α->β->Prop}:∀{xs:List α}{ys:List β}{i:Nat}{x:α},Paired R xs ys->xs[i]?=some x->∃y,ys[i]?=some y/\R x y
 | _,_,i,y,.nil,e=>by simp at e
 | _,_,0,y,.cons r _,e=>by simp at e;subst e;exact⟨_,rfl,r⟩
 | _,_,i+1,y,.cons _ t,e=>by
  obtain⟨x,h1,h2⟩:=gu (i:=i) t (by simpa using e)
  exact⟨x,by simpa using h1,h2⟩
theorem KSet.fits(S:KSet X ρ H h a n ds o es ep t):t.fits es.size=true:=by
 have h1:=S.tk.len
 have h2:=S.tk.few
 rw[AA6,AAO]at h1
 unfold ADd
 have h3:t.fill=t.place.size:=by unfold AEV;rw[S.tk.nod];rfl
 rw[h3]
 simp only[AAC,beq_iff_eq,decide_eq_true_eq]
 lia
section
variable{X:Cx}{pins:List (Addr×Obj)}{σ:St}{H:Hp}{ρ:List Addr}{M:Mem}{A:Around}{E:Value->Shared->Prop}{s:Shared}{a:Addr}{n:Nat}{ds:List D}{o:Obj}{es:Array (Int×Value)}{ep:Nat}{t:SetTable}
theorem AC(sm:Sim X.K ρ M H)(I:Inv X pins σ H s)(hn:n<=8)(r:Rep X.K ρ H d v)(rv:aK v u)(kd:cK n d=true)(h:Q false s) :
  ∀(l:List Value),(∀y∈l,∃d' v',Rep X.K ρ H d' v'/\aK v' y/\cK n d'=true)->wpAny (model X.prog X.w) A (searchCouldBeSeen u l) Q E s:=by
 intro l hl
 unfold searchCouldBeSeen
 refine AA0 ?_
 refine AC3 _ (λaN r s'=>s'=s/\r.1=none/\∀y∈aN,∃d' v',Rep X.K ρ H d' v'/\aK v' y/\cK n d'=true) _ ?_ ?_ _ _ ⟨rfl,rfl,hl⟩
 ·rintro y aN r' s' ⟨rfl,hr,hy⟩
  have tl:∀z∈aN,∃d' v',Rep X.K ρ H d' v'/\aK v' z/\cK n d'=true:=λz hz=>hy z (AA9 _ hz)
  obtain⟨d',v',r1,r2,kd'⟩:=hy y AAI
  dsimp only
  refine ABc (λ_=>AA3 ⟨rfl,rfl,tl⟩) λ_=>?_
  refine AA0 (xS sm n 8 A _ d v u _ _ hn I r rv kd ?_)
  simp only[AC7,AAF,if_false]
  refine AA0 (xS sm n 8 A _ d' v' y _ _ hn I r1 r2 kd' ?_)
  simp only[AC7,AAF,if_false]
  refine AA0 (JG sm n 8 A _ d v u _ _ hn I r rv kd ?_)
  simp only[AAF,if_false]
  refine AA0 (JG sm n 8 A _ d' v' y _ _ hn I r1 r2 kd' ?_)
  simp only[AAF,if_false]
  exact AA3 ⟨rfl,rfl,tl⟩
 ·rintro⟨r1,r2⟩ s' ⟨rfl,hr,_⟩
  simp only at hr
  subst hr
  exact AA3 h
theorem AK(sm:Sim X.K ρ M H)(I:Inv X pins σ H s)(hn:n<=8)(hu:A.units+n<cLine)(S:KSet X ρ H s.heap a n ds o es ep t)(r:Rep X.K ρ H d v)(rv:aK v u)(kd:cK n d=true)
  (hthere:d∈ds->Q (.there none) s) (hN1:N<10*(t.mask+15)) (hN2:(Ht.sq t.mask (hkD X.w n d) N).j∉t.place.toList) (hN3:∀k,k<N->(Ht.sq t.mask (hkD X.w n d) k).j∈t.place.toList)
  (hfree:d∉ds->Q (.free (Ht.sq t.mask (hkD X.w n d) N).j false) s) :
  ∀(fuel m:Nat) (stand:Option ACW),m<=N->N<m+fuel->stand.getD (t.probeStart (hkD X.w n d))=Ht.sq t.mask (hkD X.w n d) m->(∀k i:Nat,k<m->t.place[i]?=some (Ht.sq t.mask (hkD X.w n d) k).j->ds[i]?≠some d) ->
   wpAny (model X.prog X.w) A (setSearchFrom a u (hkD X.w n d) true fuel stand) Q E s:=by
 intro fuel
 induction fuel with
 | zero=>intro m stand h1 h2;lia
 | succ fuel ih =>
  intro m stand h1 h2 hs hb
  unfold setSearchFrom
  refine AA0 (ABI S.ob S.dt S.fits ?_)
  dsimp only
  have gw:t.gaveWay=false:=by
   unfold SetTable.gaveWay
   rcases S.tk.msk with e | e | e<;>rw[e]<;>rfl
  rw[gw]
  simp only[AAF,if_false]
  rw[hs]
  rcases Ht.go_spec S.tk.ris S.tk.nod (λi=>(es[i]?.map (·.1)).getD 0) (hkD X.w n d) (10*ADK t.mask) m N h1 (by unfold ADK;lia) hN2 (λk _ hk=>hN3 k hk) (Ht.sq_dummy _ _)with⟨z1,z2⟩|⟨m',i,a1,a2,a3,a4,a5,a6⟩
  ·generalize hpr:SetTable.probe t _ (hkD X.w n d) (Ht.sq t.mask (hkD X.w n d) m)=pr
   obtain rfl:pr=_:=hpr.symm.trans z2
   dsimp only
   refine AA3 (hfree λhd=>?_)
   obtain⟨i,hi⟩:=AAv hd
   obtain⟨e,he,_,eh,_⟩:=gu S.en hi
   have he':es[i]?=some e:=by rw[←AAV];exact he
   have hh:(es.toList.map (·.1))[i]?=some (hkD X.w n d):=by rw[AAU,he];exact congrArg some eh
   have hl:i<t.place.size:=by rw[S.tk.len];exact(AA2.mp hh).1
   obtain⟨ni,b1,b2⟩:=S.tk.path i _ t.place[i] hh (AAS hl)
   have hlt:ni<N:=by
    rcases ACd ni N with q | q | q
    ·exact q
    ·subst q
     exact absurd (show (Ht.sq t.mask (hkD X.w n d) ni).j∈t.place.toList by rw[b1];simp) hN2
    ·exact absurd (b2 N q) hN2
   have hp:t.place[i]?=some (Ht.sq t.mask (hkD X.w n d) ni).j:=by rw[b1];exact AAS hl
   rcases ABz ni m with q | q
   ·exact hb ni i q hp hi
   ·refine z1 ni i q hlt hp ?_
    rw[he']
    exact eh
  ·generalize hpr:SetTable.probe t _ (hkD X.w n d) (Ht.sq t.mask (hkD X.w n d) m)=pr
   obtain rfl:pr=_:=hpr.symm.trans a6
   dsimp only
   have hil:i<es.size:=by
    have:=(AAy.mp a3).1
    rw[S.tk.len,AA6,AAO]at this
    exact this
   have hei:es[i]?=some es[i]:=AAS hil
   obtain⟨d0,hd0,⟨v0,r0,rv0⟩,eh0,kd0,it0⟩:=fq S.en (i:=i) (y:=es[i]) (by rw[AAV];exact hei)
   have seen:∀(f:Bool->Sem SetFound),wpAny (model X.prog X.w) A (f false) Q E s->wpAny (model X.prog X.w) A (searchCouldBeSeen u ((es.filter (·.1==hkD X.w n d)).toList.map (·.2)) >>= f) Q E s:=λf hf=>by
    refine AA0 (AC sm I hn r rv kd hf _ λy hy=>?_)
    obtain⟨e,he,rfl⟩:=AAN.mp hy
    have he2:e∈es.toList:=by
     have:e∈es.filter (·.1==hkD X.w n d):=by simpa using he
     simpa using(Array.mem_filter.mp this).1
    obtain⟨j,hj⟩:=AAv he2
    obtain⟨d1,_,⟨v1,r1,rv1⟩,_,kd1,_⟩:=fq S.en hj
    exact⟨d1,v1,r1,rv1,kd1⟩
   have hbv:∃b,es[i].2=AB3 b:=by
    cases r0 with
    | tup _ _=>exact⟨_,rv0⟩
    | _=>cases it0
   obtain⟨b,hbv⟩:=hbv
   have heq:ACq A s es[i].2 u (eqD M n d0 d):=(lc I sm n A d0 d v0 v es[i].2 u hu r0 rv0 r rv (tm n d0 kd0) (tm n d kd)).1
   refine ABc (λ_=>seen _ ?_) λ_=>?_
   ·simp only[AAF,if_false]
    rw[hei]
    dsimp only
    refine AA0 (AAp (heq _ _ _ _ (AA0 (ABI S.ob S.dt S.fits ?_))))
    dsimp only
    by_cases hq:eqD M n d0 d=true
    ·rw[hq]
     simp only[Bool.and_self,if_true]
     have:d0=d:=(il n d0 d kd0 kd).mp hq
     subst this
     exact AA3 (hthere (AAu hd0))
    ·rw[ABr.mpr hq]
     simp only[ADw,AAF,if_false]
     have sm':t.sameMemory t.moves t.mask=some true:=by unfold SetTable.sameMemory;simp
     rw[sm']
     dsimp only
     simp only[if_true]
     rw[Ht.slot_live S.tk.ris a3]
     dsimp only
     rw[hei]
     have sam:wpAny (model X.prog X.w) A (isSame es[i].2 es[i].2) (λb s'=>b=true/\s'=s) E s:=by
      unfold isSame
      rw[hbv]
      simp only[beq_self_eq_true,if_true]
      exact AA3 (And.intro rfl rfl)
     refine AA0 (ABh sam (λb s' ⟨e1,e2⟩=>?_) λ_ _ z=>z)
     subst e1 e2
     refine AA0 (AA3 ?_)
     simp only[if_true]
     refine ih (m'+1) _ (by lia) (by lia) rfl λk i' hk hp hds=>?_
     rcases ABz k m with q | q
     ·exact hb k i' q hp hds
     ·rcases ABz k m' with q' | q'
      ·refine a5 k i' q q' hp ?_
       obtain⟨e,he,_,eh,_⟩:=gu S.en hds
       have he':es[i']?=some e:=by rw[←AAV];exact he
       rw[he'];exact eh
      ·have:k=m':=by lia
       subst this
       have:i'=i:=by rw[←Ht.below_at S.tk.ris hp,Ht.below_at S.tk.ris a3]
       subst this
       rw[hd0]at hds
       cases hds
       exact hq ((il n d d kd kd).mpr rfl)
   ·rw[hei]
    dsimp only
    refine AA0 (AAp (heq _ _ _ _ (AA0 (ABI S.ob S.dt S.fits ?_))))
    dsimp only
    by_cases hq:eqD M n d0 d=true
    ·rw[hq]
     simp only[Bool.and_self,if_true]
     have:d0=d:=(il n d0 d kd0 kd).mp hq
     subst this
     exact AA3 (hthere (AAu hd0))
    ·rw[ABr.mpr hq]
     simp only[ADw,AAF,if_false]
     have sm':t.sameMemory t.moves t.mask=some true:=by unfold SetTable.sameMemory;simp
     rw[sm']
     dsimp only
     simp only[if_true]
     rw[Ht.slot_live S.tk.ris a3]
     dsimp only
     rw[hei]
     have sam:wpAny (model X.prog X.w) A (isSame es[i].2 es[i].2) (λb s'=>b=true/\s'=s) E s:=by
      unfold isSame
      rw[hbv]
      simp only[beq_self_eq_true,if_true]
      exact AA3 (And.intro rfl rfl)
     refine AA0 (ABh sam (λb s' ⟨e1,e2⟩=>?_) λ_ _ z=>z)
     subst e1 e2
     refine AA0 (AA3 ?_)
     simp only[if_true]
     refine ih (m'+1) _ (by lia) (by lia) rfl λk i' hk hp hds=>?_
     rcases ABz k m with q | q
     ·exact hb k i' q hp hds
     ·rcases ABz k m' with q' | q'
      ·refine a5 k i' q q' hp ?_
       obtain⟨e,he,_,eh,_⟩:=gu S.en hds
       have he':es[i']?=some e:=by rw[←AAV];exact he
       rw[he'];exact eh
      ·have:k=m':=by lia
       subst this
       have:i'=i:=by rw[←Ht.below_at S.tk.ris hp,Ht.below_at S.tk.ris a3]
       subst this
       rw[hd0]at hds
       cases hds
       exact hq ((il n d d kd kd).mpr rfl)
end
end L2
namespace L2
open PySem PySem.Spec PyProof.Rows DL PySem.W
theorem Paired.ins{α β:Type}{R:α->β->Prop}{x:α}{y:β}(r:R x y):∀{xs:List α}{ys:List β} (p:Nat),Paired R xs ys->Paired R (xs.take p++x::xs.drop p) (ys.take p++y::ys.drop p)
 | _,_,0,h=>by simpa using .cons r h
 | _,_,p+1,.nil=>.cons r .nil
 | _,_,p+1,.cons h t=>.cons h (Paired.ins r p t)
theorem Paired.pick{α β:Type}{R:α->β->Prop}:∀{xs:List α}{ys:List β} (is:List Nat),Paired R xs ys->(∀i∈is,i<xs.length)->Paired R (is.filterMap (xs[·]?)) (is.filterMap (ys[·]?))
 | _,_,[],_,_=>.nil
 | xs,ys,i::is,h,hi=>by
  have hl:=hi i AAI
  have e:xs[i]?=some xs[i]:=AA7 hl
  obtain⟨y,hy,r⟩:=gu h e
  rw[ABp,ABp,e,hy]
  exact .cons r (Paired.pick is h λj hj=>hi j (AA9 _ hj))
theorem mz{α:Type}{l:List α}{is:List Nat}(h:is.Perm (AAe l.length)):(is.filterMap (l[·]?)).Perm l:=by
 have:=h.filterMap (l[·]?)
 rwa [List.filterMap_getElem?_range_length]at this
section
variable{X:Cx}{pins:List (Addr×Obj)}{σ:St}{H:Hp}{ρ:List Addr}{M:Mem}{A:Around}{E:Value->Shared->Prop}{s:Shared}{a:Addr}{n:Nat}{ds:List D}{o:Obj}{es:Array (Int×Value)}{ep:Nat}{t:SetTable}
def KS(X:Cx)(ρ:List Addr)(H:Hp)(h:Heap)(a:Addr)(n:Nat)(ds:List D):Prop:=∃o es ep t,KSet X ρ H h a n ds o es ep t
set_option maxHeartbeats 1000000 in
theorem add_D(sm:Sim X.K ρ M H)(I:Inv X pins σ H s)(hn:n<=8)(hu:A.units+n+1<cLine)(S:KS X ρ H s.heap a n ds)(h60:ds.length+1<=64)(r:Rep X.K ρ H d v)(rv:aK v u)(kd:cK n d=true)(it:gI d=true)
  (h:∀b h' tk ds',(∀c u,c≠a->s.heap.get? c=some u->h'.get? c=some u)->KS X ρ H h' a n ds'->(∀x,x∈ds'↔x∈ds\/x=d)->ds'.length<=ds.length+1->Q b { s with heap:=h',toks:=tk }) :
  wpAny (model X.prog X.w) A (setAdd a u) Q E s:=by
 obtain⟨o,es,ep,t,S⟩:=S
 obtain⟨ra,rfl⟩:∃ra,u=AB3 ra:=by
  cases r with
  | tup _ _=>exact⟨_,rv⟩
  | _=>cases it
 unfold setAdd
 refine AAp (AA0 (IY sm n A s d v _ _ _ (by lia) I r rv kd λtk=>?_))
 unfold setAddHashed setAddHashedIn
 refine AAp (AA0 (ABI (s:={ s with toks:=tk }) S.ob S.dt S.fits ?_))
 dsimp only
 have bs:byScan (.ref ra) es=false:=rfl
 rw[bs]
 simp only[AAF,if_false]
 obtain⟨N,hN1,hN2,hN3⟩:=S.tk.empty (hkD X.w n d)
 have I1:Inv X pins σ H { s with toks:=tk }:=I.tok tk
 unfold setSearch
 refine AA0 (AK (s:={ s with toks:=tk }) sm I1 hn (by lia) S r rv kd (λhd=>?_) hN1 hN2 hN3 (λhd=>?_) 100000 0 none (AAT _) ?_ rfl λk i hk=>absurd hk (ABx _))
 ·exact AA3 (h _ s.heap tk ds (λ_ _ _ e=>e) ⟨o,es,ep,t,S⟩ (λx=>⟨.inl,λz=>z.elim id λe=>e ▸ hd⟩) (ADn _))
 ·dsimp only
  refine AA0 (ABI (s:={ s with toks:=tk }) S.ob S.dt S.fits ?_)
  dsimp only
  have len:=S.tk.len
  rw[AA6,AAO]at len
  have dl:ds.length=es.size:=by have:=AET S.en;simpa using this
  have fin:∀pl:Bool,wpAny (model X.prog X.w) A (do
    storeSet a (ADr es (t.put (Ht.sq t.mask (hkD X.w n d) N).j).2 (hkD X.w n d,AB3 ra)) { (t.put (Ht.sq t.mask (hkD X.w n d) N).j).1 with plain:=pl }
    if (!false&&({ (t.put (Ht.sq t.mask (hkD X.w n d) N).j).1 with plain:=pl }:SetTable).tooFull)=true then do
      setRelay a (ACr (es.size+1))
      pure true
     else pure true) Q E { s with toks:=tk }:=λpl=>by
   obtain⟨pb,T1⟩:=Ht.put_pre S.tk hN2 hN3 pl
   have ld1:({ (t.put (Ht.sq t.mask (hkD X.w n d) N).j).1 with plain:=pl }:SetTable).led=t.led:=rfl
   have mk1:({ (t.put (Ht.sq t.mask (hkD X.w n d) N).j).1 with plain:=pl }:SetTable).mask=t.mask:=rfl
   generalize ({ (t.put (Ht.sq t.mask (hkD X.w n d) N).j).1 with plain:=pl }:SetTable)=t1 at T1 ld1 mk1
   generalize (t.put (Ht.sq t.mask (hkD X.w n d) N).j).2=p at pb T1
   rw[AA6,AAO]at pb
   have e1:(ADr es p (hkD X.w n d,AB3 ra)).toList=es.toList.take p++(hkD X.w n d,AB3 ra)::es.toList.drop p:=SetTable.toList_insertAt ..
   generalize ADr es p (hkD X.w n d,AB3 ra)=es1 at e1
   have hs1:es1.toList.map (·.1)=(es.toList.map (·.1)).take p++hkD X.w n d::(es.toList.map (·.1)).drop p:=by rw[e1,ABQ,AAM,List.map_take,List.map_drop]
   rw[←hs1]at T1
   have sz1:es1.size=es.size+1:=by
    have:=congrArg AD0 e1
    rw[AAO,AA8,AAA,AAh,ABd,AAO]at this
    lia
   have en1:Paired (Ent X ρ H n) (ds.take p++d::ds.drop p) es1.toList:=by
    rw[e1]
    exact Paired.ins ⟨⟨v,r,rv⟩,rfl,kd,it⟩ p S.en
   have pm:(ds.take p++d::ds.drop p).Perm (d::ds):=by
    refine List.perm_middle.trans (AEO d ?_)
    rw[List.take_append_drop]
   have nd1:(ds.take p++d::ds.drop p).Nodup:=pm.nodup_iff.mpr (AB6.mpr ⟨hd,S.nd⟩)
   have fit1:t1.fits es1.size=true:=by
    have l1:=T1.len
    rw[AA6,AAO]at l1
    have h3:t1.fill=t1.place.size:=by unfold AEV;rw[T1.nod];rfl
    have fw:=S.tk.few
    unfold ADd
    rw[h3]
    simp only[AAC,beq_iff_eq,decide_eq_true_eq]
    rw[len]at fw
    rcases S.tk.msk with e | e | e<;>rw[mk1,e]<;>rw[e]at fw<;>lia
   have zz:es1.size<=sizeLine:=by rw[ABl];lia
   refine AA0 (wpAny_storeSet_of (s:={ s with toks:=tk }) S.ob S.dt ?_ zz)
   have ob1:(s.heap.update a (AES es1 t1)).get? a=some { o with data:=.set es1 (ep+1) t1 }:=by
    have q:=AAZ (AES es1 t1) S.ob (by rw[putSet_of es1 t1 S.dt];rfl)
    rwa [putSet_of es1 t1 S.dt]at q
   have oth:∀c u,c≠a->s.heap.get? c=some u->(s.heap.update a (AES es1 t1)).get? c=some u:=λc u hc e=>(ABE _ _ (AAz hc)).trans e
   by_cases tf:t1.tooFull=true
   ·rw[tf]
    simp only[Bool.not_false,Bool.and_self,if_true]
    have hbd:((es1.toList.map (·.1)).length-1)*5<t1.mask*3:=by
     have fw:=S.tk.few
     rw[len]at fw
     rw[AA6,AAO,sz1,mk1]
     simpa using fw
    obtain⟨zl,t2,ord,g1,g2,T2,ld2⟩:=T1.anew tf hbd (by rw[AA6,AAO];lia)
    rw[AA6,AAO]at g2 zl
    have eg:ACr (es.size+1)=ACr (es1.toList.map (·.1)).length:=by rw[AA6,AAO,sz1]
    unfold setRelay
    refine AA0 (AA0 (ABI (s:={ s with heap:=_,toks:=tk }) ob1 rfl fit1 ?_))
    dsimp only
    rw[eg]
    have nz:¬AEM (ACr (es1.toList.map (·.1)).length) > sizeLine:=by
     rw[AA6,AAO];lia
    simp only[nz,if_false]
    have ea:es1.map (·.1)=(es1.toList.map (·.1)).toArray:=by apply Array.ext';simp
    rw[ea,g1]
    have es2:(ord.filterMap (es1[·]?)).toList=ord.toList.filterMap (es1.toList[·]?):=by
     rw[Array.toList_filterMap]
     congr 1
     funext i
     rw[AAV]
    have sz2:(ord.filterMap (es1[·]?)).size=es1.size:=by
     have:=(mz (l:=es1.toList) (is:=ord.toList) (by rw[AAO];exact g2)).length_eq
     rw[←es2,AAO,AAO]at this
     exact this
    refine AA0 (show wpAny (model X.prog X.w) A (if ((ord.filterMap (es1[·]?)).size != es1.size)=true then _ else pure (ord.filterMap (es1[·]?),t2)) _ _ _ from ?_)
    rw[if_neg (by rw[sz2];simp)]
    refine AA3 ?_
    generalize ord.filterMap (es1[·]?)=es2' at es2 sz2
    have pm2:(ord.toList.filterMap ((ds.take p++d::ds.drop p)[·]?)).Perm (ds.take p++d::ds.drop p):=mz (by
     have:(ds.take p++d::ds.drop p).length=es1.size:=by rw[pm.length_eq,AAA,dl,sz1]
     rw[this];exact g2)
    refine wpAny_storeSet_of (s:={ s with heap:=_,toks:=tk }) ob1 rfl ?_ (by rw[sz2];exact zz)
    have ob2:((s.heap.update a (AES es1 t1)).update a (AES es2' t2)).get? a=some { o with data:=.set es2' (ep+1+1) t2 }:=by
     have q:=AAZ (AES es2' t2) ob1 (by rw[putSet_of es2' t2 (es:=es1) (ep:=ep+1) (t:=t1) rfl];rfl)
     rwa [putSet_of es2' t2 (es:=es1) (ep:=ep+1) (t:=t1) rfl]at q
    refine AA3 (h _ _ tk (ord.toList.filterMap ((ds.take p++d::ds.drop p)[·]?)) (λc u hc e=>(ABE _ _ (AAz hc)).trans (oth c u hc e)) ⟨_,es2',_,t2,ob2,S.ex,rfl,?_,pm2.nodup_iff.mpr nd1,?_,ld2.trans (ld1.trans S.ld)⟩ (λx=>?_) ?_)
    ·rw[es2]
     refine Paired.pick _ en1 λi hi=>?_
     have:=g2.mem_iff.mp hi
     rw[AAk]at this
     rw[pm.length_eq,AAA,dl,←sz1]
     exact this
    ·have e2:es2'.toList.map (·.1)=ord.toList.map λi=>(es1.toList.map (·.1)).getD i 0:=by
      rw[es2]
      have:∀(is:List Nat),(∀i∈is,i<es1.toList.length)->(is.filterMap (es1.toList[·]?)).map (·.1)=is.map λi=>(es1.toList.map (·.1)).getD i 0:=by
       intro is
       induction is with
       | nil=>intro _;rfl
       | cons i is ih =>
        intro hi
        have hl:=hi i AAI
        rw[ABp,AA7 hl,AAM,AAM,ih λj hj=>hi j (AA9 _ hj)]
        congr 1
        rw[AAP,AAU,AA7 hl]
        rfl
      refine this _ λi hi=>?_
      have:=g2.mem_iff.mp hi
      rw[AAk]at this
      rw[AAO];exact this
     rw[e2]
     exact T2
    ·rw[pm2.mem_iff,pm.mem_iff,AAH]
     exact⟨λz=>z.symm,λz=>z.symm⟩
    ·rw[pm2.length_eq,pm.length_eq];exact AAD _
   ·rw[ABr.mpr tf]
    simp only[ADw,AAF,if_false]
    refine AA3 (h _ _ tk _ oth ⟨_,es1,_,t1,ob1,S.ex,rfl,en1,nd1,T1.ok (ABr.mpr tf),ld1.trans S.ld⟩ (λx=>?_) ?_)
    ·rw[pm.mem_iff,AAH]
     exact⟨λz=>z.symm,λz=>z.symm⟩
    ·rw[pm.length_eq];exact AAD _
  refine ABc (λ_=>AA0 (hbv_D sm n 8 A _ d v _ _ _ hn I1 r rv kd λb=>?_)) λ_=>?_
  ·cases b with
   | true=>exact fin (t.put (Ht.sq t.mask (hkD X.w n d) N).j).1.plain
   | false=>exact fin false
  ·exact fin (t.put (Ht.sq t.mask (hkD X.w n d) N).j).1.plain
 ·have:=hN1
  rcases S.tk.msk with e | e | e<;>rw[e]at this<;>lia
end
end L2
namespace L2
open PySem PySem.Spec PyProof.Rows DL PySem.W
section
variable{X:Cx}{pins:List (Addr×Obj)}{σ:St}{H:Hp}{ρ:List Addr}{M:Mem}{A:Around}{E:Value->Shared->Prop}{s:Shared}{n:Nat}
theorem KS.at(x:KS X ρ H h a n ds)(k:∀o,h.get? a=some o->h'.get? a=some o):KS X ρ H h' a n ds:=by
 obtain⟨o,es,ep,t,S⟩:=x
 exact⟨o,es,ep,t,k _ S.ob,S.ex,S.dt,S.en,S.nd,S.tk,S.ld⟩
theorem EM(sm:Sim X.K ρ M H)(I:Inv X pins σ H s)(hn:n<=8)(hu:A.units+n+2<cLine)(W:Walks X.prog X.w A.in1 J fp wr m P Sx)(S:Addr)(hSf:S∉fp)
  (hS0:s.heap.get? S=none) (hw0:∀b∈wr,s.heap.get? b=none) (val:Nat->D) (hval:∀i v,P i v->∃vv,Rep X.K ρ H (val i) vv/\aK vv v/\cK n (val i)=true/\gI (val i)=true) (hb:m<=63) :
  ∀(k i:Nat) (h:Heap) (tk:Nat) (ds:List D),m-i=k->i<=m->Sx i h->KS X ρ H h S n ds->(∀x,x∈ds↔∃j,j<i/\val j=x)->ds.length<=i->(∀b u,s.heap.get? b=some u->h.get? b=some u) ->
   (∀h' tk ds',(∀b u,s.heap.get? b=some u->h'.get? b=some u)->KS X ρ H h' S n ds'->(∀x,x∈ds'↔∃j,j<m/\val j=x)->ds'.length<=m->R (.ok (.ret .none)) { s with heap:=h',toks:=tk }) ->
   codeAny (model X.prog X.w) A (.builtin "set.update.loop" ⟨[.ref S,.ref J],[]⟩) R { s with heap:=h,toks:=tk }:=by
 have hSw:S∉wr:=λh=>hSf (W.sub _ h)
 intro k
 induction k with
 | zero =>
  intro i h tk ds hk hi hst hS hm hl hold hR
  obtain rfl:i=m:=by lia
  refine ABX F.entry_set_update_loop ?_
  rw[AB9 F.plain_set_update_loop _]
  refine(show wpAny (model X.prog X.w) A.in1 (pyNext (.ref J) >>= _) _ _ _ from AA0 (W.done _ _ _ hst λh' tk hk'=>?_))
  refine AA3 (hR h' tk ds (λb u e=>hk' b u (λz=>by rw[hw0 b z]at e;cases e) (hold b u e)) (hS.at λo e=>hk' S o hSw e) hm hl)
 | succ k ih =>
  intro i h tk ds hk hi hst hS hm hl hold hR
  refine ABX F.entry_set_update_loop ?_
  rw[AB9 F.plain_set_update_loop _]
  refine(show wpAny (model X.prog X.w) A.in1 (pyNext (.ref J) >>= _) _ _ _ from AA0 (W.item i _ _ _ (by lia) hst λv h' tk hP hst' hk'=>?_))
  obtain⟨vv,r,rv,kd,it⟩:=hval i v hP
  have old':∀b u,s.heap.get? b=some u->h'.get? b=some u:=λb u e=>hk' b u (λz=>by rw[hw0 b z]at e;cases e) (hold b u e)
  have I':Inv X pins σ H { s with heap:=h',toks:=tk }:=I.kept old'
  refine AA0 (AAp (add_D (s:={ s with heap:=h',toks:=tk }) sm I' hn (by show A.units+1+n+1<cLine;lia) (hS.at λo e=>hk' S o hSw e) (by lia) r rv kd it λb h2 tk2 ds2 k2 hS2 hm2 hl2=>?_))
  refine AA3 ⟨ABu F.plain_set_update_loop _,ih (i+1) h2 tk2 ds2 (by lia) (by lia) (W.frame _ h' h2 hst' λb' hb' o e=>k2 b' o (λz=>hSf (z ▸ hb')) e) hS2 (λx=>?_) (by lia) (λb u e=>k2 b u (λz=>by rw[z,hS0]at e;cases e) (old' b u e)) hR⟩
  rw[hm2,hm]
  constructor
  ·rintro(⟨j,hj,e⟩ | rfl)
   ·exact⟨j,by lia,e⟩
   ·exact⟨i,by lia,rfl⟩
  ·rintro⟨j,hj,rfl⟩
   by_cases q:j=i
   ·subst q;exact .inr rfl
   ·exact .inl ⟨j,by lia,rfl⟩
theorem BD(e:h.get? a=some (aW X.w)):KS X ρ H h a n [] :=
 ⟨_,#[],0,_,e,⟨rfl,rfl,rfl⟩,rfl,.nil,ACs,⟨.inl rfl,rfl,rfl,ADm,λj hj=>by simp[SetTable.fresh]at hj,(by show 0*5<7*3;decide),λi h j hh=>by simp at hh⟩,rfl⟩
end
end L2
namespace L2
open PySem PySem.Spec PyProof.Rows DL PySem.W
section
variable{X:Cx}{pins:List (Addr×Obj)}{σ:St}{H:Hp}{ρ:List Addr}{M:Mem}{A:Around}{E:Value->Shared->Prop}{s:Shared}{m:Nat}
theorem Fh(sm:Sim X.K ρ M H)(I:Inv X pins σ H s)(hm8:m<=8)(hu:A.units+m+3<cLine){l:Addr}{T:String}{n:Nat}{P:Nat->Value->Prop}{G:Shared->Prop}(hh:A.handled=none)(K:TxSrc X.prog X.w s.heap l T n P)(val:Nat->D)(hval:∀i v,P i v->∃vv,Rep X.K ρ H (val i) vv/\aK vv v/\cK m (val i)=true/\gI (val i)=true)(hb:n<=63)
  (h:∀h' tk ds,(∀b o,s.heap.get? b=some o->h'.get? b=some o)->KS X ρ H h' s.heap.objs.size m ds->(∀x,x∈ds↔∃j,j<n/\val j=x)->ds.length<=n->G { s with heap:=h',toks:=tk }) :
  wpAny (model X.prog X.w) A (Builtin.«set.__init__» ⟨[.ref s.heap.objs.size,.ref l],[]⟩) (λfin s'=>fin=.done (.ret .none)/\G s') E { s with heap:=s.heap.push (aW X.w) }:=by
 have hS:(s.heap.push (aW X.w)).get? s.heap.objs.size=some (aW X.w):=AAE _ rfl
 have hT:AD8 { s with heap:=s.heap.push (aW X.w) } (.ref s.heap.objs.size) "set":=⟨_,hS,rfl⟩
 obtain⟨ol,hol,hcl⟩:=K.obj
 have hol':(s.heap.push (aW X.w)).get? l=some ol:=AA4 _ hol
 have hTl:AD8 { s with heap:=s.heap.push (aW X.w) } (.ref l) T:=⟨ol,hol',hcl⟩
 have ll:l<s.heap.objs.size:=AAG hol
 have sz:(s.heap.push (aW X.w)).objs.size=s.heap.objs.size+1:=AB1 ..
 obtain⟨oI,St,hit,W,st⟩:=K.iter A.in1 { s with heap:=s.heap.push (aW X.w) } hh λo e=>AA4 _ e
 have ns:=K.ns
 have nf:=K.nf
 have nd:=K.nd
 unfold Builtin.«set.__init__» noKeywords Builtin.Frozenset.updateFrom
 generalize hPI:pyIter=PI
 wp_walk
 subst hPI
 refine wpAny_of_in1 (hit _ _ ?_)
 have hSf:s.heap.objs.size∉[(s.heap.push (aW X.w)).objs.size,l]:=by
  rw[sz]
  simp only[AAH,AAf,or_false,not_or]
  exact⟨AAQ (AB5 _),ABU ll⟩
 have hS0:s.heap.get? s.heap.objs.size=none:=by
  cases q:s.heap.get? s.heap.objs.size with
  | none=>rfl
  | some o=>exact absurd (AAG q) (AAq _)
 have hw0:∀b∈[(s.heap.push (aW X.w)).objs.size],s.heap.get? b=none:=λb hb'=>by
  rw[AAY.mp hb',sz]
  cases q:s.heap.get? (s.heap.objs.size+1) with
  | none=>rfl
  | some o=>exact absurd (AAG q) (AD6.mpr (ADn _))
 refine AA0 (wpAny_runValue (EM (s:=s) sm I hm8 (by first | exact(show A.units+m+2<cLine by lia) | exact(show A.units+1+m+2<cLine by lia)) W s.heap.objs.size hSf hS0 hw0 val hval hb n 0 _ _ [] rfl (AAT _) st (BD (AA4 _ hS)) (λx=>by simp) (AAD _) (λb u e=>AA4 _ (AA4 _ e)) λh' tk ks hk hks hm hl=>?_))
 exact AA3 (AA3 ⟨rfl,h h' tk ks hk hks hm hl⟩)
set_option maxHeartbeats 1000000 in
theorem FW(sm:Sim X.K ρ M H)(I:Inv X pins σ H s)(hm8:m<=8)(hu:A.units+m+20<cLine){l:Addr}{T:String}{n:Nat}{P:Nat->Value->Prop}{Q:Value->Shared->Prop}(hh:A.handled=none)(K:TxSrc X.prog X.w s.heap l T n P)(val:Nat->D)(hval:∀i v,P i v->∃vv,Rep X.K ρ H (val i) vv/\aK vv v/\cK m (val i)=true/\gI (val i)=true)(hb:n<=63)
  (h:∀h' tk ds,(∀b o,s.heap.get? b=some o->h'.get? b=some o)->KS X ρ H h' s.heap.objs.size m ds->(∀x,x∈ds↔∃j,j<n/\val j=x)->ds.length<=n->Q (.ref s.heap.objs.size) { s with heap:=h',toks:=tk }) :
  wpAny (model X.prog X.w) A (call (.type "set") [.ref l]) Q E s:=by
 have fm:=F.called_set.made
 have fs:=F.called_set.sub
 have fn:=F.called_set.notType
 have fc:=F.called_set.canCreate
 have ft:=F.typeCall_set_1 (.ref l)
 obtain⟨c,tl,fo⟩:=F.called_set.mro
 refine wpAny_call (codeAny_of_tree (show wpAny _ _ (callAny (.type "set") _) _ _ _ from AA3 ⟨Code.quiet_builtin _ (by decide +kernel),ABX F.entry_type_call ?_⟩))
 rw[Around.under_plain (weight_type_call_type "set" [.ref l] []) rfl]
 repeat (any_goals (first | assumption | wp_step))
 refine ADR (tO (.ref l) (E:=E) (Q₁:=λobj s₁=>obj=.ref s.heap.objs.size/\s₁={ s with heap:=s.heap.push (aW X.w) }) ⟨rfl,rfl⟩) λr s₁ hr=>?_
 match r,hr with
 | .error e,hr=>exact hr
 | .ok (.ret obj),⟨e1,e2⟩ =>
  subst e1 e2
  have hS:(s.heap.push (aW X.w)).get? s.heap.objs.size=some (aW X.w):=AAE _ rfl
  have hT:AD8 { s with heap:=s.heap.push (aW X.w) } (.ref s.heap.objs.size) "set":=⟨_,hS,rfl⟩
  have fl:=F.called_set.init.lookup
  have fb:=F.called_set.init.bind (.ref s.heap.objs.size)
  repeat (any_goals (first | assumption | wp_step))
  refine ADR (codeAny_call_builtin (R:=wants (λr s₂=>r=.none/\Q (.ref s.heap.objs.size) s₂) E) F.called_set.init.plain F.entry_set_init (check_set_init_1 hT ?_)) λr₂ s₂ hr₂=>?_
  ·refine ABh (Fh (G:=λs2=>Q (.ref s.heap.objs.size) s2) sm I hm8 (by first | (show A.units+1+1+1+m+3<cLine;lia) | (show A.units+1+1+m+3<cLine;lia) | (show A.units+1+m+3<cLine;lia)) (by simp[hh]) K val hval hb h) (λfin s' ⟨e,g⟩=>?_) λ_ _ z=>z
   subst e
   exact⟨rfl,g⟩
  ·match r₂,hr₂ with
   | .error e,hr₂=>exact hr₂
   | .ok (.ret r),⟨e,q⟩ =>
    subst e
    repeat (any_goals (first | assumption | wp_step))
end
end L2
namespace L2
open PySem PySem.Spec PyProof.Rows DL PySem.W
def Go(M:Mem)(d:D)(xs:List D):Prop:=(∃n,d=.ref n/\al M n xs)\/d=.tup xs
theorem SrtOk.sub(h:SrtOk M xs)(s:∀y∈ys,y∈xs)(l:ys.length<64):SrtOk M ys:=by
 refine⟨l,λx hx=>h.ok x (s x hx),λx hx y hy=>h.cm x (s x hx) y (s y hy),?_⟩
 rcases h.kd with k | k | k | k | k
 ·exact .inl λx hx=>k x (s x hx)
 ·exact .inr (.inl λx hx=>k x (s x hx))
 ·exact .inr (.inr (.inl λx hx=>k x (s x hx)))
 ·exact .inr (.inr (.inr (.inl λx hx=>k x (s x hx))))
 ·exact .inr (.inr (.inr (.inr λx hx=>k x (s x hx))))
section
variable{X:Cx}{e:Expr}{te:DTE}{p p' pos pos':Pos}{k:Nat}
theorem GF(I:Inv X pins σ H s)(sm:Sim X.K ρ M H)(r:Rep X.K ρ H d v)(rv:aK v u)(t:Go M d xs) :
  ∃(a:Addr) (T:String) (its:Array Value) (vs:List V),u=.ref a/\TxSrc X.prog X.w s.heap a T its.size (λi v=>its[i]?=some v)/\Reps X.K ρ H xs vs/\ax vs its.toList:=by
 rcases t with⟨n,rfl,hL⟩ | rfl
 ·cases r with
  | @ref _ a ha =>
   cases rv
   obtain⟨vs,hs,rr⟩:=hL.seq sm ha
   obtain⟨its,r2,p,_⟩:=I.list hs
   exact⟨a,_,its.toArray,vs,rfl,TxSrc.list p.isList,rr,by simpa using r2⟩
 ·cases r with
  | @tup a vs _ hs rr =>
   cases rv
   obtain⟨its,r2,p,_⟩:=I.tuple hs
   exact⟨a,_,its.toArray,vs,rfl,TxSrc.tuple p,rr,by simpa using r2⟩
theorem rV:∀{ds:List D}{vs:List V}{its:List Value}{i:Nat}{u:Value}{ρ:List Addr}{H:Hp},Reps X.K ρ H ds vs->ax vs its->its[i]?=some u->∃d v,ds[i]?=some d/\Rep X.K ρ H d v/\aK v u
 | _,_,_,i,u,_,_,.nil,h,e=>by cases h;simp at e
 | _,_,_,0,u,_,_,.cons r _,h,e=>by
  cases h with
  | cons a _=>simp at e;subst e;exact⟨_,_,rfl,r,a⟩
 | _,_,_,i+1,u,_,_,.cons _ t,h,e=>by
  cases h with
  | cons _ b =>
   obtain⟨d,v,e1,r,rv⟩:=rV (i:=i) t b (by simpa using e)
   exact⟨d,v,by simpa using e1,r,rv⟩
theorem ents:∀{ds:List D}{es:List (Int×Value)},Paired (Ent X ρ H n) ds es->∃vs,Reps X.K ρ H ds vs/\ax vs (es.map (·.2))
 | _,_,.nil=>⟨[],.nil,.nil⟩
 | _,_,.cons ⟨⟨v,r,rv⟩,_⟩ t=>by
  obtain⟨vs,a,b⟩:=ents t
  exact⟨v::vs,.cons r a,.cons rv b⟩
theorem yf(p:us'.Perm us):∀{ds:List D}{vs:List V},Reps X.K ρ H ds vs->ax vs us->∃ds' vs',ds'.Perm ds/\Reps X.K ρ H ds' vs'/\ax vs' us':=by
 induction p with
 | nil=>intro ds vs r h;exact⟨ds,vs,.refl _,r,h⟩
 | cons x _ ih =>
  intro ds vs r h
  cases h with
  | cons a b =>
   cases r with
   | cons c d =>
    obtain⟨ds',vs',h1,h2,h3⟩:=ih d b
    exact⟨_,_,h1.cons _,.cons c h2,.cons a h3⟩
 | swap x y l =>
  intro ds vs r h
  cases h with
  | cons a b =>
   cases b with
   | cons a2 b2 =>
    cases r with
    | cons c d =>
     cases d with
     | cons c2 d2=>exact⟨_,_,.swap _ _ _,.cons c2 (.cons c d2),.cons a2 (.cons a b2)⟩
 | trans _ _ ih1 ih2 =>
  intro ds vs r h
  obtain⟨ds',vs',h1,h2,h3⟩:=ih2 r h
  obtain⟨ds2,vs2,g1,g2,g3⟩:=ih1 h2 h3
  exact⟨ds2,vs2,g1.trans h1,g2,g3⟩
end
end L2
namespace L2
open PySem PySem.Spec PyProof.Rows DL PySem.W
def gL(te:DTE):DTE:=λS M Q=>te S M λd M1=>∃n xs,n<=8/\Go M1 d xs/\xs.length<64/\(∀x∈xs,cK n x=true/\gI x=true)/\SrtOk M1 xs/\∀ys:List D,ys.Nodup->(∀x,x∈ys↔x∈xs)->wN M1 ys->Q (.ref M1.length) (M1++[.lst ys])
section
variable{X:Cx}{e:Expr}{te:DTE}{p p' pos pos':Pos}{k:Nat}
set_option maxHeartbeats 1000000 in
theorem wB(hr:Room k X.A)(hc:X.calm=true)(he:DE X e te)(hm1:X.mg "sorted" = none)(hm2:X.mg "set" = none)(hg1:X.env.kindOf "sorted" = some .globalImplicit)(hg2:X.env.kindOf "set" = some .globalImplicit)
  (h1:starEach [e] X.env=[(false,eval e X.env)]) (h2:starEach [AEH (.Name "set" p') [e] [] pos'] X.env=[(false,eval (AEH (.Name "set" p') [e] [] pos') X.env)]) :
  DE X (.Call (.Name "sorted" p) [.Call (.Name "set" p') [e] [] pos'] [] pos) (gL te):=by
 intro pins s σ H R I ⟨S,M,ρ,Q,sm,sr,q,kk⟩
 refine ACQ (gF I hg1 hm1 (by rfl) ?_)
 refine callWith_builtin1 ?_ (by rw[h2];rfl) rfl
 rw[h2]
 refine ADW ?_
 refine ACQ (gF I hg2 hm2 (by rfl) ?_)
 refine callWith_type1 ?_ (by rw[h1];rfl) rfl
 rw[h1]
 refine ADW (thn (he pins s σ H _ I ⟨S,M,ρ,_,sm,sr,q,λv H' z=>z⟩) λu s1 ⟨v,H1,I1,rv,d,M1,ρ1,sm1,g1,r1,cases⟩=>?_)
 refine ADk ?_
 obtain⟨n,xs,n8,sq,hl,hk,so,fin⟩:=cases
 obtain⟨a,T,its,ws,rfl,src,rps,vx⟩:=GF I1 sm1 r1 rv sq
 have li:its.size=xs.length:=by have h1:=vx.length;have h2:=rps.length;simp at h1;lia
 have un:=hr.un
 refine FW sm1 I1 n8 (by lia) (I1.ok.hd hc) src (λi=>xs.getD i .non) (λi v e=>?_) (by lia) λh2 tk2 ds k2 kset hks hle=>?_
 ·obtain⟨d,vv,e1,r,rv⟩:=rV rps vx (by rw[AAV];exact e)
  have ed:xs.getD i .non=d:=by rw[AAP,e1];rfl
  have:=hk d (AAu e1)
  exact⟨vv,by rw[ed];exact r,rv,by rw[ed];exact this.1,by rw[ed];exact this.2⟩
 refine ADk ?_
 have I2:=I1.kept (t':=tk2) k2
 obtain⟨o,es,ep,t,KSt⟩:=kset
 have lds:ds.length=es.size:=by have:=KSt.en.length;simpa using this
 have hz:es.size<=sizeLine:=by rw[ABl];lia
 refine vP (s:={ s1 with heap:=h2,toks:=tk2 }) (I2.ok.hd hc) ⟨KSt.ob,KSt.dt,KSt.fits⟩ KSt.ex.1 (λz=>.inr KSt.tk.ris) KSt.ld hz λh3 tk3 dr D vs k3 hD hD3 pv=>?_
 have hmem:∀x,x∈ds↔x∈xs:=λx=>by
  rw[hks x,li]
  constructor
  ·rintro⟨j,hj,rfl⟩
   have e:xs.getD j .non=xs[j]:=by simp[AEQ,hj]
   rw[e]
   exact AAo hj
  ·intro hx
   obtain⟨j,hj,e⟩:=List.getElem_of_mem hx
   exact⟨j,hj,by rw[show xs.getD j .non=xs[j] by simp[AEQ,hj]];exact e⟩
 obtain⟨ws0,rp0,va0⟩:=ents KSt.en
 obtain⟨ds',ws',pd,rp1,va1⟩:=yf pv rp0 va0
 obtain⟨m,hn,_⟩:=I2.loc
 have hDL:D≠X.env.locals:=λz=>by
  obtain⟨oL,_,_,hL,_⟩:=hn
  rw[z]at hD
  rw[hD]at hL;cases hL
 have hn3:h3.Ns X.env.locals m:=hn.at' λo e=>k3 _ _ e
 refine sf (X:=X) (pins:=pins) (σ:=σ) (s:={ s1 with heap:=h2,toks:=tk2,drawn:=dr }) (n:=0) hr (by show X.A.units+1<=X.A.units+4;lia) I2.drew sm1 (so.sub (ys:=ds') (λy hy=>(hmem y).mp (pd.mem_iff.mp hy)) (by rw[pd.length_eq];lia)).g rp1 va1 hn hn3 (λb u _ e=>k3 b u e) hD hDL hD3 λv H' x=>?_
 refine kk v H' ?_
 have:=x (λd M'=>Q d M') λys hp hri=>?_
 ·obtain⟨d,M',ρ',a1,a2,a3,a4⟩:=this
  exact⟨d,M',ρ',a1,g1.trans a2,a3,a4⟩
 ·exact fin ys ((hp.trans pd).nodup_iff.mpr KSt.nd) (λx=>((hp.trans pd).mem_iff).trans (hmem x)) hri
theorem ww(hr:Room k X.A)(he:HE X e te)(hm1:X.mg "sorted" = none)(hm2:X.mg "set" = none)(hc:X.calm=true:=by kernel_rfl)(hg1:X.env.kindOf "sorted" = some .globalImplicit:=by kernel_rfl)(hg2:X.env.kindOf "set" = some .globalImplicit:=by kernel_rfl)
  (h1:starEach [e] X.env=[(false,eval e X.env)]:=by kernel_rfl) (h2:starEach [AEH (.Name "set" p') [e] [] pos'] X.env=[(false,eval (AEH (.Name "set" p') [e] [] pos') X.env)]:=by kernel_rfl) :
  HE X (.Call (.Name "sorted" p) [.Call (.Name "set" p') [e] [] pos'] [] pos) (gL te):=⟨wB hr hc he.ok hm1 hm2 hg1 hg2 h1 h2⟩
end
end L2
namespace L2
open PySem PySem.Spec PyProof.Rows DL PySem.W
def eG(h:Heap):Nat->D->Value->Prop
 | _,.str x,v=>∃t,v=.str x t
 | _,.int i,v=>∃t,v=.int i t
 | n+1,.tup ds,v=>∃a its,v=.ref a/\h.IsTuple a its/\Paired (eG h n) ds its.toList
 | _,_,_=>False
def drD:Nat->D->Nat
 | n+1,.tup ds=>(ds.map (drD n)).sum+1
 | _,_=>1
theorem gG:∀(n:Nat) (d:D) (v:Value),eG h n d v->cK n d=true:=by
 intro n
 induction n with
 | zero=>intro d v k;cases d<;>first | rfl | exact k.elim
 | succ n ih =>
  intro d v k
  cases d with
  | str x=>rfl
  | int x=>rfl
  | tup ds =>
   obtain⟨a,its,_,_,p⟩:=k
   show ds.all (cK n)=true
   generalize its.toList=l at p
   induction p with
   | nil=>rfl
   | cons r _ i2=>rw[ABF,ih _ _ r,i2];rfl
  | _=>exact k.elim
theorem tz{h:Heap}{a:Addr}{xs ys:Array Value}(h1:h.IsTuple a xs)(h2:h.IsTuple a ys):xs=ys:=by
 obtain⟨o,e1,_,n,d1⟩:=h1
 obtain⟨o',e2,_,n',d2⟩:=h2
 obtain rfl:o=o':=AAR (e1.symm.trans e2)
 rw[d1]at d2
 injection d2
theorem qN{h:Heap}:∀(n:Nat) (x y:D) (v:Value),eG h n x v->eG h n y v->x=y:=by
 intro n
 induction n with
 | zero =>
  intro x y v k1 k2
  cases x with
  | str a =>
   obtain⟨t,rfl⟩:=k1
   cases y with
   | str b=>obtain⟨t',e⟩:=k2;injection e with e;rw[e]
   | int b=>obtain⟨t',e⟩:=k2;cases e
   | _=>exact k2.elim
  | int a =>
   obtain⟨t,rfl⟩:=k1
   cases y with
   | str b=>obtain⟨t',e⟩:=k2;cases e
   | int b=>obtain⟨t',e⟩:=k2;injection e with e;rw[e]
   | _=>exact k2.elim
  | _=>exact k1.elim
 | succ n ih =>
  intro x y v k1 k2
  cases x with
  | str a =>
   obtain⟨t,rfl⟩:=k1
   cases y with
   | str b=>obtain⟨t',e⟩:=k2;injection e with e;rw[e]
   | int b=>obtain⟨t',e⟩:=k2;cases e
   | tup b=>obtain⟨_,_,e,_⟩:=k2;cases e
   | _=>exact k2.elim
  | int a =>
   obtain⟨t,rfl⟩:=k1
   cases y with
   | str b=>obtain⟨t',e⟩:=k2;cases e
   | int b=>obtain⟨t',e⟩:=k2;injection e with e;rw[e]
   | tup b=>obtain⟨_,_,e,_⟩:=k2;cases e
   | _=>exact k2.elim
  | tup xs =>
   obtain⟨a,its,rfl,t1,p1⟩:=k1
   cases y with
   | str b=>obtain⟨t',e⟩:=k2;cases e
   | int b=>obtain⟨t',e⟩:=k2;cases e
   | tup ys =>
    obtain⟨_,its',e,t2,p2⟩:=k2
    cases e
    obtain rfl:=tz t1 t2
    congr 1
    generalize its.toList=l at p1 p2
    induction p1 generalizing ys with
    | nil=>cases p2;rfl
    | cons r _ i2=>cases p2 with
     | cons r' t'=>rw[ih _ _ _ r r',i2 _ t']
   | _=>exact k2.elim
  | _=>exact k1.elim
theorem wu(k:∀a its,h.IsTuple a its->h'.IsTuple a its):∀(n:Nat) (d:D) (v:Value),eG h n d v->eG h' n d v:=by
 intro n
 induction n with
 | zero=>intro d v q;cases d<;>first | exact q | exact q.elim
 | succ n ih =>
  intro d v q
  cases d with
  | str x=>exact q
  | int x=>exact q
  | tup ds =>
   obtain⟨a,its,e,t,p⟩:=q
   exact⟨a,its,e,k _ _ t,Paired.mapP p λx y r=>ih x y r⟩
  | _=>exact q.elim
theorem tq{es ep}(q:eG h n k v)(ho:h.get? d=some o)(hd:o.data=.dict es ep)(hs:ABM d h h'):eG h' n k v:=by
 refine wu (λa its ⟨o',e,c,m,t⟩=>?_) n k v q
 have hne:a≠d:=by
  rintro rfl
  obtain rfl:o'=o:=AAR (e.symm.trans ho)
  rw[hd]at t;cases t
 exact⟨o',(hs.2 a hne).trans e,c,m,t⟩
section
variable{prog:Program}{w:World}
theorem wv:∀(n:Nat) (A:Around) (s:Shared) (d:D) (u:Value) (E:Value->Shared->Prop) (Q:Int->Shared->Prop),A.units+n<cLine->eG s.heap n d u ->
  Q (hkD w n d) { s with toks:=s.toks+drD n d }->wpAny (model prog w) A (pyHash u) Q E s:=by
 intro n
 induction n with
 | zero =>
  intro A s d u E Q hu k h
  cases d with
  | str x=>obtain⟨t,rfl⟩:=k;exact ADN h
  | int x=>obtain⟨t,rfl⟩:=k;exact ADM h
  | _=>exact k.elim
 | succ n ih =>
  intro A s d u E Q hu k h
  cases d with
  | str x=>obtain⟨t,rfl⟩:=k;exact ADN h
  | int x=>obtain⟨t,rfl⟩:=k;exact ADM h
  | tup ds =>
   obtain⟨a,its,rfl,⟨o,ho,hc,nn,hd⟩,p⟩:=k
   have hT:s.TypeIs (.ref a) "tuple":=⟨o,ho,hc⟩
   unfold pyHash
   first | unfold pyHashByItsType | skip
   first | refine AA0 (wpAny_cRoomFor_or (.inr (by lia)) ?_) | skip
   refine AA0 (ACC hT F.slot_tuple_hash.lookup ?_)
   refine(show wpAny (model prog w) _ (if (some (Value.builtin "tuple.__hash__")==some ABb)=true then _ else _) Q E s from ?_)
   rw[if_neg (by rw[beq_builtin_none];exact AAb)]
   refine AA0 (ACC hT F.slot_tuple_hash.lookup ?_)
   refine(show wpAny (model prog w) _ (callSpecialIfBoundUnlessNone? (.ref a) "__hash__" _ >>= _) Q E s from AA0 (ACz hT F.slot_tuple_hash (AAn F.slot_tuple_hash hT F.entry_tuple_hash ?_ (F.args_tuple_hash_1 _))))
   refine(show wpAny (model prog w) _ (ACI (.ref a) >>= _) _ _ s from AA0 (wpAny_tupleItemsOf ho hd (AA0 ?_)))
   rw[←ACS]
   refine AC3 _ (λaN (b:Array Int) s'=>∃done left,ds=done++left/\Paired (eG s.heap n) left aN/\b.toList=done.map (hkD w n)/\s'={ s with toks:=s.toks+(done.map (drD n)).sum }) _ ?_ ?_ _ _ ⟨[],ds,rfl,p,rfl,rfl⟩
   ·rintro x aN b s' ⟨done,left,e,h1,hb,rfl⟩
    cases h1 with
    | @cons d0 _ left' _ r0 t0 =>
     refine AA0 (ih _ _ d0 x _ _ (by show A.units+1+n<cLine;lia) r0 ?_)
     first
      | exact AA3 ⟨done++[d0],left',by rw[e];simp,t0,by simp[hb],by simp[Nat.add_assoc]⟩
      | exact AA0 (AA3 (AA3 ⟨done++[d0],left',by rw[e];simp,t0,by simp[hb],by simp[Nat.add_assoc]⟩))
   ·rintro b s' ⟨done,left,e,h1,hb,rfl⟩
    cases h1
    rw[ACZ]at e
    subst e
    refine(show wpAny (model prog w) _ (retInt (ABR b.toList)) _ _ _ from ?_)
    rw[hb]
    refine wpAny_ret_mkInt ?_
    have key:hkD w (n+1) (.tup ds)=reduceHash (ABR (ds.map (hkD w n))):=rfl
    have h':Q (hkD w (n+1) (.tup ds)) { s with toks:=s.toks+(ds.map (drD n)).sum+1 }:=h
    generalize ABR (ds.map (hkD w n))=z at key
    refine(show wpAny (model prog w) _ (if (decide (-(2:Int) ^ 63<=z)&&decide (z<2 ^ 63))=true then _ else _) Q E _ from ?_)
    unfold reduceHash at key
    by_cases hr:(decide (-(2:Int) ^ 63<=z)&&decide (z<2 ^ 63))=true
    ·rw[if_pos hr]at key ⊢
     exact AA3 (by rw[←key];exact h')
    ·rw[if_neg hr]at key ⊢
     exact AA0 (ACK (AA3 (by rw[←key];exact h')))
  | _=>exact k.elim
theorem tp:∀(n k:Nat) (A:Around) (s:Shared) (d:D) (u:Value) (E:Value->Shared->Prop) (Q:Bool->Shared->Prop),n<=k->eG s.heap n d u->Q true s->wpAny (model prog w) A (eqIsQuiet k u) Q E s:=by
 intro n
 induction n with
 | zero =>
  intro k A s d u E Q hk q h
  cases d with
  | str x=>obtain⟨t,rfl⟩:=q;rw[ABs k (v:=.str x t) rfl];exact AA3 h
  | int x=>obtain⟨t,rfl⟩:=q;rw[ABs k (v:=.int x t) rfl];exact AA3 h
  | _=>exact q.elim
 | succ n ih =>
  intro k A s d u E Q hk q h
  cases d with
  | str x=>obtain⟨t,rfl⟩:=q;rw[ABs k (v:=.str x t) rfl];exact AA3 h
  | int x=>obtain⟨t,rfl⟩:=q;rw[ABs k (v:=.int x t) rfl];exact AA3 h
  | tup ds =>
   obtain⟨a,its,rfl,⟨o,ho,hc,nn,hd⟩,p⟩:=q
   obtain⟨k,rfl⟩:∃k',k=k'+1:=⟨k-1,by lia⟩
   have hT:s.TypeIs (.ref a) "tuple":=⟨o,ho,hc⟩
   unfold eqIsQuiet
   refine AA0 (ACC hT F.slot_tuple_eq.lookup ?_)
   refine(show wpAny (model prog w) A (isInstance (.ref a) (.type "tuple") >>= _) _ _ s from AA0 (ACN hT isSubtype_tuple_tuple ?_))
   simp only[AC7,AAF,if_false]
   refine AA0 (ABL ho hd ?_)
   simp only[Option.getD_some]
   refine AA0 ?_
   refine(show wpAny (model prog w) A (forIn its _ _) _ _ s from ?_)
   rw[←ACS]
   refine AC3 _ (λaN r s'=>r.1=none/\s'=s/\∃left,Paired (eG s.heap n) left aN) _ ?_ ?_ _ _ ⟨rfl,rfl,ds,p⟩
   ·rintro x aN r s' ⟨hr,rfl,left,h1⟩
    cases h1 with
    | cons r0 t0 =>
     refine AA0 (ih k _ _ _ x _ _ (by lia) r0 ?_)
     simp only[AC7,AAF,if_false]
     exact AA3 ⟨rfl,rfl,_,t0⟩
   ·rintro⟨r1,r2⟩ s' ⟨hr,rfl,_⟩
    simp only at hr
    subst hr
    exact AA3 h
  | _=>exact q.elim
theorem iO{h:Heap}{n:Nat}{ds:List D}{its:Array Value}(p:Paired (eG h n) ds its.toList):ds.length=its.size:=by
 rw[←AAO]
 generalize its.toList=l at p
 induction p with
 | nil=>rfl
 | cons _ _ ih=>rw[AAA,AAA,ih]
theorem BG:∀(n:Nat) (A:Around) (s:Shared) (x y:D) (u v:Value),A.units+n<cLine->eG s.heap n x u->eG s.heap n y v->ACq A s u v (eqD [] n x y):=by
 intro n
 induction n with
 | zero =>
  intro A s x y u v hu k1 k2
  cases x with
  | str a =>
   obtain⟨t,rfl⟩:=k1
   cases y with
   | str b=>obtain⟨t',rfl⟩:=k2;exact ADZ _ _ _ _
   | int b=>obtain⟨t',rfl⟩:=k2;exact ACv _ _ _ _
   | _=>exact k2.elim
  | int a =>
   obtain⟨t,rfl⟩:=k1
   cases y with
   | str b=>obtain⟨t',rfl⟩:=k2;exact ACu _ _ _ _
   | int b=>obtain⟨t',rfl⟩:=k2;exact ACw _ _ _ _
   | _=>exact k2.elim
  | _=>exact k1.elim
 | succ n ih =>
  intro A s x y u v hu k1 k2
  have hu0:A.units<cLine:=by lia
  have hu1:A.in1.units+n<cLine:=by show A.units+1+n<cLine;lia
  cases x with
  | str a =>
   obtain⟨t,rfl⟩:=k1
   cases y with
   | str b=>obtain⟨t',rfl⟩:=k2;exact ADZ _ _ _ _
   | int b=>obtain⟨t',rfl⟩:=k2;exact ACv _ _ _ _
   | tup b=>obtain⟨_,_,rfl,pl,_⟩:=k2;exact SeqAt.EqAt.str_tuple _ _ pl hu0
   | _=>exact k2.elim
  | int a =>
   obtain⟨t,rfl⟩:=k1
   cases y with
   | str b=>obtain⟨t',rfl⟩:=k2;exact ACu _ _ _ _
   | int b=>obtain⟨t',rfl⟩:=k2;exact ACw _ _ _ _
   | tup b=>obtain⟨_,_,rfl,pl,_⟩:=k2;exact SeqAt.EqAt.int_tuple _ _ pl hu0
   | _=>exact k2.elim
  | tup xs =>
   obtain⟨a,its,rfl,pl,p1⟩:=id k1
   cases y with
   | str b=>obtain⟨t',rfl⟩:=k2;exact SeqAt.EqAt.tuple_str _ _ pl hu0
   | int b=>obtain⟨t',rfl⟩:=k2;exact SeqAt.EqAt.tuple_int _ _ pl hu0
   | tup ys =>
    obtain⟨b,jts,rfl,pl',p2⟩:=id k2
    by_cases hab:a=b
    ·subst hab
     have e:=qN (n+1) _ _ _ k1 k2
     rw[e,(il (M:=[]) (n+1) _ _ (gG _ _ _ k2) (gG _ _ _ k2)).mpr rfl]
     exact AEC _
    ·have ll:=iO p1
     have ll':=iO p2
     have items:∀(j:Nat) (h1:j<its.size) (h2:j<jts.size),ACq A.in1 s its[j] jts[j] (eqD [] n (xs.getD j .non) (ys.getD j .non)):=λj h1 h2=>by
      obtain⟨x0,e1,r1⟩:=fq p1 (i:=j) (y:=its[j]) (by rw[AAV];exact AAS h1)
      obtain⟨y0,e2,r2⟩:=fq p2 (i:=j) (y:=jts[j]) (by rw[AAV];exact AAS h2)
      have z1:xs.getD j .non=x0:=by rw[AAP,e1];rfl
      have z2:ys.getD j .non=y0:=by rw[AAP,e2];rfl
      rw[z1,z2]
      exact ih A.in1 s x0 y0 _ _ hu1 r1 r2
     have key:((AAe (min its.size jts.size)).all (λj=>eqD [] n (xs.getD j .non) (ys.getD j .non))&&its.size==jts.size)=eqL (eqD [] n) xs ys:=by
      by_cases hl:xs.length=ys.length
      ·have rng:(AAe xs.length).all (λj=>eqD [] n (xs.getD j .non) (ys.getD j .non))=eqL (eqD [] n) xs ys:=kZ hl λj x y h1 h2=>by simp[AEQ,h1,h2]
       rw[←ll,←ll',←hl,Nat.min_self,rng]
       simp
      ·rw[zI hl,←ll,←ll']
       simp[hl]
     have h1:=SeqAt.RcAt.tuples pl pl' hu0 items
     rw[key]at h1
     exact SeqAt.EqAt.of_refs hab h1
   | _=>exact k2.elim
  | _=>exact k1.elim
end
noncomputable instance decD:DecidableEq D:=λa b=>Classical.propDecidable (a=b)
noncomputable def bU(prog:Program)(w:World):HeapKind prog w D where
 is:=λh d a=>eG h 8 d (.ref a)
 hash:=hkD w 8
 draws:=drD 8
 room:=λA=>A.units+8<cLine
 inj:=λx y=>qN 8 _ _ _ x y
 keeps:=λx ho hd hs=>tq x ho hd hs
 pyHash:=λhu k h=>wv 8 _ _ _ _ _ _ hu k h
 eqBool:=λ{A E s x y a b Q} hu k1 k2 h=>by
  refine BG 8 A s x y _ _ hu k1 k2 _ _ _ _ ?_
  have e:eqD [] 8 x y=decide (x=y):=by
   rw[ABm,il 8 x y (gG _ _ _ k1) (gG _ _ _ k2),decide_eq_true_eq]
  rw[e]
  exact h
 quiet:=λk h=>tp 8 8 _ _ _ _ _ _ (AAD _) k h
end L2
namespace L2
open PySem PySem.Spec PyProof.Rows DL PySem.W
noncomputable def Gk(kvs:List (D×D))(k:D):Option D:=(kvs.find? λp=>decide (p.1=k)).map (·.2)
noncomputable def sn(kvs:List (D×D))(k d:D):List (D×D):=if (Gk kvs k).isSome then kvs.map (λp=>if p.1=k then(p.1,d)else p)else kvs++[(k,d)]
section
variable{K:AA5}{ρ:List Addr}{H:Hp}{M:Mem}{kvs:List (D×D)}{xs:List (D×Addr×Value)}
theorem Ie(r:Paired (wP K ρ H) kvs xs)(k:D):(Gk kvs k=none/\atKey xs k=none)\/∃d p v,Gk kvs k=some d/\atKey xs k=some p/\Rep K ρ H d v/\aK v p.2:=by
 unfold Gk atKey
 induction r with
 | nil=>exact .inl ⟨rfl,rfl⟩
 | @cons p q ps qs h t ih =>
  obtain⟨h1,_,_,v,h4,h5⟩:=h
  rw[AB7,AB7]
  by_cases e:p.1=k
  ·rw[decide_eq_true e,decide_eq_true (h1.symm.trans e)]
   exact .inr ⟨_,_,v,rfl,rfl,h4,h5⟩
  ·rw[decide_eq_false e,decide_eq_false (λz=>e (h1.trans z))]
   exact ih
theorem CP(r:Paired (wP K ρ H) kvs xs)(kd:cK 8 k=true)(rk:Rep K ρ H k (.ref b))(rd:Rep K ρ H d v)(rv:aK v u):Paired (wP K ρ H) (sn kvs k d) (storedH xs k b u):=by
 unfold sn storedH
 have is:(Gk kvs k).isSome=(atKey xs k).isSome:=by
  rcases Ie r k with⟨e1,e2⟩|⟨_,_,_,e1,e2,_⟩<;>rw[e1,e2]<;>rfl
 rw[is]
 by_cases q:(atKey xs k).isSome=true
 ·rw[if_pos q,if_pos q]
  clear is q
  induction r with
  | nil=>exact .nil
  | @cons p q ps qs h t ih =>
   rw[AAM,AAM]
   refine .cons ?_ ih
   obtain⟨h1,h2,h3,w,h4,h5⟩:=h
   by_cases e:p.1=k
   ·rw[if_pos e,putAt,if_pos (h1.symm.trans e)]
    exact⟨h1,h2,h3,v,rd,rv⟩
   ·rw[if_neg e,putAt,if_neg (λz=>e (h1.trans z))]
    exact⟨h1,h2,h3,w,h4,h5⟩
 ·rw[if_neg q,if_neg q]
  clear is q
  induction r with
  | nil=>exact .cons ⟨rfl,kd,rk,v,rd,rv⟩ .nil
  | cons h t ih=>exact .cons h ih
theorem sZ(r:Paired (wP K ρ H) kvs xs):xs.map (·.1)=kvs.map (·.1):=by
 induction r with
 | nil=>rfl
 | cons h t ih=>rw[AAM,AAM,ih,h.1]
theorem nq:(sn kvs k d).length<=kvs.length+1:=by
 unfold sn
 split
 ·rw[AA6];lia
 ·rw[AA8];exact AAD _
theorem SqT.writtenX{a p:Addr}{xs:List V}{φ:Program->World->Heap->Prop}{o:HO}(hp:H p=some (.ext φ))(h:SqT K H a xs):SqT K (upd H p o) a xs:=by
 rcases h with h | h
 ·rcases h with h | ⟨ob,h⟩
  ·exact .inl (.inl (by rw[av (sJ h hp (by intro z;cases z))];exact h))
  ·exact .inl (.inr ⟨ob,by rw[av (sJ h hp (by intro z;cases z))];exact h⟩)
 ·exact .inr h
theorem Sim.writeT(S:Sim K ρ M H)(e1:ρ[n]?=some a)(hM:M[n]?=some (.dkt kvs))(hH:H a=some (.ext (dX a xs)))(hl:kvs'.length<=sizeLine)(hs:(a==sysModules)=false)(nd:(kvs'.map (·.1)).Nodup)(r:Paired (wP K ρ H) kvs' xs') :
  Sim K ρ (M.set n (.dkt kvs')) (upd H a (.ext (dX a xs')))/\Grow K ρ H ρ (upd H a (.ext (dX a xs'))):=by
 have g:Grow K ρ H ρ (upd H a (.ext (dX a xs'))):=⟨ACb,λ_ _ h=>SqT.writtenX hH h⟩
 have hk:∀m,m≠n->(M.set n (.dkt kvs'))[m]?=M[m]?:=λm hm=>AAt (AAz hm)
 have notK:¬isK M[n]?:=λ⟨_,z⟩=>by rw[hM]at z;cases z
 refine⟨⟨λm m' b hne f1 f2=>?_,by rw[ABO];exact S.len,λm b mo f1 f2=>?_⟩,g⟩
 ·have q:=S.nd m m' b hne f1 f2
  by_cases h1:m=n
  ·subst h1
   rw[hk m' (AAz hne)]
   exact .inr (q.resolve_left notK)
  ·rw[hk m h1]
   by_cases h2:m'=n
   ·subst h2
    exact .inl (q.resolve_right notK)
   ·rw[hk m' h2]
    exact q
 by_cases hm:m=n
 ·subst hm
  have hb:b=a:=AAR (f1.symm.trans e1)
  subst hb
  rw[ABD (by rw[←S.len];exact(AA2.mp e1).1)]at f2
  cases f2
  exact⟨hl,hs,nd,xs',aV,Paired.mapP r λ_ _ ⟨q1,q2,q3,v,q4,q5⟩=>⟨q1,q2,q3.grow g,v,q4.grow g,q5⟩⟩
 ·rw[hk m hm]at f2
  by_cases hb:b=a
  ·subst hb
   have q':=(S.nd m n b hm f1 e1).resolve_right notK
   rw[f2]at q'
   exact(S.obj m b mo f1 f2).grow g (.inr q')
  ·exact(S.obj m b mo f1 f2).grow g (.inl (av hb))
end
section
variable{X:Cx}{pins:List (Addr×Obj)}{σ:St}{H:Hp}{s:Shared}{ρ:List Addr}{M:Mem}
theorem nh(I:Inv X pins σ H s):∀(n:Nat) (d:D) (v:V) (u:Value),Rep X.K ρ H d v->aK v u->cK n d=true->eG s.heap n d u:=by
 intro n
 induction n with
 | zero =>
  intro d v u r rv k
  cases r with
  | str x=>exact rv
  | int x=>exact rv
  | _=>cases k
 | succ n ih =>
  intro d v u r rv k
  cases r with
  | str x=>exact rv
  | int x=>exact rv
  | @tup a vs ds hq rr =>
   cases rv
   obtain⟨its,r2,p,hz⟩:=I.tuple hq
   have hk:∀x∈ds,cK n x=true:=AAK.mp (show ds.all (cK n)=true from k)
   refine⟨a,its.toArray,rfl,p,?_⟩
   rw[List.toList_toArray]
   clear p hq k hz
   induction r2 generalizing ds with
   | nil=>cases rr;exact .nil
   | cons q1 q2 i2 =>
    cases rr with
    | cons h1 t1=>exact .cons (ih _ _ _ h1 q1 (hk _ AAI)) (i2 t1 λx hx=>hk x (AA9 _ hx))
  | _=>cases k
theorem Df(I:Inv X pins σ H s)(sm:Sim X.K ρ M H){n:Nat}{a:Addr}{kvs:List (D×D)}(e:ρ[n]?=some a)(hM:M[n]?=some (.dkt kvs)) :
  ∃xs,H a=some (.ext (dX a xs))/\Paired (wP X.K ρ H) kvs xs/\s.heap.DictOfH (bU X.prog X.w) a xs/\(a==sysModules)=false/\kvs.length<=sizeLine/\xs.length=kvs.length/\(kvs.map (·.1)).Nodup:=by
 obtain⟨h1,h2,h3,xs,hH,r⟩:=sm.obj _ _ _ e hM
 obtain⟨⟨o,es,e1,e2,e3,e4⟩,_⟩:=(show bJ X.prog X.w H s.heap a (.ext (dX a xs))from I.hok a _ hH)
 have ek:=sZ r
 refine⟨xs,hH,r,⟨o,es,_,e1,e2,e3,e4,λx hx=>?_,by rw[ek];exact h3⟩,h2,h1,?_,h3⟩
 ·obtain⟨i,hi⟩:=AAv hx
  obtain⟨p,_,q1,q2,q3,_⟩:=fq r hi
  rw[←q1]
  exact nh I 8 _ _ _ q3 rfl q2
 ·have:=congrArg AD0 ek
  rwa [AA6,AA6]at this
theorem zG(d:dX a xs P w h'):bJ P w H' h' a (.ext (dX a xs)):=by
 obtain⟨o,es,e1,e2,e3,e4⟩:=d
 exact⟨⟨o,es,e1,e2,e3,e4⟩,⟨o,e1⟩,λh1 h2 ⟨o,es,e1,e2,e3,e4⟩ k=>⟨o,es,k _ e1,e2,e3,e4⟩⟩
theorem Dg(I:Inv X pins σ H s)(hH:H a=some (.ext (dX a xs))):dX a xs X.prog X.w s.heap :=
 (show bJ X.prog X.w H s.heap a (.ext (dX a xs))from I.hok a _ hH).1
end
theorem setE(hu:(bU prog w).room A.in1)(kat:(bU prog w).is s.heap k b)
  (hm:s.heap.DictOfH (bU prog w) d xs) (hx:dX d xs prog w s.heap) (hz:xs.length<=sizeLine)
  (hQ:∀h',dX d (storedH xs k b v) prog w h'->ABM d s.heap h'->Q () { s with heap:=h',toks:=s.toks+(bU prog w).draws k }):wpAny (model prog w) A (setItem (.ref d) (.ref b) v) Q E s:=by
 have hT:=hm.typeIs
 obtain⟨_,_,_,_,_,_,_,his,hn⟩:=hm
 obtain⟨o,es,ho,hc,hd,he'⟩:=hx
 have he:es.toList=xs.map (entryOfKey (bU prog w)):=he'
 unfold setItem
 try with_reducible refine AAp ?_
 refine AA0 (wpAny_sequenceKey hT (by decide) (AA0 (AAm (name:=AA1 "__setitem__") hT slot_dict_setitem (AAn slot_dict_setitem hT entry_dict_setitem ?_ (args_dict_setitem _ _ _)))))
 refine(show wpAny (model prog w) _ (Builtin.Dict.notOrdered "__setitem__" ⟨[.ref d,.ref b,v],[]⟩ >>= _) _ _ s from AA0 (AE1 hT ?_))
 refine(show wpAny (model prog w) _ (dictSet d (.ref b) v >>= _) _ _ s from AA0 ?_)
 unfold dictSet
 try with_reducible refine AAp ?_
 refine AA0 ((bU prog w).pyHash hu kat ?_)
 unfold dictSetHashed
 try with_reducible refine AAp ?_
 have hl:es.size=xs.length:=size_of_entries he
 refine AA0 (wpAny_dictFind_heap (s:={ s with toks:=s.toks+(bU prog w).draws k }) hu kat ho hd he his hn (λhno=>?_) λj p hj=>?_)
 ·refine AA0 (ACK (wpAny_updateDictKeys (hz:=by lia) (s:={ s with toks:=s.toks+(bU prog w).draws k }) ho hd (AA3 ⟨.none,rfl,AA3 (hQ _ ⟨_,es.push ⟨(bU prog w).hash k,.ref b,v⟩,AAZ _ ho (ADO (ADC hd _)),hc.mapDictKeys _,?_,?_⟩ (AB2 ..))⟩)))
  ·rw[ADC hd,storedH_new (ADt hno),AA8];rfl
  ·rw[storedH_new (ADt hno)]
   rw[ADq,he,ABQ]
   rfl
 ·refine AA0 (ACK (AA0 (wpAny_updateDict (s:={ s with toks:=s.toks+(bU prog w).draws k }) ho hd (wpAny_point (AA3 ⟨.none,rfl,AA3 (hQ _ ⟨_,es.modify j λe=>{ e with val:=v },AAZ _ ho (ADO (AE4 hd _)),hc.mapDict _,?_,?_⟩ (AB2 ..))⟩)))))
  ·rw[AE4 hd,storedH_old (atKey_of_get hn hj),AA6]
  ·rw[storedH_old (atKey_of_get hn hj)]
   have q:=modify_map_putAt (entryOfKey (bU prog w)) (λe:DictEntry=>{ e with val:=v }) k v (λ_ _=>rfl) hn hj
   rw[←he]at q
   obtain⟨l⟩:=es
   have q2:(Array.modify ⟨l⟩ j λe:DictEntry=>{ e with val:=v }).toList=(xs.map (putAt k v)).map (entryOfKey (bU prog w)):=by simpa using q
   exact q2
section
variable{X:Cx}{o i value:Expr}{td ty tv:DTE}{pos pos':Pos}{k:Nat}
def Ck(td ty tv:DTE):DTS:=λE S M=>tv S M λv M1=>td S M1 λx M2=>ty S M2 λy M3=>match x,y with
 | .ref n,.tup ks=>∃kvs,M3[n]?=some (.dkt kvs)/\cK 8 (.tup ks)=true/\kvs.length<sizeLine/\E.nx S (M3.set n (.dkt (sn kvs (.tup ks) v)))
 | _,_=>False
theorem np(h:(kvs.map (·.1)).Nodup):((sn kvs y v).map (·.1)).Nodup:=by
 unfold sn
 split
 ·rw[AAi]
  have:((λx:D×D=>x.1) ∘ λp:D×D=>if p.1=y then(p.1,v)else p)=λx=>x.1:=by
   funext p
   show (if p.1=y then(p.1,v)else p).1=p.1
   split<;>rfl
  rw[this];exact h
 ·rename_i q
  rw[ABQ,List.map_singleton,List.nodup_append]
  refine⟨h,by simp,λa ha b hb=>?_⟩
  rw[AAY.mp hb]
  rintro rfl
  obtain⟨p,hp,e⟩:=AAN.mp ha
  refine q ?_
  unfold Gk
  rw[Option.isSome_map,List.find?_isSome]
  exact⟨p,hp,by simpa using e⟩
theorem FA(hr:Room k X.A)(ho:DE X o td)(hi:DE X i ty)(hv:DE X value tv)(hs:swapsWith value (some (.Subscript o i pos')) pos.line X.env=pure false):DS X (.Assign [.Subscript o i pos'] value pos) (Ck td ty tv):=by
 intro pins s σ H E I ⟨S,M,ρ,F,sm,sr,q,kk⟩
 have un:=hr.un
 refine wpAny_Assign_Subscript (thn (hv pins s σ H _ I ⟨S,M,ρ,_,sm,sr,q,λv H' z=>z⟩) λr s1 ⟨v,H1,I1,rv,dv,M1,ρ1,sm1,g1,r1,q1⟩=>thn (ho pins s1 σ H1 _ I1 ⟨S,M1,ρ1,_,sm1,sr.grow g1,q1,λv H' z=>z⟩) λu s2 ⟨vx,H2,I2,rx,x,M2,ρ2,sm2,g2,r2,q2⟩=>thn (hi pins s2 σ H2 _ I2 ⟨S,M2,ρ2,_,sm2,(sr.grow g1).grow g2,q2,λv H' z=>z⟩) λiv s3 ⟨vy,H3,I3,ry,y,M3,ρ3,sm3,g3,r3,q3⟩=>?_) hs
 cases x with
 | ref n =>
  cases y with
  | tup ks =>
   obtain⟨kvs,hM,kd,hl,q4⟩:=q3
   obtain⟨a,rfl,hn⟩:=Rep.inv_ref r2
   obtain rfl:u=AB3 a:=rx
   have hn3:=aY g3.pre hn
   obtain⟨xs,hH,r,dd,hsm,_,hx,nd⟩:=Df I3 sm3 hn3 hM
   have kat:=nh I3 8 _ _ _ r3 ry kd
   obtain⟨b,_,rfl,_⟩:=id kat
   obtain⟨_,_,rfl,hq,rr⟩:=Rep.inv_tup r3
   cases ry
   have r':=CP r kd (.tup hq rr) ((r1.grow g2).grow g3) rv
   have pl:=nq (kvs:=kvs) (k:=.tup ks) (d:=dv)
   obtain⟨w1,w2⟩:=sm3.writeT hn3 hM hH (by have:=pl;lia) hsm (np nd) r'
   refine setE (k:=.tup ks) (by show X.A.units+1+8<cLine;lia) kat dd (Dg I3 hH) (by lia) λh' dd' hsb=>?_
   have he:∃q,h'.get? a=some q:=let ⟨q,_,hq,_⟩:=dd';⟨q,hq⟩
   exact⟨σ,_,og I3 (by rw[hH];exact AD5) hsb he (zG dd'),kk.nx σ _ (SQ.trans ((g1.trans g2).trans g3) ⟨S,_,ρ3,w1,w2,(((sr.grow g1).grow g2).grow g3).grow w2,q4⟩)⟩
  | _=>exact q3.elim
 | _=>exact q3.elim
variable{name:Str}{id:String}{e:Expr}{es:List Expr}{to:DTE}{t:DTA}{apos cpos:Pos}
end
end L2
namespace L2
open PySem PySem.Spec PyProof.Rows DL PySem.W
def fe(h:Heap)(d:Addr)(es:Array DictEntry)(ep:Nat):Prop:=∃o,h.get? d=some o/\o.ExactDict/\o.data=.dict es ep
theorem fe.ty{s:Shared}{d:Addr}{es:Array DictEntry}{ep:Nat}(x:fe s.heap d es ep):s.TypeIs (.ref d) "dict":=by
 obtain⟨o,h1,h2,_⟩:=x
 exact⟨o,h1,h2.1⟩
theorem fe.lt(x:fe h d es ep):d<h.objs.size:=by
 obtain⟨o,h1,_⟩:=x
 exact AAG h1
theorem fe.to(x:fe h d es ep)(k:∀o,h.get? d=some o->h'.get? d=some o):fe h' d es ep:=by
 obtain⟨o,h1,h2⟩:=x
 exact⟨o,k o h1,h2⟩
section
variable{prog:Program}{w:World}{A:Around}{E:Value->Shared->Prop}{s:Shared}{d:Addr}{es:Array DictEntry}{ep:Nat}
end
end L2
namespace L2
open PySem PySem.Spec PyProof.Rows DL PySem.W
section
variable{X:Cx}{pins:List (Addr×Obj)}{σ:St}{H:Hp}{s:Shared}
theorem Jj(I:Inv X pins σ H s)(hH:H a=some (.ext (dX a xs))):∃es,fe s.heap a es xs.length/\es.size=xs.length/\∀(i:Nat) x,xs[i]?=some x->∃e,es[i]?=some e/\e.key=.ref x.2.1/\e.val=x.2.2:=by
 obtain⟨o,es,h1,h2,h3,h4⟩:=Dg I hH
 refine⟨es,⟨o,h1,h2,h3⟩,?_,λi x hx=>?_⟩
 ·have:=congrArg AD0 h4
  rwa [AAO,AA6]at this
 ·refine⟨⟨hkD X.w 8 x.1,.ref x.2.1,x.2.2⟩,?_,rfl,rfl⟩
  rw[←AAV,h4,AAU,hx]
  rfl
end
section
variable{X:Cx}{tg:Expr}
end
end L2
namespace L2
open PySem PySem.Spec PyProof.Rows DL PySem.W
section
variable{prog:Program}{w:World}{A:Around}{E:Value->Shared->Prop}{s:Shared}{d:Addr}{es:Array DictEntry}{ep:Nat}
end
section
variable{X:Cx}{tg o:Expr}{to:DTE}{apos cpos:Pos}
end
end L2
namespace L2
open PySem PySem.Spec PyProof.Rows DL PySem.W
section
variable{prog:Program}{w:World}{d r:Addr}{es:Array DictEntry}{ep:Nat}
end
section
variable{X:Cx}{o:Expr}{to:DTE}{apos cpos p pos:Pos}{k:Nat}
end
section
variable{X:Cx}{o i e:Expr}{to ti te:DTE}{pos pos' p apos cpos:Pos}{k:Nat}{tg:Expr}{es:List Expr}{t:DTA}{st:Stmt}
theorem zb(hr:Room k X.A)(ho:HE X o to)(hi:HE X i ti)(hv:HE X e te)(hs:swapsWith e (some (.Subscript o i pos')) pos.line X.env=pure false:=by kernel_rfl):HS X (.Assign [.Subscript o i pos'] e pos) (Ck to ti te):=⟨FA hr ho.ok hi.ok hv.ok hs⟩
end
end L2
namespace L2
open PySem PySem.Spec PyProof.Rows DL PySem.W
theorem uS{K:AA5}{ρ:List Addr}{H:Hp}:∀{ns:List Int}{ws:List V}{its:List Value},Reps K ρ H (ns.map D.int) ws->ax ws its->IntsAre its ns
 | [],_,_,r,v=>by cases r;cases v;exact .nil
 | n::ns,_,_,r,v=>by
  rw[AAM]at r
  first | have hzz:=Reps.inv_cons r | have hzz:=ax.inv_cons r
  clear r
  obtain⟨_,_,rfl,h,t⟩:=hzz
  cases h
  cases v with
  | cons q q' =>
   obtain⟨tk,rfl⟩:=q
   exact .cons _ _ (uS t q')
theorem Ff(h:IntsAre vs ns):∀(m:Nat) (v:Value),vs[m]?=some v->∃i t,v=.int i t/\ns[m]?=some i:=by
 induction h with
 | nil=>intro m v e;simp at e
 | cons n t _ ih =>
  intro m v e
  cases m with
  | zero=>simp at e;subst e;exact⟨n,t,rfl,rfl⟩
  | succ m=>exact ih m v (by simpa using e)
theorem BK(h:IntsAre vs ns):vs.length=ns.length:=by
 induction h with
 | nil=>rfl
 | cons n t _ ih=>rw[AAA,AAA,ih]
section
variable{X:Cx}{k:Nat}
def jZ(n:Nat):DRA:=λds M Q=>match ds with
 | [.int v]=>∃(ns:List Int) (j:Nat),al M n (ns.map D.int)/\ns.length<=1000/\ns[j]?=some v/\(∀m,m<j->ns[m]?≠some v)/\Q (.int j) M
 | _=>False
def isNum(v:Int):Value->Bool
 | .int i _=>i==v
 | _=>false
theorem yG:MtR X "list.index" (yL X.K jZ):=by
 intro pins s σ H x xs v us R I rx rs ⟨n,a,ds,M,ρ,Q,ez,hn,sm,rr,q,kk⟩
 unfold jZ at q
 split at q
 ·rename_i num
  obtain⟨ns,j,hL,hl,hj,hno,q⟩:=q
  first | have hzz:=Reps.inv_cons rr | have hzz:=ax.inv_cons rr
  clear rr
  obtain⟨_,_,rfl,r1,rr⟩:=hzz
  cases rr
  obtain⟨u,rfl,e1⟩:=ax.one rs
  cases r1
  obtain⟨tk,rfl⟩:=e1
  subst ez
  cases rx
  obtain⟨ws,hq,r⟩:=al.seq sm hL hn
  obtain⟨its,rv,pl,hz⟩:=I.list hq
  have ia:=uS r rv
  have len:=BK ia
  have at_:∀(m:Nat) (hm:m<its.toArray.size),∃i t,its.toArray[m]=.int i t/\ns[m]?=some i:=λm hm =>
   Ff ia m _ (by rw[AAB]at hm;rw[AA7 hm];rfl)
  obtain⟨⟨oc,od,odt,os⟩,nn,hoa,hca,hdict,hdata⟩:=id pl
  obtain rfl:oc=.type "list":=hca
  obtain rfl:odt=.seq its.toArray nn:=hdata
  have hjl:j<its.toArray.size:=by
   have:=(AA2.mp hj).1
   rw[AAB];lia
  refine call_meetsIn PySem.F.slot_list_index pl.isList.typeIs PySem.F.entry_list_index (PySem.F.args_list_index_2 _ _) ((SeqAt.list_indexAt a its.toArray nn od os (.int num tk) (isNum num) j hjl (by rw[AAB]at hjl;lia) ?_ λm hm hlt=>?_).inModel X.prog X.w) ⟨hoa,λy hy=>?_,?_⟩
  ·obtain⟨i,t,e1,e2⟩:=at_ j hjl
   rw[hj]at e2
   obtain rfl:=AAR e2
   rw[e1]
   exact beq_self_eq_true _
  ·obtain⟨i,t,e1,e2⟩:=at_ m hm
   rw[e1]
   refine ABr.mpr λz=>hno m hlt ?_
   rw[e2,eq_of_beq (show (i==num)=true from z)]
  ·obtain⟨m,hm,rfl⟩:=Array.getElem_of_mem hy
   obtain⟨i,t,e1,e2⟩:=at_ m hm
   rw[e1]
   exact ACw _ _ _ _
  ·exact⟨.int j,H,I.tok _,⟨_,rfl⟩,kk _ _ ⟨.int j,M,ρ,sm,.refl,.int _,q⟩⟩
 ·exact q.elim
theorem zr:HMl X "index" jZ:=⟨_,PySem.F.slot_list_index,PySem.F.type_list_index,yG⟩
end
end L2
namespace L2
open PySem PySem.Spec PyProof.Rows DL PySem.W PySem.Calls PyProof.V
def gW(h:Heap)(it d:Addr)(i n ep:Nat)(x0 x1 ok ov:Value):Prop :=
 h.get? it=some { cls:=.type "dict_itemiterator",dict:=none,data:=.fields #[x0,x1,.ref d,.int i 0,.int n 0,.int ep 0,ok,ov],slots:=#[] }
def iS(h:Heap)(it d S:Addr)(i n ep:Nat):Prop:=∃x0 x1 ok ov,gW h it d i n ep x0 x1 ok ov/\((x0=.none/\x1=.bool false)\/∃(a:Addr) (f:Bool) (oa:Obj),x0=rawInt a/\x1=.bool f/\h.get? a=some oa/\a≠it/\a≠S)
theorem iS.to(x:iS h it d S i n ep)(hk:∀b o,b≠S->h.get? b=some o->h'.get? b=some o)(hI:it≠S):iS h' it d S i n ep:=by
 obtain⟨x0,x1,ok,ov,p,q⟩:=x
 refine⟨x0,x1,ok,ov,hk _ _ hI p,q.imp id ?_⟩
 rintro⟨a,f,oa,e0,e1,ha,hai,haS⟩
 exact⟨a,f,oa,e0,e1,hk _ _ haS ha,hai,haS⟩
section
variable{prog:Program}{w:World}{A:Around}{E:Value->Shared->Prop}{s:Shared}{d:Addr}{es:Array DictEntry}{ep:Nat}
theorem zK(hd:(d==sysModules)=false)(hm:fe s.heap d es ep)(hQ:Q (.ref s.heap.objs.size) { s with heap:=s.heap.push { cls:=.type "dict_items",data:=.fields #[.ref d] } }) :
  wpAny (model prog w) A (call (.builtin "dict.items") [.ref d]) Q E s:=by
 refine call_meetsIn PySem.F.slot_dict_items hm.ty PySem.F.entry_dict_items (PySem.F.args_dict_items_1 _) (S:=λ_ R s'=>s'=s/\R (.ok (.ret (.ref s.heap.objs.size))) { s with heap:=s.heap.push { cls:=.type "dict_items",data:=.fields #[.ref d] } }) (.of_wp ?_) ⟨rfl,hQ⟩
 rintro A R s' ⟨rfl,h⟩
 unfold Builtin.«dict.items»
 refine AA0 ?_
 unfold Builtin.Dict.noArgs
 refine AA0 (AE1 hm.ty (AA3 ?_))
 refine(show wpAny (model prog w) _ (Builtin.Dict.showsAll d >>= _) _ _ s' from ?_)
 unfold Builtin.Dict.showsAll
 rw[hd]
 exact AA0 (AA3 (AA0 (AAj (AA3 ⟨_,rfl,h⟩))))
theorem zM(hv:s.heap.IsItemsView v d)(hm:fe s.heap d es ep)
  (hQ:Q (.ref s.heap.objs.size) { s with heap:=s.heap.push { cls:=.type "dict_itemiterator",data:=.fields #[.none,.bool false,.ref d,.int 0 0,.int es.size 0,.int ep 0,.none,.none] } }):wpAny (model prog w) A (pyIter (.ref v)) Q E s:=by
 obtain⟨ov,v1,v2,v3⟩:=id hv
 obtain⟨o,h1,h2,h3⟩:=hm
 refine wpAny_pyIter_slot hv.typeIs F.slot_dict_items_iter (AAn F.slot_dict_items_iter hv.typeIs F.entry_dict_items_iter ?_ (F.args_dict_items_iter_1 _))
 unfold Builtin.«dict_items.__iter__»
 refine AA0 (AA3 (AA0 ?_))
 unfold Builtin.Dict_items.dictOf
 refine AA0 (ABG v1 v3 (x:=.ref d) rfl (AA3 (AA0 ?_)))
 unfold Builtin.Dict_items.newIterator
 refine AA0 (wpAny_dictEntries h1 h3 (AA0 (wpAny_dictEpoch h1 h3 ?_)))
 simp only[show ACy "dict_itemiterator" = true by decide,if_true]
 exact AAj (AA3 ⟨_,rfl,"dict_itemiterator",_,⟨_,AAE _ rfl,rfl⟩,F.slot_dict_itemiterator_next.lookup,by simpa [rawInt,ADP]using hQ⟩)
  (by simp only[sizeOk,ADP,AAB,AA8,AAA,AAW,ABl];lia)
theorem zL(hst:iS s.heap it d S i es.size ep)(hS:S<s.heap.objs.size)(hm:fe s.heap d es ep)(hi:i<es.size)
  (hQ:∀h',iS h' it d S (i+1) es.size ep->h'.get? s.heap.objs.size=some { cls:=.type "tuple",data:=.seq #[es[i].key,es[i].val] }->h'.objs.size=s.heap.objs.size+1 ->
   (∀b o,b≠it->s.heap.get? b=some o->h'.get? b=some o)->Q (some (.ref s.heap.objs.size)) { s with heap:=h' }):wpAny (model prog w) A (pyNext (.ref it)) Q E s:=by
 obtain⟨hp,g,dr,tk,os⟩:=s
 obtain⟨x0,x1,ok,ov,hit,own⟩:=hst
 obtain⟨od,k1,k2,k3⟩:=id hm
 have hT:AD8 ⟨hp,g,dr,tk,os⟩ (.ref it) "dict_itemiterator":=⟨_,hit,rfl⟩
 unfold pyNext
 refine AA0 (ACl (AAm (name:=AA1 "__next__") hT ABg (AAn ABg hT ADL ?_ (ADD _))))
 refine AA0 (AA3 (AA0 (AA0 ?_)))
 first | refine AA0 (AC0 hT (AA3 (AA0 (ACV hit rfl ?_)))) | refine AA0 (ACX hT (AA3 (AA0 (ACV hit rfl ?_))))
 simp only[show ACy "dict_itemiterator" = true by decide,if_true]
 refine(show wpAny (model prog w) _ (if (AB3 d==ABb)=true then _ else _) _ _ _ from ?_)
 rw[if_neg (by exact AAb)]
 refine AA0 (AA3 (AA0 (wpAny_dictEntries k1 k3 ?_)))
 rw[if_neg (by simp)]
 refine AA0 (AA3 (AA0 (wpAny_dictEpoch k1 k3 ?_)))
 rw[if_neg (by simp)]
 refine AA3 ?_
 simp only[show ¬((i:Int)<0)from by lia,if_false,ABq,AAS hi]
 refine AA0 ?_
 first | refine AA0 (AC0 hT (AA3 ?_)) | refine AA0 (ACX hT (AA3 ?_))
 refine AA0 (ADj hT ?_)
 refine(show wpAny (model prog w) _ (setField (.ref it) 3 (rawInt ((i:Int)+1)) >>= _) _ _ ⟨hp,g,dr,tk,os⟩from AA0 (ABA hit (by simp) λha he hs=>?_))
 have hsA:ABM it hp ha:=hs
 have heA:gW ha it d (i+1) es.size ep x0 x1 ok ov:=by
  unfold gW
  rw[show ((i+1:Nat):Int)=(i:Int)+1 by lia]
  simpa [rawInt]using he
 have hTA:AD8 ⟨ha,g,dr,tk,os⟩ (.ref it) "dict_itemiterator":=⟨_,heA,rfl⟩
 refine AA0 (AAp (AA0 (ADj hTA (AA0 (ADj hTA ?_)))))
 refine(show wpAny (model prog w) _ (ADg (.ref it) 6 es[i].key es[i].val) _ _ ⟨ha,g,dr,tk,os⟩from ?_)
 unfold ADg
 refine AA0 (wpAny_newTuple ?_)
 have heB:gW (ha.push { cls:=.type "tuple",data:=.seq #[es[i].key,es[i].val] }) it d (i+1) es.size ep x0 x1 ok ov:=AA4 _ heA
 generalize eB:ha.push { cls:=.type "tuple",data:=.seq #[es[i].key,es[i].val] }=hB at heB
 have zA:ha.objs.size=hp.objs.size:=hsA.1
 have hil:it<hp.objs.size:=AAG hit
 have tB:hB.get? hp.objs.size=some { cls:=.type "tuple",data:=.seq #[es[i].key,es[i].val] }:=by rw[←eB,←zA];exact AAE _ rfl
 have zB:hB.objs.size=hp.objs.size+1:=by rw[←eB,AB1,zA]
 have kB:∀b o,b≠it->hp.get? b=some o->hB.get? b=some o:=λb o hb e=>by rw[←eB];exact AA4 _ (hsA.extBut b o hb e)
 refine(show wpAny (model prog w) _ (ADQ (.ref it) >>= _) _ _ ⟨hB,g,dr,tk,os⟩from ?_)
 rw[zA]
 have fin:∀hC:Heap,iS hC it d S (i+1) es.size ep->ABM it hB hC->Q (some (.ref hp.objs.size)) ⟨hC,g,dr,tk,os⟩:=λhC st sb =>
  hQ hC st (sb.extBut _ _ (ABU hil) tB) (by show hC.objs.size=hp.objs.size+1;rw[sb.1,zB]) λb o hb e=>sb.extBut b o hb (kB b o hb e)
 refine AA0 ?_
 unfold ADQ
 rcases own with⟨rfl,rfl⟩|⟨a,f,oa,rfl,rfl,ga,hai,haS⟩
 ·refine AA0 (ABG heB rfl (x:=.none) rfl (AA3 ?_))
  simp only[if_true]
  refine AA0 (ABG heB rfl (x:=ok) rfl (AA0 (ABG heB rfl (x:=ov) rfl ?_)))
  refine AA0 (ABA heB (by simp) λh3 e3 s3=>?_)
  refine AA0 (ABA (show gW h3 it d (i+1) es.size ep .none (.bool false) es[i].key ov from e3) (by simp) λh4 e4 s4=>?_)
  refine AA0 (ABA (show gW h4 it d (i+1) es.size ep .none (.bool false) es[i].key es[i].val from e4) (by simp) λh5 e5 s5=>?_)
  refine AA0 (ABA (show gW h5 it d (i+1) es.size ep (rawInt hp.objs.size) (.bool false) es[i].key es[i].val from e5) (by simp) λh6 e6 s6=>?_)
  have p6:gW h6 it d (i+1) es.size ep (rawInt hp.objs.size) (.bool false) es[i].key es[i].val:=e6
  have sb:ABM it hB h6:=by
   have s3':ABM it hB h3:=s3
   have s4':ABM it h3 h4:=s4
   have s5':ABM it h4 h5:=s5
   have s6':ABM it h5 h6:=s6
   exact⟨by rw[s6'.1,s5'.1,s4'.1,s3'.1],λb hb=>by rw[s6'.2 b hb,s5'.2 b hb,s4'.2 b hb,s3'.2 b hb]⟩
  exact AA0 (wpAny_letGo (AA3 (AA3 ⟨_,rfl,AA3 (fin h6 ⟨_,_,_,_,p6,.inr ⟨_,false,_,rfl,rfl,sb.extBut _ _ (ABU hil) tB,ABU hil,ABU hS⟩⟩ sb)⟩)))
 ·have gB:hB.get? a=some oa:=kB a oa hai ga
  refine AA0 (ABG heB rfl (x:=rawInt a) rfl ?_)
  refine(show wpAny (model prog w) _ (loadIfAlive ((a:Int).toNat) >>= _) _ _ _ from ?_)
  rw[ABq]
  refine AA0 (kdx_alive gB ?_)
  simp only[Option.isNone_some,AAF,if_false]
  refine AA0 (ABG heB rfl (x:=.bool f) rfl ?_)
  cases f with
  | true =>
   rw[if_neg (show ¬((AD3 true != AD3 true)=true)from AAb)]
   refine AA3 ?_
   simp only[AAF,if_false]
   exact AA3 (AA3 ⟨_,rfl,AA3 (fin hB ⟨_,_,_,_,heB,.inr ⟨a,true,oa,rfl,rfl,gB,hai,haS⟩⟩ (Heap.SameBut.refl _ _))⟩)
  | false =>
   rw[if_pos (show (AD3 false != AD3 true)=true from rfl)]
   refine AA0 (ABA heB (by simp) λh3 e3 s3=>?_)
   have p3:gW h3 it d (i+1) es.size ep (rawInt a) (.bool true) ok ov:=e3
   have s3':ABM it hB h3:=s3
   refine AA3 ?_
   simp only[AAF,if_false]
   exact AA3 (AA3 ⟨_,rfl,AA3 (fin h3 ⟨_,_,_,_,p3,.inr ⟨a,true,oa,rfl,rfl,s3'.extBut a oa hai gB,hai,haS⟩⟩ s3')⟩)
theorem Cb(hh:A.handled=none)(hst:iS s.heap it d S es.size es.size ep)(hm:fe s.heap d es ep)
  (hQ:∀h',Heap.ExtBut it s.heap h'->Q none { s with heap:=h' }):wpAny (model prog w) A (pyNext (.ref it)) Q E s:=by
 obtain⟨x0,x1,ok,ov,hit,own⟩:=hst
 obtain⟨od,k1,k2,k3⟩:=id hm
 have hT:s.TypeIs (.ref it) "dict_itemiterator":=⟨_,hit,rfl⟩
 unfold pyNext
 refine AA0 (ACl (AAm (name:=AA1 "__next__") hT ABg (AAn ABg hT ADL ?_ (ADD _))))
 refine AA0 (AA3 (AA0 (AA0 ?_)))
 first | refine AA0 (AC0 hT (AA3 (AA0 (ACV hit rfl ?_)))) | refine AA0 (ACX hT (AA3 (AA0 (ACV hit rfl ?_))))
 simp only[show ACy "dict_itemiterator" = true by decide,if_true]
 refine(show wpAny (model prog w) _ (if (AB3 d==ABb)=true then _ else _) _ _ s from ?_)
 rw[if_neg (by exact AAb)]
 refine AA0 (AA3 (AA0 (wpAny_dictEntries k1 k3 ?_)))
 rw[if_neg (by simp)]
 refine AA0 (AA3 (AA0 (wpAny_dictEpoch k1 k3 ?_)))
 rw[if_neg (by simp)]
 refine AA3 ?_
 simp only[show ¬((es.size:Int)<0)from by lia,if_false,ABq,ACH (AAD es.size)]
 refine AA0 ?_
 first | refine AA0 (AC0 hT (AA3 ?_)) | refine AA0 (ACX hT (AA3 ?_))
 refine(show wpAny (model prog w) _ (setField (.ref it) 2 .none >>= _) _ _ s from AA0 (AC8 hit rfl (by simp) ?_))
 refine(show wpAny (model prog w) _ (newExc (.type "StopIteration") [] >>= _) _ _ _ from AA0 ?_)
 simp only[newExc,newTuple]
 refine AA0 (AAj ?_ (by size_fits))
 refine AA0 (m:=firstArgMember _ _) (wpAny_of_eq (a:=ABb) (by first | rfl | (simp only[firstArgMember];rfl)) ?_)
 refine AAj ?_ (by size_fits)
 simp only[raiseNew]
 refine AA0 (wpAny_handled ?_)
 rw[show A.in1.handled=none from hh]
 refine AA0 (AA3 (wpAny_throw ?_))
 refine AA0 (ACN (b:=true) (T:="StopIteration") ⟨_,AAE _ rfl,rfl⟩ isSubtype_stop ?_)
 exact AA3 (hQ _ (((AB2 ..).extBut.push _).push _))
end
structure PairsAt(es:Array DictEntry)(lo:Addr)(h:Heap)(as:List Addr):Prop where
 nd:as.Nodup
 above:∀a∈as,lo<a
 tup:∀(j:Nat) (a:Addr),as[j]?=some a->∃e,es[j]?=some e/\h.get? a=some { cls:=.type "tuple",data:=.seq #[e.key,e.val] }
theorem PairsAt.lt{es:Array DictEntry}{lo:Addr}{h:Heap}{as:List Addr}(g:PairsAt es lo h as){a:Addr}(m:a∈as):a<h.objs.size:=by
 obtain⟨j,hj⟩:=AAv m
 obtain⟨_,_,e⟩:=g.tup j a hj
 exact AAG e
theorem PairsAt.to{es:Array DictEntry}{lo:Addr}{h h':Heap}{as:List Addr}(g:PairsAt es lo h as)(k:∀b o,lo<b->h.get? b=some o->h'.get? b=some o):PairsAt es lo h' as :=
 ⟨g.nd,g.above,λj a hj=>by
  obtain⟨e,e1,e2⟩:=g.tup j a hj
  exact⟨e,e1,k a _ (g.above a (AAu hj)) e2⟩⟩
theorem PairsAt.snoc{es:Array DictEntry}{lo:Addr}{h:Heap}{as:List Addr}{a:Addr}{e:DictEntry}(g:PairsAt es lo h as)(fresh:a∉as)(la:lo<a)(he:es[as.length]?=some e)(ha:h.get? a=some { cls:=.type "tuple",data:=.seq #[e.key,e.val] }):PairsAt es lo h (as++[a]):=by
 refine⟨?_,?_,λj b hj=>?_⟩
 ·rw[List.nodup_append]
  refine⟨g.nd,by simp,λx hx y hy=>?_⟩
  rw[AAY.mp hy]
  rintro rfl
  exact fresh hx
 ·intro x hx
  rcases AAl.mp hx with hx | hx
  ·exact g.above x hx
  ·rw[AAY.mp hx];exact la
 ·rcases ACd j as.length with h1 | h1 | h1
  ·rw[AAJ h1]at hj
   exact g.tup j b hj
  ·subst h1
   have:a=b:=by simpa using hj
   subst this
   exact⟨e,he,ha⟩
  ·rw[ABW (by simp;lia)]at hj
   cases hj
section
variable{prog:Program}{w:World}{A:Around}{E:Value->Shared->Prop}{s:Shared}{d:Addr}{es:Array DictEntry}{ep:Nat}
theorem wx{R:Result->Shared->Prop}{S I:Addr}(hh:A.handled=none)(hSI:S<I)(hSd:d≠S)(hId:d≠I)(hn:es.size<=sizeLine)(res:Value){h0:Heap}
  (hR:∀h' tk acc c as,(∀b o,b≠S->b≠I->h0.get? b=some o->h'.get? b=some o)->h'.get? S=some { cls:=.type "list",data:=.seq acc c }->as.length=es.size->PairsAt es I h' as->acc.toList=as.map AB3->R (.ok (.ret res)) { s with heap:=h',toks:=tk }) :
  ∀(k i:Nat) (h:Heap) (tk c:Nat) (acc:Array Value) (as:List Addr),es.size-i=k->i<=es.size->iS h I d S i es.size ep->fe h d es ep->(∀b o,b≠S->b≠I->h0.get? b=some o->h.get? b=some o) ->
   h.get? S=some { cls:=.type "list",data:=.seq acc c }->acc.toList=as.map AB3->as.length=i->PairsAt es I h as->I<h.objs.size ->
   codeAny (model prog w) A (.builtin "list.extend.loop" ⟨[.ref S,.ref I,res],[]⟩) R { s with heap:=h,toks:=tk }:=by
 have hne:S≠I:=AAQ hSI
 intro k
 induction k with
 | zero =>
  intro i h tk c acc as hk hi hst hD keep hS hacc hal hG hIs
  obtain rfl:i=es.size:=by lia
  refine ABX PySem.F.entry_extend_loop ?_
  rw[AB9 ABw _]
  refine(show wpAny (model prog w) A.in1 (pyNext (.ref I) >>= _) _ _ _ from ?_)
  refine AA0 (Cb (s:={ s with heap:=h,toks:=tk }) (A:=A.in1) hh hst hD λh' he=>?_)
  exact AA3 (hR h' tk acc c as (λb o h1 h2 e=>he b o h2 (keep b o h1 h2 e)) (he S _ hne hS) hal (hG.to λb o hb e=>he b o (ABU hb) e) hacc)
 | succ k ih =>
  intro i h tk c acc as hk hi hst hD keep hS hacc hal hG hIs
  have hlt:i<es.size:=by lia
  have hsz:acc.size=i:=by rw[←AAO,hacc,AA6,hal]
  refine ABX PySem.F.entry_extend_loop ?_
  rw[AB9 ABw _]
  refine(show wpAny (model prog w) A.in1 (pyNext (.ref I) >>= _) _ _ _ from ?_)
  refine AA0 (zL (s:={ s with heap:=h,toks:=tk }) (S:=S) hst (AAG hS) hD hlt λh' hst' ht hz hkp=>?_)
  try dsimp only at ht hz hkp ⊢
  have hS':=hkp S _ hne hS
  have hSl:S<h.objs.size:=AAG hS
  have up:∀b o,b≠S->h'.get? b=some o->(h'.update S (ABZ (·.push (AB3 h.objs.size)))).get? b=some o:=λb o hb e=>(ABE _ _ (AAz hb)).trans e
  refine(show wpAny (model prog w) A.in1 (updateSeq S (·.push (AB3 h.objs.size)) >>= _) _ _ _ from AA0 ?_)
  have tT:(h'.update S (ABZ (·.push (AB3 h.objs.size)))).get? h.objs.size=some { cls:=.type "tuple",data:=.seq #[es[i].key,es[i].val] }:=up _ _ (ABU hSl) ht
  refine ADe hS' rfl (AA3 ⟨ABu ABw _,ih (i+1) _ tk _ (acc.push (AB3 h.objs.size)) (as++[h.objs.size]) (by lia) hlt (hst'.to up (AAz hne)) (hD.to λo e=>up d o hSd (hkp d o hId e)) (λb o h1 h2 e=>up b o h1 (hkp b o h2 (keep b o h1 h2 e))) (AAZ _ hS' rfl)
   (by rw[ADq,hacc,ABQ];rfl) (by rw[AA8,hal];rfl) ?_ (ADx hIs (AAG tT))⟩) (by rw[hsz];lia) (by show (acc.push (AB3 h.objs.size)).size<=sizeLine+1;rw[Array.size_push,hsz];lia)
  refine(hG.to λb o hb e=>up b o (ABU (ADx hSI hb)) (hkp b o (ABU hb) e)).snoc (e:=es[i]) (λz=>AAq _ (hG.lt z)) hIs (by rw[hal];exact AAS hlt) tT
theorem qW{R:Result->Shared->Prop}{r D:Addr}{c0:Nat}(hh:A.handled=none)(hv:s.heap.IsItemsView r d)(hm:fe s.heap d es ep)(hDr:D≠r)(hDd:d≠D)(hn:es.size<=sizeLine)(res:Value)(hD:s.heap.get? D=some { cls:=.type "list",data:=.seq #[] c0 })
  (hR:∀h' tk acc c as,(∀b o,b≠D->s.heap.get? b=some o->h'.get? b=some o)->h'.get? D=some { cls:=.type "list",data:=.seq acc c }->as.length=es.size->PairsAt es s.heap.objs.size h' as->acc.toList=as.map AB3->R (.ok (.ret res)) { s with heap:=h',toks:=tk }) :
  wpAny (model prog w) A.in1 (ACD (.ref D) (.ref r) res)
   (λfin s'=>match fin with | .done f=>R (.ok f) s' | .again c'=>c'.quiet=true/\codeAny (model prog w) A c' R s') (λe s'=>R (.error e) s') s:=by
 have lD:D<s.heap.objs.size:=AAG hD
 have ld:d<s.heap.objs.size:=hm.lt
 have go:∀(h:Heap) (c1 tk:Nat),(∀b o,b≠D->(s.heap.push { cls:=.type "dict_itemiterator",data:=.fields #[.none,.bool false,.ref d,.int 0 0,.int es.size 0,.int ep 0,.none,.none] }).get? b=some o->h.get? b=some o) ->
   h.get? D=some { cls:=.type "list",data:=.seq #[] c1 }->codeAny (model prog w) A (.builtin "list.extend.loop" ⟨[.ref D,.ref s.heap.objs.size,res],[]⟩) R { s with heap:=h,toks:=tk }:=λh c1 tk kk hD1=>by
  have hI:=kk s.heap.objs.size _ (ABU lD) (AAE _ rfl)
  exact wx (h0:=s.heap) hh lD hDd (AAQ ld) hn res (λh' tk' acc c as k' hS' hl hG hacc=>hR h' tk' acc c as (λb o hb e=>k' b o hb (AAQ (AAG e)) e) hS' hl hG hacc)
   es.size 0 h tk c1 #[] [] (Nat.sub_zero _) (AAT _) ⟨_,_,_,_,hI,.inl ⟨rfl,rfl⟩⟩ (hm.to λo e=>kk d o hDd (AA4 _ e)) (λb o hb _ e=>kk b o hb (AA4 _ e)) hD1 rfl rfl ⟨ACs,(λ_ z=>nomatch z),(λj a z=>by simp at z)⟩ (AAG hI)
 unfold ACD
 refine AA0 (ACg (T:="dict_items") hv.typeIs ?_)
 have e1:ACe (.ref D) (.ref r)=false:=by simp[ACe,hDr]
 have e2:(ACp "dict_items" == ACp "list")=false:=by decide
 have e3:(ACp "dict_items" == ACp "tuple")=false:=by decide
 simp only[e1,e2,e3,Bool.or_false,AAF,if_false]
 refine AA0 (zM hv hm ?_)
 have hD1:=AA4 { cls:=.type "dict_itemiterator",data:=.fields #[.none,.bool false,.ref d,.int 0 0,.int es.size 0,.int ep 0,.none,.none] } hD
 refine AA0 (AAp (kdx_hint (let ⟨o,ho,hc,_⟩:=hv;⟨o,AA4 _ ho,hc⟩) ?_))
 refine ABc (λ_=>?_) (λ_=>AA3 ⟨ABu ABw _,go _ c0 _ (λb o _ e=>e) hD1⟩)
 refine AA0 (ACK (AA0 (show wpAny (model prog w) _ (updateSeq D (·.push .none) >>= λ_=>updateSeq D (·.pop)) _ _ _ from AA0 (ADe hD1 rfl ?_))))
 have hD2:=AAZ (ABZ (·.push ABb)) hD1 rfl
 refine ADe (hz:=by seq_fits) hD2 rfl ?_
 have hD3:=AAZ (ABZ (·.pop)) hD2 rfl
 exact AA3 ⟨ABu ABw _,go _ _ _ (λb o hb e=>(ABE _ _ (AAz hb)).trans ((ABE _ _ (AAz hb)).trans e)) hD3⟩
theorem pY{Q:Value->Shared->Prop}{r:Addr}(hh:A.handled=none)(hv:s.heap.IsItemsView r d)(hm:fe s.heap d es ep)(hz:es.size<=sizeLine)
  (h:∀h' tk as,(∀b u,s.heap.get? b=some u->h'.get? b=some u)->as.length=es.size->PairsAt es s.heap.objs.size h' as ->
   wpAny (model prog w) A.in1 (call (.builtin "list.sort") [.ref h'.objs.size]) (λ_ s'=>Q (.ref h'.objs.size) s') E { s with heap:=h'.push { cls:=.type "list",data:=.seq (as.map AB3).toArray },toks:=tk }):wpAny (model prog w) A (call (.builtin "sorted") [.ref r]) Q E s:=by
 have lr:r<s.heap.objs.size:=let ⟨_,ho,_⟩:=hv;AAG ho
 refine call_function_entry kind_sorted plain_sorted entry_sorted (args_sorted1 _) ?_
 unfold Builtin.«sorted»
 refine AA0 (m:=checkCount "sorted" 1 1 _) (AA3 ?_)
 unfold collect
 refine AA0 (AA0 (wpAny_runValue (ABX F.entry_proto_collect ?_)))
 rw[AB9 F.plain_proto_collect _]
 refine(show wpAny (model prog w) _ (newList [] >>= λl=>again (.builtin "list.__iadd__" ⟨[l,.ref r],[]⟩)) _ _ s from AA0 (AAj (AA3 ⟨ABu F.plain_list_iadd _,ABX F.entry_list_iadd ?_⟩)))
 rw[AB9 F.plain_list_iadd _]
 have key:=qW (prog:=prog) (w:=w) (A:=A.in1) (d:=d) (es:=es) (ep:=ep) (r:=r) (s:={ s with heap:=s.heap.push { cls:=.type "list",data:=.seq ([]:List Value).toArray } }) (D:=s.heap.objs.size) (c0:=0) (res:=.ref s.heap.objs.size)
  (R:=λr s'=>∃h' tk acc c as,r=.ok (.ret (.ref s.heap.objs.size))/\s'={ s with heap:=h',toks:=tk }/\(∀b u,s.heap.get? b=some u->h'.get? b=some u)/\h'.get? s.heap.objs.size=some { cls:=.type "list",data:=.seq acc c }/\as.length=es.size/\PairsAt es s.heap.objs.size h' as/\acc.toList=as.map AB3)
  (by simp[hh]) (let ⟨o,ho,x⟩:=hv;⟨o,AA4 _ ho,x⟩) (hm.to λo e=>AA4 _ e) (ABU lr) (AAQ hm.lt) hz (AAE _ rfl)
  λh' tk acc c as k hD hl hG hacc=>⟨h',tk,acc,c,as,rfl,rfl,λb u e=>k b u (AAQ (AAG e)) (AA4 _ e),hD,hl,⟨hG.nd,λa ha=>Nat.lt_of_le_of_lt (by show s.heap.objs.size<=(s.heap.push _).objs.size;rw[AB1];exact ADn _) (hG.above a ha),hG.tup⟩,hacc⟩
 have last:∀h' tk (acc:Array Value) c as,(∀b u,s.heap.get? b=some u->h'.get? b=some u)->h'.get? s.heap.objs.size=some { cls:=.type "list",data:=.seq acc c }->as.length=es.size->PairsAt es s.heap.objs.size h' as->acc.toList=as.map AB3 ->
   wpAny (model prog w) A.in1 (do let ob ←load s.heap.objs.size;match ob.data with | .seq xs _=>pure xs.toList | _=>unsupported "internal:collect":Sem (List Value))
    (λxs s'=>wpAny (model prog w) A.in1 (do let l ←newList xs;let _ ←holding [l] (call (.builtin "list.sort") [l] []);ret l) (λfin s'=>∃v,fin=Fin.done (Flow.ret v)/\Q v s') E s') E { s with heap:=h',toks:=tk }:=λh' tk acc c as kk hD hl hG hacc=>by
  refine AA0 (wpAny_load hD (AA3 (AA0 (AE6 ?_ (by rw[hacc,AA6];lia)))))
  rw[hacc]
  exact AA0 (AAp (ABh (h h' tk as kk hl hG) (λ_ s' q=>AA3 ⟨_,rfl,q⟩) λ_ _ z=>z))
 refine ABh key (λfin s' x=>?_) λe s' ⟨_,_,_,_,_,z,_⟩=>by cases z
 cases fin with
 | done f =>
  obtain⟨h',tk,acc,c,as,z,rfl,kk,hD,hl,hG,hacc⟩:=x
  cases z
  exact last h' tk acc c as kk hD hl hG hacc
 | again c' =>
  refine⟨x.1,ADR x.2 λr s2 ⟨h',tk,acc,c,as,z,e,kk,hD,hl,hG,hacc⟩=>?_⟩
  subst z e
  exact last h' tk acc c as kk hD hl hG hacc
end
end L2
namespace L2
open PySem PySem.Spec PyProof.Rows DL PySem.W PySem.Calls PyProof.V
def rM(H:Hp)(ts:List (Addr×List V)):Hp:=λb=>match ts.lookup b with
 | some vs=>some (.tup vs)
 | none=>H b
theorem uO{ts:List (Addr×List V)}{b:Addr}{vs:List V}(h:ts.lookup b=some vs):(b,vs)∈ts:=by
 induction ts with
 | nil=>cases h
 | cons t ts ih =>
  rw[ABP]at h
  cases e:(b==t.1) with
  | true =>
   rw[e]at h
   have:b=t.1:=by simpa using e
   cases h
   rw[this];simp
  | false =>
   rw[e]at h
   exact AA9 _ (ih h)
theorem uN:∀{as:List Addr}{us:List (List V)}{j:Nat}{a:Addr}{q:List V},as.Nodup->as[j]?=some a->us[j]?=some q->(as.zip us).lookup a=some q
 | [],_,_,_,_,_,h,_=>by simp at h
 | _::_,[],_,_,_,_,_,h=>by simp at h
 | b::as,u::us,0,a,q,_,h1,h2=>by
  simp at h1 h2
  subst h1 h2
  simp[ABK,ABP]
 | b::as,u::us,j+1,a,q,nd,h1,h2=>by
  rw[AB6]at nd
  have m:a∈as:=AAu (by simpa using h1)
  have ne:(a==b)=false:=by
   rw[beq_eq_false_iff_ne]
   rintro rfl
   exact nd.1 m
  rw[ABK,ABP,ne]
  exact uN nd.2 (by simpa using h1) (by simpa using h2)
section
variable{X:Cx}{pins:List (Addr×Obj)}{σ:St}{H:Hp}{s:Shared}
theorem mT{ts:List (Addr×List V)}{b:Addr}(h:∀p∈ts,p.1≠b):rM H ts b=H b:=by
 unfold rM
 cases e:ts.lookup b with
 | none=>rfl
 | some vs=>exact absurd rfl (h _ (uO e))
theorem Inv.laidT(I:Inv X pins σ H s)(k:∀b u,b≠X.env.locals->s.heap.get? b=some u->h'.get? b=some u)(hn:s.heap.Ns X.env.locals m)(hn':h'.Ns X.env.locals m)
  (fr:∀p∈ts,s.heap.get? p.1=none) (new:∀b vs,ts.lookup b=some vs->bJ X.prog X.w (rM H ts) h' b (.tup vs)):Inv X pins σ (rM H ts) { s with heap:=h',toks:=t' }:=by
 have fa:∀p∈ts,H p.1=none:=λp hp=>HOk.none I.hok (fr p hp)
 have old:∀b u,s.heap.get? b=some u->rM H ts b=H b:=λb u e=>mT λp hp z=>by rw[←z,fr p hp]at e;cases e
 have trk:∀b u,H b=some u->rM H ts b=some u:=λb u e=>by
  rw[mT λp hp z=>by rw[←z,fa p hp]at e;cases e];exact e
 refine I.step (g':=s.gens) (d':=s.drawn) (ch:=[]) (λ_ z=>nomatch z) (λb u hL _ _ e _=>k b u hL e) (λb u hL _ _ e _=>⟨u.slots,k b u hL e⟩) (λb u _ e n=>by rw[old b u e];exact n) (λb u _ e=>?_)
  (λb xs q=>trk b _ q) (λb u xs q=>trk b _ q) (λb ps q=>⟨#[],by rw[trk b _ q];simp⟩) (λm' hm=>?_) (λb w q=>?_) I.bare
 ·by_cases hb:b=X.env.locals
  ·subst hb
   obtain⟨o',_,_,ho,_⟩:=hn'
   exact⟨o',ho⟩
  ·exact⟨u,k b u hb e⟩
 ·have:m=m':=funext λx=>hn.agree hm x
  subst this
  exact hn'
 ·cases e:ts.lookup b with
  | some vs =>
   have:rM H ts b=some (.tup vs):=by unfold rM;rw[e]
   rw[this]at q
   cases q
   exact new b vs e
  | none =>
   have:rM H ts b=H b:=by unfold rM;rw[e]
   rw[this]at q
   refine(I.hok b w q).stay (λc v hc r=>k c v ?_ r) (λc z=>trk c _ z) λc xs z=>trk c _ z
   rcases hc with rfl | hc
   ·exact ad q I.free
   ·exact ad hc I.free
end
section
variable{K:AA5}{ρ:List Addr}{H H':Hp}{M:Mem}
theorem Grow.more(ag:∀b u,H b=some u->H' b=some u):Grow K ρ H ρ H':=⟨ACb,λa xs h=>by
 rcases h with h | h
 ·rcases h with h | ⟨ob,h⟩
  ·exact .inl (.inl (ag _ _ h))
  ·exact .inl (.inr ⟨ob,ag _ _ h⟩)
 ·exact .inr h⟩
theorem Sim.more(S:Sim K ρ M H)(ag:∀b u,H b=some u->H' b=some u):Sim K ρ M H' :=
 ⟨S.nd,S.len,λn a mo e1 e2=>(S.obj n a mo e1 e2).grow (Grow.more ag) (by
  rcases S.tracked e1 with⟨ob,hob⟩ | q
  ·exact .inl ((ag _ _ hob).trans hob.symm)
  ·rw[e2]at q;exact .inr q)⟩
end
section
variable{X:Cx}{o:Expr}{to:DTE}{apos cpos p pos:Pos}{k:Nat}
def bR(kvs:List (D×D)):List D:=kvs.map λp=>.tup [p.1,p.2]
def eO(to:DTE):DTE:=λS M Q=>to S M λd M1=>match d with
 | .ref n=>∃kvs,M1[n]?=some (.dkt kvs)/\SrtOk M1 (bR kvs)/\∀ys,ys.Perm (bR kvs)->wN M1 ys->Q (.ref M1.length) (M1++[.lst ys])
 | _=>False
theorem Eh{K:AA5}{ρ:List Addr}{H:Hp}{kvs:List (D×D)}{xs:List (D×Addr×Value)}(r:Paired (wP K ρ H) kvs xs):∃us:List (List V),us.length=kvs.length/\∀(j:Nat) x,xs[j]?=some x->∃p v,kvs[j]?=some p/\us[j]?=some [.ref x.2.1,v]/\Rep K ρ H p.1 (.ref x.2.1)/\Rep K ρ H p.2 v/\aK v x.2.2:=by
 induction r with
 | nil=>exact⟨[],rfl,λj x e=>by simp at e⟩
 | @cons p q ps qs h t ih =>
  obtain⟨us,hl,hu⟩:=ih
  obtain⟨_,_,h3,v,h4,h5⟩:=h
  refine⟨[.ref q.2.1,v]::us,by rw[AAA,AAA,hl],λj x e=>?_⟩
  cases j with
  | zero=>simp at e;subst e;exact⟨p,v,rfl,rfl,h3,h4,h5⟩
  | succ j=>exact hu j x (by simpa using e)
theorem xQ{K:AA5}{ρ:List Addr}{H:Hp}:∀(ds:List D) (as:List Addr),ds.length=as.length->(∀(j:Nat) d a,ds[j]?=some d->as[j]?=some a->Rep K ρ H d (.ref a))->Reps K ρ H ds (as.map V.ref)
 | [],[],_,_=>.nil
 | [],_::_,e,_=>by simp at e
 | _::_,[],e,_=>by simp at e
 | d::ds,a::as,e,h=>.cons (h 0 d a rfl rfl) (xQ ds as (by simpa using e) λj d' a' h1 h2=>h (j+1) d' a' (by simpa using h1) (by simpa using h2))
theorem lU:∀as:List Addr,ax (as.map V.ref) (as.map AB3)
 | []=>.nil
 | a::as=>.cons rfl (lU as)
theorem tM(hr:Room k X.A)(hc:X.calm=true)(ho:DE X o to)(hm:X.mg "sorted" = none)(hg:X.env.kindOf "sorted" = some .globalImplicit)
  (hs:starEach [AEH (.Attribute o "items" apos) [] [] cpos] X.env=[(false,eval (AEH (.Attribute o "items" apos) [] [] cpos) X.env)])
  (hbase:attributeBase o "items" X.env (eval o X.env)=eval o X.env) (hline:(apos.endLine==cpos.line)=true) :
  DE X (.Call (.Name "sorted" p) [.Call (.Attribute o "items" apos) [] [] cpos] [] pos) (eO to):=by
 intro pins s σ H R I ⟨S,M,ρ,Q,sm,sr,q,kk⟩
 refine ACQ (gF I hg hm (by rfl) ?_)
 refine callWith_builtin1 ?_ (by rw[hs];rfl) rfl
 rw[hs]
 refine ADW (wpAny_Call_method0_late hbase hline (thn (ho pins s σ H _ I ⟨S,M,ρ,_,sm,sr,q,λv H' w=>w⟩) λu s1 ⟨v,H1,I1,rv,x,M1,ρ1,sm1,g1,r1,q1⟩=>?_))
 cases r1 with
 | @ref n a hn =>
  cases rv
  obtain⟨kvs,hM,so,q2⟩:=(show ∃kvs,M1[n]?=some (.dkt kvs)/\SrtOk M1 (bR kvs)/\∀ys,ys.Perm (bR kvs)->wN M1 ys->Q (.ref M1.length) (M1++[.lst ys])from q1)
  obtain⟨xs,hH,r,dd,hsm,hz,hx,nd⟩:=Df I1 sm1 hn hM
  obtain⟨es,em,el,eg⟩:=Jj I1 hH
  refine⟨"dict","dict.items",PySem.F.plainAttrs_dict,PySem.F.slot_dict_items,PySem.F.type_dict_items,dd.typeIs,λb z=>?_,Calls.callWith_builtin rfl (PySem.evalArgs_none (zK hsm em ?_))⟩
  ·cases z
   obtain⟨ob,_,_,h1,h2,_⟩:=dd
   exact⟨ob,h1,h2.2.1⟩
  refine ADk ?_
  have I2:Inv X pins σ H1 { s1 with heap:=s1.heap.push { cls:=.type "dict_items",data:=.fields #[.ref a] } }:=I1.kept (t':=s1.toks) λb o e=>AA4 _ e
  have em2:fe ({ s1 with heap:=s1.heap.push { cls:=.type "dict_items",data:=.fields #[.ref a] } }:Shared).heap a es xs.length:=em.to λo e=>AA4 _ e
  have vw:({ s1 with heap:=s1.heap.push { cls:=.type "dict_items",data:=.fields #[.ref a] } }:Shared).heap.IsItemsView s1.heap.objs.size a:=⟨_,AAE _ rfl,rfl,rfl⟩
  generalize ({ s1 with heap:=s1.heap.push { cls:=.type "dict_items",data:=.fields #[.ref a] } }:Shared)=s2 at I2 em2 vw ⊢
  refine pY (I2.ok.hd hc) vw em2 (by lia) λhb tk as kp hl hG=>?_
  obtain⟨us,ul,hu⟩:=Eh r
  obtain⟨m,hns,hm'⟩:=I2.loc
  have hns':hb.Ns X.env.locals m:=by
   obtain⟨o',es',ep',e,aN⟩:=hns
   exact⟨o',es',ep',kp _ _ e,aN⟩
  have fr:∀p∈as.zip us,s2.heap.get? p.1=none:=λp hp=>by
   have lo:=hG.above p.1 (ADX hp).1
   cases qq:s2.heap.get? p.1 with
   | none=>rfl
   | some o'=>exact absurd (ADx (AAG qq) lo) (AAq _)
  have ag:∀b u,H1 b=some u->rM H1 (as.zip us) b=some u:=λb u e=>by
   rw[mT λp hp z=>by rw[←z,HOk.none I2.hok (fr p hp)]at e;cases e];exact e
  have at_:∀(j:Nat) b,as[j]?=some b->∃pp x vv,kvs[j]?=some pp/\xs[j]?=some x/\us[j]?=some [.ref x.2.1,vv]/\Rep X.K ρ1 H1 pp.1 (.ref x.2.1)/\Rep X.K ρ1 H1 pp.2 vv/\aK vv x.2.2/\hb.get? b=some { cls:=.type "tuple",data:=.seq #[.ref x.2.1,x.2.2] }:=λj b hj=>by
   have lj:=(AA2.mp hj).1
   have hxj:xs[j]?=some (xs[j]'(by lia)):=AA7 (by lia)
   obtain⟨pp,vv,e1,e2,e3,e4,e5⟩:=hu j _ hxj
   obtain⟨e,f1,f2⟩:=hG.tup j b hj
   obtain⟨e',f3,f4,f5⟩:=eg j _ hxj
   rw[f1]at f3
   obtain rfl:=AAR f3
   rw[f4,f5]at f2
   exact⟨pp,_,vv,e1,hxj,e2,e3,e4,e5,f2⟩
  have I3:Inv X pins σ (rM H1 (as.zip us)) { s2 with heap:=hb,toks:=tk }:=I2.laidT (λb u _ e=>kp b u e) hns hns' fr λb vs e=>by
   obtain⟨j,hj⟩:=AAv (uO e)
   obtain⟨z1,z2⟩:=List.getElem?_zip_eq_some.mp hj
   obtain⟨pp,x,vv,_,_,e2,_,_,e5,f2⟩:=at_ j b z1
   rw[show us[j]?=some vs from z2]at e2
   obtain rfl:=AAR e2
   exact⟨by show (2:Nat)<=sizeLine;rw[ABl];lia,[.ref x.2.1,x.2.2],.cons rfl (.cons e5 .nil),⟨_,f2,rfl,⟨0,rfl⟩,rfl⟩⟩
  have gr:Grow X.K ρ1 H1 ρ1 (rM H1 (as.zip us)):=Grow.more ag
  have rps:Reps X.K ρ1 (rM H1 (as.zip us)) (bR kvs) (as.map V.ref):=xQ _ _ (by unfold bR;rw[AA6];lia) λj dd' b h1 h2=>by
   obtain⟨pp,x,vv,e0,_,e2,e3,e4,_,_⟩:=at_ j b h2
   unfold bR at h1
   rw[AAU,e0]at h1
   obtain rfl:=AAR h1
   refine .tup (SqT.of (show rM H1 (as.zip us) b=some (.tup [.ref x.2.1,vv])from ?_)) (.cons (e3.grow gr) (.cons (e4.grow gr) .nil))
   unfold rM
   rw[uN hG.nd h2 e2]
  have lL:X.env.locals<hb.objs.size:=by
   obtain⟨o',_,_,e,_⟩:=hns'
   exact AAG e
  have hD:hb.get? hb.objs.size=none:=by
   cases qq:hb.get? hb.objs.size with
   | none=>rfl
   | some o'=>exact absurd (AAG qq) (AAq _)
  refine sf (s:={ s2 with heap:=hb,toks:=tk }) (tk:=tk) (n:=0) hr (by show X.A.units+1<=X.A.units+4;lia) I3 (sm1.more ag) so.g rps (lU as) hns' ?_ (λb u _ e=>AA4 _ e) hD (ABU lL) (AAE _ rfl) λv H' z=>kk v H' (VQ.trans (g1.trans gr) (z Q q2))
  obtain⟨o',es',ep',e,aN⟩:=hns'
  exact⟨o',es',ep',AA4 _ e,aN⟩
 | _=>exact q1.elim
theorem tw(hr:Room k X.A)(ho:HE X o to)(hm:X.mg "sorted" = none)(hc:X.calm=true:=by kernel_rfl)(hg:X.env.kindOf "sorted" = some .globalImplicit:=by kernel_rfl)
  (hs:starEach [AEH (.Attribute o "items" apos) [] [] cpos] X.env=[(false,eval (AEH (.Attribute o "items" apos) [] [] cpos) X.env)]:=by kernel_rfl)
  (hbase:attributeBase o "items" X.env (eval o X.env)=eval o X.env:=by kernel_rfl) (hline:(apos.endLine==cpos.line)=true:=by kernel_rfl) :
  HE X (.Call (.Name "sorted" p) [.Call (.Attribute o "items" apos) [] [] cpos] [] pos) (eO to):=⟨tM hr hc ho.ok hm hg hs hbase hline⟩
end
end L2
namespace L2
open PySem PySem.Spec PyProof.Rows DL PySem.W
section
variable{X:Cx}
end
noncomputable def dictOf(ps:List (D×D)):List (D×D):=ps.foldl (λkvs p=>sn kvs p.1 p.2) []
theorem lg:dictOf (ps++[p])=sn (dictOf ps) p.1 p.2:=by
 unfold dictOf
 rw[List.foldl_append];rfl
theorem qU:∀(ps kvs:List (D×D)),(ps.foldl (λkvs p=>sn kvs p.1 p.2) kvs).length<=kvs.length+ps.length
 | [],_=>AAD _
 | p::ps,kvs=>by
  have h1:=qU ps (sn kvs p.1 p.2)
  have h2:=nq (kvs:=kvs) (k:=p.1) (d:=p.2)
  rw[AEG,AAA];lia
theorem io:(dictOf ps).length<=ps.length:=by
 have:=qU ps []
 rw[AAW,Nat.zero_add]at this
 exact this
theorem qY:entryFor table "dict.update.loop" = some Builtin.«dict.update.loop»:=entryFor_of_tree (by kernel_rfl)
theorem gq:plainId "dict.update.loop" = true:=by decide +kernel
section
variable{prog:Program}{w:World}{A:Around}{E:Value->Shared->Prop}{h:Heap}{g:Array GenState}{d:Drawn}{t:Nat}{os:OsState}{a:Addr}{o:Obj}
end
theorem dsetE(hu:(bU prog w).room A)(kat:(bU prog w).is s.heap k b)
  (hm:s.heap.DictOfH (bU prog w) d xs) (hx:dX d xs prog w s.heap) (hz:xs.length<=sizeLine)
  (hQ:∀h',dX d (storedH xs k b v) prog w h'->ABM d s.heap h'->Q () { s with heap:=h',toks:=s.toks+(bU prog w).draws k }):wpAny (model prog w) A (dictSet d (.ref b) v) Q E s:=by
 obtain⟨_,_,_,_,_,_,_,his,hn⟩:=hm
 obtain⟨o,es,ho,hc,hd,he'⟩:=hx
 have he:es.toList=xs.map (entryOfKey (bU prog w)):=he'
 unfold dictSet
 try with_reducible refine AAp ?_
 refine AA0 ((bU prog w).pyHash hu kat ?_)
 unfold dictSetHashed
 try with_reducible refine AAp ?_
 have hl:es.size=xs.length:=size_of_entries he
 refine AA0 (wpAny_dictFind_heap (s:={ s with toks:=s.toks+(bU prog w).draws k }) hu kat ho hd he his hn (λhno=>?_) λj p hj=>?_)
 ·refine AA0 (ACK (wpAny_updateDictKeys (hz:=by lia) (s:={ s with toks:=s.toks+(bU prog w).draws k }) ho hd (hQ _ ⟨_,es.push ⟨(bU prog w).hash k,.ref b,v⟩,AAZ _ ho (ADO (ADC hd _)),hc.mapDictKeys _,?_,?_⟩ (AB2 ..))))
  ·rw[ADC hd,storedH_new (ADt hno),AA8];rfl
  ·rw[storedH_new (ADt hno)]
   rw[ADq,he,ABQ]
   rfl
 ·refine AA0 (ACK (AA0 (wpAny_updateDict (s:={ s with toks:=s.toks+(bU prog w).draws k }) ho hd (wpAny_point (hQ _ ⟨_,es.modify j λe=>{ e with val:=v },AAZ _ ho (ADO (AE4 hd _)),hc.mapDict _,?_,?_⟩ (AB2 ..))))))
  ·rw[AE4 hd,storedH_old (atKey_of_get hn hj),AA6]
  ·rw[storedH_old (atKey_of_get hn hj)]
   have q:=modify_map_putAt (entryOfKey (bU prog w)) (λe:DictEntry=>{ e with val:=v }) k v (λ_ _=>rfl) hn hj
   rw[←he]at q
   obtain⟨l⟩:=es
   have q2:(Array.modify ⟨l⟩ j λe:DictEntry=>{ e with val:=v }).toList=(xs.map (putAt k v)).map (entryOfKey (bU prog w)):=by simpa using q
   exact q2
section
variable{X:Cx}{pins:List (Addr×Obj)}{σ:St}{H:Hp}{ρ:List Addr}{M:Mem}{A:Around}{E:Value->Shared->Prop}{s:Shared}
structure DD(X:Cx)(ρ:List Addr)(H:Hp)(h:Heap)(a:Addr)(kvs:List (D×D))(xs:List (D×Addr×Value)):Prop where
 dx:dX a xs X.prog X.w h
 kv:Paired (wP X.K ρ H) kvs xs
 nd:(kvs.map (·.1)).Nodup
theorem DD.at(x:DD X ρ H h a kvs xs)(k:∀o,h.get? a=some o->h'.get? a=some o):DD X ρ H h' a kvs xs:=by
 obtain⟨⟨o,es,e1,e2,e3,e4⟩,kv,nd⟩:=x
 exact⟨⟨o,es,k _ e1,e2,e3,e4⟩,kv,nd⟩
theorem DD.len(x:DD X ρ H h a kvs xs):xs.length=kvs.length:=by
 have:=congrArg AD0 (sZ x.kv)
 rwa [AA6,AA6]at this
theorem DD.of(I:Inv X pins σ H s)(x:DD X ρ H s.heap a kvs xs):s.heap.DictOfH (bU X.prog X.w) a xs:=by
 obtain⟨o,es,e1,e2,e3,e4⟩:=x.dx
 have ek:=sZ x.kv
 refine⟨o,es,_,e1,e2,e3,e4,λy hy=>?_,by rw[ek];exact x.nd⟩
 obtain⟨i,hi⟩:=AAv hy
 obtain⟨p,_,q1,q2,q3,_⟩:=fq x.kv hi
 rw[←q1]
 exact nh I 8 _ _ _ q3 rfl q2
theorem FM(I:Inv X pins σ H s)(hu:A.units+20<cLine)(W:Walks X.prog X.w A.in1 J fp wr m P Sx)(S:Addr)(hSf:S∉fp)
  (hS0:s.heap.get? S=none) (hw0:∀b∈wr,s.heap.get? b=none) (ps:List (D×D)) (hm:ps.length=m) (hval:∀i v,P i v->∃p,ps[i]?=some p/\(∃vv,Rep X.K ρ H (.tup [p.1,p.2]) vv/\aK vv v)/\cK 8 p.1=true/\gI p.1=true) (hb:m<=1000) :
  ∀(k i:Nat) (h:Heap) (tk:Nat) (xs:List (D×Addr×Value)) (j:Int) (t:Tok),m-i=k->i<=m->Sx i h->DD X ρ H h S (dictOf (ps.take i)) xs->(∀b u,s.heap.get? b=some u->h.get? b=some u) ->
   (∀h' tk xs',(∀b u,s.heap.get? b=some u->h'.get? b=some u)->DD X ρ H h' S (dictOf ps) xs'->R (.ok (.ret .none)) { s with heap:=h',toks:=tk }) ->
   codeAny (model X.prog X.w) A (.builtin "dict.update.loop" ⟨[.ref S,.ref J,.int j t,.none],[]⟩) R { s with heap:=h,toks:=tk }:=by
 have hSw:S∉wr:=λh=>hSf (W.sub _ h)
 intro k
 induction k with
 | zero =>
  intro i h tk xs j t hk hi hst hS hold hR
  obtain rfl:i=m:=by lia
  refine ABX qY ?_
  rw[AB9 gq _]
  refine(show wpAny (model X.prog X.w) A.in1 (pyNext (.ref J) >>= _) _ _ _ from AA0 (W.done _ _ _ hst λh' tk hk'=>?_))
  rw[←hm,AC2]at hS
  refine(show wpAny (model X.prog X.w) A.in1 (Builtin.Dict.addKeywords S [] >>= _) _ _ _ from AA0 (AA3 (AA3 ?_)))
  exact hR h' tk xs (λb u e=>hk' b u (λz=>by rw[hw0 b z]at e;cases e) (hold b u e)) (hS.at λo e=>hk' S o hSw e)
 | succ k ih =>
  intro i h tk xs j t hk hi hst hS hold hR
  refine ABX qY ?_
  rw[AB9 gq _]
  refine(show wpAny (model X.prog X.w) A.in1 (pyNext (.ref J) >>= _) _ _ _ from AA0 (W.item i _ _ _ (by lia) hst λv h' tk hP hst' hk'=>?_))
  obtain⟨p,hp,⟨vv,r,rv⟩,kd,it⟩:=hval i v hP
  have old':∀b u,s.heap.get? b=some u->h'.get? b=some u:=λb u e=>hk' b u (λz=>by rw[hw0 b z]at e;cases e) (hold b u e)
  have I':Inv X pins σ H { s with heap:=h',toks:=tk }:=I.kept old'
  have hS':=hS.at λo e=>hk' S o hSw e
  have hl:=hS'.len
  have dl:=io (ps:=ps.take i)
  have dd:=hS'.of (s:={ s with heap:=h',toks:=tk }) I'
  obtain⟨a,vs,rfl,hq,rr⟩:=Rep.inv_tup r
  cases rv
  first | have hzz:=Reps.inv_cons rr | have hzz:=ax.inv_cons rr
  clear rr
  obtain⟨_,_,rfl,r1,rr⟩:=hzz
  first | have hzz:=Reps.inv_cons rr | have hzz:=ax.inv_cons rr
  clear rr
  obtain⟨_,_,rfl,r2,rr⟩:=hzz
  cases rr
  obtain⟨its,r2',pl,hz⟩:=I'.tuple hq
  obtain⟨u1,u2,rfl,e1,e2⟩:=ax.two r2'
  obtain⟨k0,d0⟩:=p
  cases k0 with
  | tup ks =>
   have kat:=nh I' 8 _ _ _ r1 e1 kd
   obtain⟨b,_,rfl,_⟩:=id kat
   obtain⟨_,_,rfl,hq1,rr1⟩:=Rep.inv_tup r1
   cases e1
   obtain⟨o,ho,hc,nn,hd⟩:=pl
   have hT:({ s with heap:=h',toks:=tk }:Shared).TypeIs (.ref a) "tuple":=⟨o,ho,hc⟩
   refine AA0 (AAp (AA0 (wpAny_tryCatch ?_)))
   unfold Builtin.Dict.pairItems
   refine AA0 (ACg hT ?_)
   rw[if_pos (by decide)]
   refine AA0 (ABL ho hd (AA3 ?_))
   refine(show wpAny (model X.prog X.w) _ (holding [.ref b,u2] (dictSet S (.ref b) u2)) _ _ _ from AAp ?_)
   refine dsetE (k:=.tup ks) (s:={ s with heap:=h',toks:=tk }) (by show A.units+1+8<cLine;lia) kat dd hS'.dx (am (by rw[hl];rw[AAh]at dl;lia)) λh2 dx2 sb=>?_
   have k2:∀b u,b≠S->h'.get? b=some u->h2.get? b=some u:=λb u hb e=>(sb.2 b hb).trans e
   have kv2:=CP hS'.kv kd (.tup hq1 rr1) r2 e2
   have et:ps.take (i+1)=ps.take i++[(.tup ks,d0)]:=by rw[ABk,hp];rfl
   refine AA3 ⟨ABu gq _,ih (i+1) h2 _ _ _ _ (by lia) (by lia) (W.frame _ h' h2 hst' λb' hb' o e=>k2 b' o (λz=>hSf (z ▸ hb')) e) ⟨dx2,?_,?_⟩ (λb u e=>k2 b u (λz=>by rw[z,hS0]at e;cases e) (old' b u e)) hR⟩
   ·rw[et,lg];exact kv2
   ·rw[et,lg];exact np hS'.nd
  | _=>cases it
end
section
variable{X:Cx}{k:Nat}
end
end L2
namespace L2
open PySem PySem.Spec PyProof.Rows DL PySem.W
def oA(P:Params)(K:AA5):List DictEntry->List (Str×List Str)->Prop
 | [],[]=>True
 | e::r,p::kr=>(∃(t:Tok) (b:Addr) (o:Obj) (its:Array Value) (m:Nat),e=⟨PyData.keyHash P p.1,.str p.1 t,.ref b⟩/\K.lookup b=some o/\o.cls=.type "tuple"/\o.dict=none/\o.data=.seq its m/\its.size<=sizeLine/\ax (p.2.map V.str) its.toList)/\oA P K r kr
 | _,_=>False
def Cz(w:World)(K:AA5)(mg:Str->Option Value)(x:Str)(kvs:List (Str×List Str)):Prop :=
 ∃(a:Addr) (es:Array DictEntry) (n:Nat),mg x=some (.ref a)/\(a==sysModules)=false/\K.lookup a=some ⟨.type "dict",none,.dict es n,#[]⟩/\oA w.params K es.toList kvs
theorem gdict_mk{w:World}{K:AA5}{h:Heap}{mg:Str->Option Value}{x:Str}{a:Addr}{es:Array DictEntry}{n:Nat}{kvs:List (Str×List Str)}(X:K.In h)(G:h.Ns mainGlobals mg)(ha:AD2 K mainGlobals x=some (some (.ref a)))
  (hs:(a==sysModules)=false) (hl:K.lookup a=some ⟨.type "dict",none,.dict es n,#[]⟩) (he:oA w.params K es.toList kvs):Cz w K mg x kvs:=⟨a,es,n,PySem.W.mg_of X G ha,hs,hl,he⟩
theorem ents_cons{P:Params}{K:AA5}{r:List DictEntry}{k:Str}{ks:List Str}{kr:List (Str×List Str)}{t:Tok}{b:Addr}{its:Array Value}{m:Nat}{sl:Array (Option Value)}(l:K.lookup b=some ⟨.type "tuple",none,.seq its m,sl⟩)(s:its.size<=sizeLine)(v:ax (ks.map V.str) its.toList)(h:oA P K r kr) :
  oA P K (⟨PyData.keyHash P k,.str k t,.ref b⟩::r) ((k,ks)::kr):=⟨⟨t,b,_,its,m,rfl,l,rfl,rfl,rfl,s,v⟩,h⟩
section
variable{P:Params}{K:AA5}{z:Str}
theorem oA.lit:∀{l:List DictEntry}{kvs:List (Str×List Str)},oA P K l kvs->KeysLit P l
 | [],[],_=>trivial
 | _::_,p::_,⟨⟨t,_,_,_,_,he,_⟩,h⟩=>⟨⟨p.1,t,by rw[he],by rw[he]⟩,oA.lit h⟩
 | [],_::_,h=>h.elim
 | _::_,[],h=>h.elim
theorem oA.miss:∀{l:List DictEntry}{kvs:List (Str×List Str)},oA P K l kvs->kvs.find? (λp=>p.1==z)=none->l.find? (λe=>e.key.isStr z)=none/\l.any (λe=>e.refKey)=false
 | [],[],_,_=>⟨rfl,rfl⟩
 | _::_,p::_,⟨⟨t,b,o,its,m,he,_⟩,h⟩,hz=>by
  subst he
  rw[AB7]at hz
  cases hp:(p.1==z) with
  | true=>rw[hp]at hz;cases hz
  | false =>
   rw[hp]at hz
   obtain⟨h1,h2⟩:=oA.miss h hz
   refine⟨?_,?_⟩
   ·simp only[AB7,Value.isStr,hp];exact h1
   ·rw[ABe,h2];rfl
 | [],_::_,h,_=>h.elim
 | _::_,[],h,_=>h.elim
theorem oA.hit:∀{l:List DictEntry}{kvs:List (Str×List Str)},oA P K l kvs->kvs.find? (λp=>p.1==z)=some p ->
  ∃(en:DictEntry) (b:Addr) (o:Obj) (its:Array Value) (m:Nat),l.find? (λe=>e.key.isStr z)=some en/\en.val=.ref b/\K.lookup b=some o/\o.cls=.type "tuple"/\o.dict=none/\o.data=.seq its m/\its.size<=sizeLine/\ax (p.2.map V.str) its.toList
 | [],[],_,hz=>nomatch hz
 | _::_,q::_,⟨⟨t,b,o,its,m,he,hx⟩,h⟩,hz=>by
  subst he
  rw[AB7]at hz
  cases hp:(q.1==z) with
  | true =>
   rw[hp]at hz
   obtain rfl:=AAR hz
   exact⟨⟨PyData.keyHash P q.1,.str q.1 t,.ref b⟩,b,o,its,m,by simp only[AB7,Value.isStr,hp],rfl,hx⟩
  | false =>
   rw[hp]at hz
   obtain⟨en,b',o',its',m',e,r⟩:=oA.hit h hz
   exact⟨en,b',o',its',m',by simp only[AB7,Value.isStr,hp];exact e,r⟩
 | [],_::_,h,_=>h.elim
 | _::_,[],h,_=>h.elim
theorem om{α:Type}(p:α->Bool):∀l:List α,l.any p=(l.find? p).isSome
 | []=>rfl
 | a::l=>by
  rw[ABe,AB7]
  cases p a with
  | true=>rfl
  | false=>exact(Bool.false_or _).trans (om p l)
variable{a:Addr}{es:Array DictEntry}{n:Nat}{kvs:List (Str×List Str)}
theorem ns_in(hl:K.lookup a=some ⟨.type "dict",none,.dict es n,#[]⟩)(he:oA P K es.toList kvs):∃r,AD2 K a z=some r/\r.isSome=kvs.any λp=>p.1==z:=by
 rw[om]
 cases hz:kvs.find? (λp=>p.1==z) with
 | none =>
  obtain⟨h1,h2⟩:=he.miss hz
  refine⟨none,?_,rfl⟩
  simp only[AD2,hl,h1,h2,AAF,↓reduceIte]
 | some p =>
  obtain⟨en,b,o,its,m,h1,h2,_⟩:=he.hit hz
  refine⟨some en.val,?_,rfl⟩
  simp only[AD2,hl,h1]
theorem ns_at(hl:K.lookup a=some ⟨.type "dict",none,.dict es n,#[]⟩)(he:oA P K es.toList kvs)(hz:kvs.find? (λp=>p.1==z)=some p):∃b,AD2 K a z=some (some (.ref b))/\∀H,SqT K H b (p.2.map V.str):=by
 obtain⟨en,b,o,its,m,h1,h2,h3,h4,h5,h6,h7,h8⟩:=he.hit hz
 refine⟨b,?_,λH=>.inr ⟨o,its,m,h3,h4,h5,h6,h7,h8⟩⟩
 simp only[AD2,hl,h1,h2]
end
theorem xR{K:AA5}{ρ:List Addr}{H:Hp}:∀xs:List Str,Reps K ρ H (xs.map D.str) (xs.map V.str)
 | []=>.nil
 | x::xs=>.cons (.str x) (xR xs)
def dGIn(neg:Bool)(kvs:List (Str×List Str))(te:DTE):DTE:=λS M Q=>te S M λd M1=>match d with
 | .str z=>Q (.bl ((kvs.any λp=>p.1==z) != neg)) M1
 | _=>False
def Cl(kvs:List (Str×List Str))(te:DTE):DTE:=λS M Q=>te S M λd M1=>match d with
 | .str z=>∃p,kvs.find? (λp=>p.1==z)=some p/\Q (.tup (p.2.map .str)) M1
 | _=>False
def rGIn(neg:Bool)(a:Addr)(kvs:List (Str×List Str)):R2:=λx y H R=>∃z,x=.str z/\y=.ref a/\R (.bl ((kvs.any λp=>p.1==z) != neg)) H
def GQ(K:AA5)(a:Addr)(kvs:List (Str×List Str)):R2:=λx y H R=>∃z p,x=.ref a/\y=.str z/\kvs.find? (λp=>p.1==z)=some p/\∀b,SqT K H b (p.2.map V.str)->R (.ref b) H
section
variable{X:Cx}{e:Expr}{te:DTE}{x:Str}{p pos:Pos}{a:Addr}{es:Array DictEntry}{n:Nat}{kvs:List (Str×List Str)}
theorem Bq{K:AA5}{neg:Bool}(σ:St)(H:Hp)(R:VK)(h:lowE K (dGIn neg kvs te) σ H R):tOp (rGIn neg a kvs) (lowE K te) (tC (.ref a)) σ H R:=by
 obtain⟨S,M,ρ,Q,s,sr,q,k⟩:=h
 refine⟨S,M,ρ,_,s,sr,q,λv H' ⟨d,M1,ρ1,s1,g1,r1,q1⟩=>?_⟩
 cases d with
 | str z =>
  obtain rfl:=Rep.inv_str r1
  exact⟨z,rfl,rfl,k _ _ ⟨.bl _,M1,ρ1,s1,g1,.bl _,q1⟩⟩
 | _=>exact q1.elim
theorem yM{K:AA5}(σ:St)(H:Hp)(R:VK)(h:lowE K (Cl kvs te) σ H R):tOp (GQ K a kvs) (tC (.ref a)) (lowE K te) σ H R:=by
 obtain⟨S,M,ρ,Q,s,sr,q,k⟩:=h
 refine⟨S,M,ρ,_,s,sr,q,λv H' ⟨d,M1,ρ1,s1,g1,r1,q1⟩=>?_⟩
 cases d with
 | str z =>
  obtain⟨p,hp,q2⟩:=q1
  obtain rfl:=Rep.inv_str r1
  exact⟨z,p,rfl,rfl,hp,λb hb=>k _ _ ⟨.tup (p.2.map .str),M1,ρ1,s1,g1,.tup hb (xR p.2),q2⟩⟩
 | _=>exact q1.elim
theorem yw(lo:(a==sysModules)=false)(hl:X.K.lookup a=some ⟨.type "dict",none,.dict es n,#[]⟩)(he:oA X.w.params X.K es.toList kvs):OpR X (compareOp .NotIn) (rGIn true a kvs):=by
 intro pins s σ H x y v u R I r1 r2 ⟨z,e1,e2,q⟩
 subst e1;subst e2
 obtain⟨t,rfl⟩:=r1
 obtain rfl:u=AB3 a:=r2
 obtain⟨r,hr,e⟩:=ns_in (z:=z) hl he
 refine wpAny_notIn_of (strKind_is X.prog X.w z t) lo (mapOf_K (prog:=X.prog) (w:=X.w) I.kIn hl he.lit) ?_
 show EP X pins σ R (.bool (!(findBy Value.isStrOf es z).isSome)) _
 rw[find_K hl hr,e]
 rw[show ∀b:Bool,(b != true) = !b from λb=>by cases b<;>rfl]at q
 exact⟨.bl _,H,I.tok _,rfl,q⟩
theorem Fe(hl:X.K.lookup a=some ⟨.type "dict",none,.dict es n,#[]⟩)(he:oA X.w.params X.K es.toList kvs):IxR X (GQ X.K a kvs):=by
 intro value slice pins s σ H x y v u R I r1 r2 ⟨z,p,e1,e2,hp,q⟩ hs
 subst e1;subst e2
 obtain⟨t,rfl⟩:=r2
 obtain rfl:v=AB3 a:=r1
 obtain⟨b,hb,hq⟩:=ns_at hl he hp
 have hm:=mapOf_K (prog:=X.prog) (w:=X.w) I.kIn hl he.lit
 exact tail_any hm.typeIs slot_dict_getitem.lookup (wpAny_getItem_of (strKind_is X.prog X.w z t) hm (find_K hl hb) ⟨.ref b,H,I.tok _,rfl,q b (hq H)⟩) hs
theorem Ii(G:Cz X.w X.K X.mg x kvs)(h:HE X e te)(hg:X.env.kindOf x=some .globalImplicit:=by kernel_rfl)(hb:(x==("__debug__":Str))=false:=by kernel_rfl)(hm:behindInMarks .NotIn (.Name x p)=false:=by kernel_rfl):HT X (.Compare e [.NotIn] [.Name x p] pos) (ak (dGIn true kvs te)):=by
 obtain⟨a,es,n,h1,lo,hl,he⟩:=G
 exact⟨PT.imp (xY (yw lo hl he) h.ok (su (v:=.ref a) hg h1 rfl hb) hm) λσ H R h=>by
  obtain⟨S,M,ρ,Q,s,sr,q,k⟩:=gv σ H R h
  exact Bq σ H _ ⟨S,M,ρ,Q,s,sr,q,k⟩⟩
theorem IB(G:Cz X.w X.K X.mg x kvs)(h:HE X e te)(hg:X.env.kindOf x=some .globalImplicit:=by kernel_rfl)(hb:(x==("__debug__":Str))=false:=by kernel_rfl)(hs:ou e:=by intro _ _;kernel_rfl):HE X (.Subscript (.Name x p) e pos) (Cl kvs te):=by
 obtain⟨a,es,n,h1,lo,hl,he⟩:=G
 exact⟨PE.imp (Hm (Fe hl he) (su (v:=.ref a) hg h1 rfl hb) h.ok hs) yM⟩
end
end L2
namespace L2
open PySem PySem.Spec PyProof.Rows DL PySem.W
abbrev EE(M:Mem)(R:DK):DEnds:=⟨λ_ M'=>aq M R .non M',aq M R,λ_ _=>False,λ_ _=>False⟩
def dst(n:Nat)(ds:List D):SD:=ds.map some++ADv (n-ds.length) none
abbrev WpT(Pr:DSp)(n:Nat)(t:DTS):Prop:=∀ds M R,Pr ds M R->t (EE M R) (dst n ds) M
abbrev bY(Pr:DSp)(p:List Str):Prop:=∀ds M R,Pr ds M R->ds.length=p.length
abbrev DerT(P:Program)(w:World)(K:AA5)(mg:Str->Option Value)(base:Heap)(k:Nat)(x:Str)(N:List Str)(st:Stmt)(t:DTS):Prop :=
 ∀(f:Addr) (cdv:Value) (A:Around) (outer:List Env) (s:Shared) (H:Hp) (E:XK),Room k (A.deeper (PyProof.Rows.envOfC x (ay st) s.heap.objs.size f cdv))->HB (wM CX0 P w K mg base N x (ay st) f cdv A outer s H E).nox (bH st) t
end L2
namespace L2
open PySem PySem.Spec PyProof.Rows DL PySem.W
section
variable{X:Cx}{c:Expr}{body:List Stmt}{tc:DTT}{tb:DTS}{pos:Pos}
end
end L2
namespace L2
open PySem PySem.Spec PyProof.Rows DL PySem.W
theorem mV:typeLookup (.type "tuple") "keys" = pure none:=by rw[typeLookup_type,AE0];kernel_rfl
section
variable{prog:Program}{w:World}{A:Around}{E:Value->Shared->Prop}{h:Heap}{g:Array GenState}{d:Drawn}{t:Nat}{os:OsState}{a:Addr}{o:Obj}
theorem AE(hx:h.get? a=some o)(hc:o.cls=.type "tuple")(hdict:o.dict=none)(hdat:o.data=.seq its nn)(hA:A.handled=none)(hq:∀h' tk e,Heap.NewAttrErr h h' e (.ref a) "keys"->R (.error (.ref e)) ⟨h',g,d,tk,os⟩) :
  codeAny (model prog w) A (.call (.builtin "tuple.__getattribute__") ⟨[.ref a,.str "keys" u],[]⟩) R ⟨h,g,d,t,os⟩:=by
 obtain⟨oc,od,odt,osl⟩:=o
 obtain rfl:oc=.type "tuple":=hc
 obtain rfl:od=none:=hdict
 obtain rfl:odt=.seq its nn:=hdat
 have hT:(⟨h,g,d,t,os⟩:Shared).TypeIs (.ref a) "tuple":=⟨_,hx,rfl⟩
 have f4:=mV
 refine codeAny_call_builtin ABt.plain PySem.F.entry_tuple_ga (ABt.check _ _ _ _ _ _ _ _ hT (PySem.F.args_tuple_getattribute_2 _ _) ?_)
 unfold Builtin.«object.__getattribute__»
 repeat (any_goals (first | assumption | wp_step))
 refine wpAny_raiseAttrError (o:=.ref a) (name:="keys") (by first | exact hA | simpa using hA) hq ?_
 exact attrMsg_fits (by decide +kernel) (by size_fits)
theorem vN(hx:h.get? a=some o)(hc:o.cls=.type "tuple")(hdict:o.dict=none)(hdat:o.data=.seq its nn)(hA:A.handled=none)(hq:∀h' tk,(∀b ob,h.get? b=some ob->h'.get? b=some ob)->Q none ⟨h',g,d,tk,os⟩) :
  wpAny (model prog w) A (getAttr? (.ref a) "keys") Q E ⟨h,g,d,t,os⟩:=by
 obtain⟨oc,od,odt,osl⟩:=o
 obtain rfl:oc=.type "tuple":=hc
 obtain rfl:od=none:=hdict
 obtain rfl:odt=.seq its nn:=hdat
 have hT:∀tk,(⟨h,g,d,tk,os⟩:Shared).TypeIs (.ref a) "tuple":=λ_=>⟨_,hx,rfl⟩
 have f1:=sub_AttributeError
 have f2:=ABt.lookup
 have f3:=ABt.bind (.ref a)
 have f5:=PySem.am_tuple_getattr_none
 unfold getAttr? getAttrBy? getAttrBy
 repeat (any_goals (first | assumption | exact hT _ | wp_step))
 refine AE hx rfl rfl rfl (by first | exact hA | simpa using hA) λh' tk e hx'=>?_
 obtain⟨t',u',he⟩:=hx'.there
 unfold getattributeRaised
 repeat (any_goals (first | assumption | wp_step))
 exact hq _ _ hx'.keeps
end
section
variable{X:Cx}{pins:List (Addr×Obj)}{σ:St}{H:Hp}{ρ:List Addr}{M:Mem}{A:Around}{E:Value->Shared->Prop}{s:Shared}
theorem Inv.tupN(I:Inv X pins σ H s)(h:SqT X.K H a xs):∃its:List Value,ax xs its/\Cw s.heap a its.toArray/\xs.length<=sizeLine:=by
 rcases h with h | ⟨o,its,n,hk,hc,hd,hs,hz,r⟩
 ·obtain⟨z,its,r,p⟩:=h.ok I.hok
  exact⟨its,r,p,z⟩
 ·refine⟨its.toList,r,⟨o,I.kIn a o hk,hc,⟨n,by simpa using hs⟩,hd⟩,?_⟩
  have e:=r.length
  simp only[AAO]at e
  lia
theorem Cr(I:Inv X pins σ H s)(hu:A.units+30<cLine)(hh:A.handled=none)(hl:s.heap.IsTuple l its)(hol:s.heap.get? l=some ol)(hdict:ol.dict=none)(ps:List (D×D))(hm:ps.length=its.size)
  (hval:∀(i:Nat) v,its[i]?=some v->∃p:D×D,ps[i]?=some p/\(∃vv,Rep X.K ρ H (.tup [p.1,p.2]) vv/\aK vv v)/\cK 8 p.1=true/\gI p.1=true) (hb:its.size<=1000)
  (h:∀h' tk xs,(∀b u,s.heap.get? b=some u->h'.get? b=some u)->DD X ρ H h' s.heap.objs.size (dictOf ps) xs->Q (.ref s.heap.objs.size) { s with heap:=h',toks:=tk }) :
  wpAny (model X.prog X.w) A (call (.type "dict") [.ref l]) Q E s:=by
 refine callType_codes (Q₁:=λobj s₁=>obj=.ref s.heap.objs.size/\s₁={ s with heap:=s.heap.push { cls:=.type "dict",data:=.dict #[] } }) PySem.F.kt_called_dict (PySem.F.kt_typeCall_dict_1 _) PySem.F.entry_dict_init (kt_code_dict_new _ ⟨rfl,rfl⟩) ?_
 rintro obj s₁ ⟨rfl,rfl⟩
 have hS:(s.heap.push { cls:=.type "dict",data:=.dict #[] }).get? s.heap.objs.size=some { cls:=.type "dict",data:=.dict #[] }:=AAE _ rfl
 have hT:AD8 { s with heap:=s.heap.push { cls:=.type "dict",data:=.dict #[] } } (.ref s.heap.objs.size) "dict":=⟨_,hS,rfl⟩
 obtain⟨ol',e1,hcl,nn,hdd⟩:=id hl
 obtain rfl:ol'=ol:=AAR (e1.symm.trans hol)
 have hol':(s.heap.push { cls:=.type "dict",data:=.dict #[] }).get? l=some ol':=AA4 _ hol
 have hTl:AD8 { s with heap:=s.heap.push { cls:=.type "dict",data:=.dict #[] } } (.ref l) "tuple":=⟨ol',hol',hcl⟩
 have ll:l<s.heap.objs.size:=AAG hol
 refine⟨hT,PySem.F.args_dict_init_2 _ _,?_⟩
 unfold Builtin.«dict.__init__»
 refine AA0 ?_
 unfold Builtin.Dict.selfAndRest
 refine AA0 (AE1 hT ?_)
 refine(show wpAny _ _ (pure (s.heap.objs.size,[AB3 l])) _ _ _ from AA3 ?_)
 refine(show wpAny _ _ (Builtin.Dict.updateFrom "dict.__init__" s.heap.objs.size (.ref l) [] .none) _ _ _ from ?_)
 unfold Builtin.Dict.updateFrom
 refine AA0 (ACg hTl ?_)
 rw[if_pos (by decide)]
 refine AA0 (vN hol' hcl hdict hdd (by simpa using hh) λh1 tk1 k1=>?_)
 have kp1:∀b u,s.heap.get? b=some u->h1.get? b=some u:=λb u e=>k1 b u (AA4 _ e)
 rw[if_pos (show (none:Option Value).isNone=true from rfl)]
 refine AA0 (ACK ?_)
 obtain⟨oI,St,hit,W,st⟩:=(TxSrc.tuple (prog:=X.prog) (w:=X.w) hl).iter A.in1.in1 { s with heap:=h1,toks:=tk1 } (by simpa using hh) λo e=>kp1 _ _ e
 refine AA0 (hit _ _ ?_)
 have hS1:=k1 _ _ hS
 have lS:s.heap.objs.size<h1.objs.size:=AAG hS1
 have hS0:s.heap.get? s.heap.objs.size=none:=by
  cases q:s.heap.get? s.heap.objs.size with
  | none=>rfl
  | some o=>exact absurd (AAG q) (AAq _)
 refine AA3 ⟨ABu gq _,FM (A:=A.in1) (s:=s) I (by show A.units+1+20<cLine;lia) W s.heap.objs.size ?_ hS0 ?_ ps hm hval hb its.size 0 _ _ [] _ _ rfl (AAT _) st ⟨⟨_,#[],AA4 _ hS1,⟨rfl,rfl,rfl⟩,rfl,rfl⟩,.nil,ACs⟩ (λb u e=>AA4 _ (kp1 b u e)) λh2 tk2 xs k2 dd=>⟨rfl,h h2 tk2 xs k2 dd⟩⟩
 ·simp only[AAH,AAf,or_false,not_or]
  exact⟨AAQ lS,ABU ll⟩
 ·intro b hb'
  rw[AAY.mp hb']
  cases q:s.heap.get? h1.objs.size with
  | none=>rfl
  | some o=>exact absurd (ADx (AAG q) lS) (AAq _)
end
section
variable{X:Cx}{k:Nat}
def qk:DRA:=λds M Q=>match ds with
 | [.tup xs]=>∃ps:List (D×D),xs=ps.map (λp=>.tup [p.1,p.2])/\(∀p∈ps,cK 8 p.1=true/\gI p.1=true)/\ps.length<=1000/\Q (.ref M.length) (M++[.dkt (dictOf ps)])
 | _=>False
theorem Cp(hr:Room k X.A)(hc:X.calm=true):iY X (.type "dict") qk:=by
 intro pins s σ H vs us R I rv ⟨ds,M,ρ,Q,sm,rs,q,kk⟩
 have un:=hr.un
 unfold qk at q
 split at q
 ·obtain⟨ps,hL,hk,hl,q⟩:=q
  first | have hzz:=Reps.inv_cons rs | have hzz:=ax.inv_cons rs
  clear rs
  obtain⟨_,_,rfl,r1,rs⟩:=hzz
  cases rs
  obtain⟨u,rfl,e1⟩:=ax.one rv
  subst hL
  obtain⟨a,ws,rfl,hq,r⟩:=Rep.inv_tup r1
  cases e1
  obtain⟨its,rr,pl,hz⟩:=I.tupN hq
  obtain⟨oa,hoa,hca,⟨nn,hdata⟩,hdict⟩:=id pl
  have lw:=r.length
  have li:=rr.length
  rw[AA6]at lw
  have hf:H s.heap.objs.size=none:=I.hok.fresh (AAD _)
  have hb:(s.heap.objs.size==sysModules)=false:=beq_eq_false_iff_ne.mpr (AAz (AAQ I.big))
  refine Cr (A:=X.A) (ρ:=ρ) I (by lia) (I.ok.hd hc) pl.tup hoa hdict ps (by rw[AAB];lia) (λi v hv=>?_) (by rw[AAB];lia) λh' tk xs kp dd=>?_
  ·obtain⟨d,vv,e1,r1,rv1⟩:=rV r rr (i:=i) (u:=v) (by simpa using hv)
   rw[AAU]at e1
   obtain⟨p,hp,rfl⟩:=ABo.mp e1
   exact⟨p,hp,⟨vv,r1,rv1⟩,hk p (AAu hp)⟩
  ·have dl:=io (ps:=ps)
   refine⟨.ref s.heap.objs.size,_,I.laid (a:=s.heap.objs.size) (o:=.ext (dX s.heap.objs.size xs)) (t':=tk) kp (AAD _) (zG dd.dx),rfl,?_⟩
   exact kk _ _ ⟨.ref M.length,M++[.dkt (dictOf ps)],ρ++[s.heap.objs.size],sm.laidM (mo:=.dkt (dictOf ps)) hf ⟨am (by lia),hb,dd.nd,xs,aV,Paired.mapP dd.kv λ_ _ ⟨q1,q2,q3,v,q4,q5⟩=>⟨q1,q2,q3.grow (Grow.laidR hf),v,q4.grow (Grow.laidR hf),q5⟩⟩,Grow.laidR hf,.ref sm.last,q⟩
 ·exact q.elim
theorem BV(hr:Room k X.A)(hc:X.calm=true:=by kernel_rfl):HC X (.type "dict") qk:=⟨Cp hr hc⟩
end
end L2
namespace L2
open PySem PySem.Spec PyProof.Rows DL PySem.W
inductive TopB(mg:Str->Option Value):List Str->List (Str×Int)->Prop
 | nil:TopB mg [] []
 | b {x:Str}{B:List Str}{C:List (Str×Int)} (h:mg x=none) (t:TopB mg B C):TopB mg (x::B) C
 | c {x:Str}{i:Int}{C:List (Str×Int)} (h:∃t,mg x=some (.int i t)) (t:TopB mg [] C):TopB mg [] ((x,i)::C)
theorem TopB.no(h:TopB mg B C)(c:B.contains x=true):mg x=none:=by
 induction h with
 | nil=>simp at c
 | b h _ ih =>
  simp only[List.contains_cons,ACc,beq_iff_eq]at c
  rcases c with rfl | c
  ·exact h
  ·exact ih c
 | c _ _ _=>simp at c
theorem TopB.gi(h:TopB mg B C)(c:C.lookup x=some i):∃t,mg x=some (.int i t):=by
 induction h with
 | nil=>simp at c
 | b _ _ ih=>exact ih c
 | @c y _ _ h _ ih =>
  rw[ABP]at c
  split at c
  ·rename_i e
   cases c
   rw[beq_iff_eq.mp e]
   exact h
  ·exact ih c
def nodB:List Str->Bool
 | []=>true
 | x::xs=>!xs.contains x&&nodB xs
theorem HV:∀{l:List Str},nodB l=true->l.Nodup
 | [],_=>ACs
 | x::xs,h=>by
  simp only[nodB,AAC,Bool.not_eq_true',List.contains_eq_mem,decide_eq_false_iff_not]at h
  exact AB6.mpr ⟨h.1,HV h.2⟩
def tgN:Expr->List Str
 | .Name x _=>[x]
 | .Tuple es _ _=>es.filterMap fun | .Name x _=>some x | _=>none
 | _=>[]
abbrev lcN(N:List Str)(js:List Nat)(tg:Expr):List Str:=tgN tg++js.map λj=>N.getD j ""
section
variable{X:Cx}{tg iter elt:Expr}{ifs:List Expr}{scope:Scope}{nt i:Nat}{js:List Nat}{di:DTI}{g:DTG}{tt:DTT}{te:DTE}{pos pos' pos2:Pos}{x:Str}
theorem k_lcN(hi:HI X tg iter di)(hg:∀cl s0 H0 ex,HG (blk X (lcN X.N js tg) scope cl s0 H0 ex) tg g)(ht:∀cl s0 H0 ex,HTs (blk X (lcN X.N js tg) scope cl s0 H0 ex) ifs tt)(he:∀cl s0 H0 ex,HE (blk X (lcN X.N js tg) scope cl s0 H0 ex) elt te)
  (B:mO X.env.scope.names X.N (lcN X.N js tg) nt js scope=true:=by kernel_rfl) (hc:X.calm=true:=by kernel_rfl) (hs:∀x,foldedSetIterable iter X.env x=pure x:=by intro _;kernel_rfl):HE X (.ListComp elt [⟨tg,iter,ifs,0⟩] scope pos) (dLC nt js di g tt te):=k_lc hi hg ht he B hc hs
theorem qL(hN:X.N.Nodup)(hi:HI X tg iter di)(hg:∀cl s0 H0 ex,HG (blk X (lcN X.N js tg) scope cl s0 H0 ex) tg g)(ht:∀cl s0 H0 ex,HTs (blk X (lcN X.N js tg) scope cl s0 H0 ex) ifs tt)(he:∀cl s0 H0 ex,HE (blk X (lcN X.N js tg) scope cl s0 H0 ex) elt te)
  (B:mO X.env.scope.names X.N (lcN X.N js tg) nt js scope=true:=by kernel_rfl) (hc:X.calm=true:=by kernel_rfl) (hs:∀x,foldedSetIterable iter X.env x=pure x:=by intro _;kernel_rfl) (hsw:swapsWith (.ListComp elt [⟨tg,iter,ifs,0⟩] scope pos) (some (.Name x pos')) pos2.line X.env=pure true:=by kernel_rfl)
  (hix:X.N[i]?=some x:=by kernel_rfl) (hx:Gj X.env.scope x=true:=by kernel_rfl) (hf:X.fn x=true:=by kernel_rfl):HS X (.Assign [.Name x pos'] (.ListComp elt [⟨tg,iter,ifs,0⟩] scope pos) pos2) (ls nt js di g tt te i):=BC hN hi hg ht he B hc hs hsw hix hx hf
theorem gA(h:HA X es t):HA X es t:=h
theorem gE(h:HE X e te):HE X e te:=h
theorem gCall(h:HE X (.Call a b c pos) te):HE X (.Call a b c pos) te:=h
theorem gIx(h:HE X (.Subscript a b pos) te):HE X (.Subscript a b pos) te:=h
theorem Je(h:HE X (.Constant a b pos) te):HE X (.Constant a b pos) te:=h
theorem gT(h:HT X e tt):HT X e tt:=h
theorem gS{st:Stmt}{t:DTS}(h:HS X st t):HS X st t:=h
theorem gOp(h:HOp X f r):HOp X f r:=h
theorem gC(h:HC X f r):HC X f r:=h
theorem Fs{b:List Stmt}{st:Stmt}{sts:List Stmt}{t:DTS}(h:b=st::sts)(q:HB X (st::sts) t):HB X b t:=h ▸ q
end
section
variable{P:Program}{w:World}{K:AA5}{mg:Str->Option Value}{base:Heap}{x:Str}{st:Stmt}{N ps:List Str}{k:Nat}{Pr:DSp}{B:List Str}{C:List (Str×Int)}{t:DTS}
theorem Cal.byD(T:TopB mg B C)(F:bE K mg x st ps)(Sc:FnScope N ps (ay st))(len:bY Pr ps)(der:TopB mg B C->N.Nodup->DerT P w K mg base k x N st t)(wp:∀ds M R,Pr ds M R->t (EE M R) (bC N ds) M):Cal P w K mg base (k+1) x ps Pr :=
 Cal.byH F Sc len (der T Sc.nd) wp
theorem BZ(T:TopB mg B C)(F:Fun K x x st f fd)(Sc:FnScope N ps (ay st))(len:bY Pr ps)(der:TopB mg B C->N.Nodup->DerT P w K mg base k x N st t)(wp:∀ds M R,Pr ds M R->t (EE M R) (bC N ds) M):FnOk P w K mg base CX0 (k+1) f fd ps (spL K Pr) :=
 BY F Sc len (der T Sc.nd) wp
end
end L2
namespace L2
open PySem PySem.Spec PyProof.Rows DL PySem.W
section
variable{prog:Program}{w:World}{A:Around}{E:Value->Shared->Prop}{s:Shared}
variable{h₀:Heap}{L kS a:Addr}{m:Str->Option Value}{vs:List Value}
end
section
variable{X:Cx}{pins:List (Addr×Obj)}{σ:St}{H:Hp}{s:Shared}{a:Addr}
structure Own(X:Cx)(pins:List (Addr×Obj))(H:Hp)(a:Addr):Prop where
 un:H a=none
 ne:a≠X.env.locals
 fs:a∉X.fs
 s0:X.s₀.heap.objs.size<=a
 cl:∀x c,X.env.cells.lookup x=some c->c≠a
 pn:∀p∈X.pn++pins,p.1≠a
end
section
variable{X:Cx}{pins:List (Addr×Obj)}{σ:St}{ρ:List Addr}{M:Mem}
structure KySt(X:Cx)(pins:List (Addr×Obj))(σ:St)(ρ:List Addr)(M:Mem)(m:Str->Option Value)(kS aD:Addr)(e1:Nat)(H0 H:Hp)(s:Shared)(ks:List Value)(e:Nat):Prop where
 inv:Inv X pins σ H s
 ns:s.heap.Ns X.env.locals m
 sm:Sim X.K ρ M H
 gr:Grow X.K ρ H0 ρ H
 hk:s.heap.get? kS=some (seqObj "list" (AEL ks) e)
 hd:s.heap.get? aD=some (seqObj "list" #[] e1)
 ok:Own X pins H kS
 od:Own X pins H aD
 ne:aD≠kS
end
end L2
namespace L2
open PySem PySem.Spec PyProof.Rows DL PySem.W
end L2
namespace L2
open PySem PySem.Spec PyProof.Rows DL PySem.W
structure BlkScC(X:Cx)(N':List Str)(nt:Nat)(js:List Nat)(scope:Scope):Prop where
 kind:scope.kind=.function
 kinds:∀y∈scope.names,scope.names.lookup y.1=some y.2
 free:∀y∈scope.names,y.2=.free->(X.env.kindOf y.1=some .cell\/X.env.kindOf y.1=some .free)
 len:N'.length=nt+js.length
 fr:∀(k j:Nat),js[k]?=some j->∃x,N'[nt+k]?=some x/\X.N[j]?=some x/\scope.names.lookup x=some .free/\(X.env.kindOf x=some .cell\/X.env.kindOf x=some .free)
def Ac(nm:List (Str×NameKind))(N N':List Str)(nt:Nat)(js:List Nat)(sc:Scope):Bool :=
 sc.kind==.function&&sc.names.all (λy=>sc.names.lookup y.1==some y.2&&(y.2 != .free||(nm.lookup y.1==some .cell||nm.lookup y.1==some .free))) &&
 N'.length==nt+js.length&&(AAe js.length).all λk=>match js[k]?,N'[nt+k]? with
  | some j,some x=>N[j]?==some x&&sc.names.lookup x==some .free&&(nm.lookup x==some .cell||nm.lookup x==some .free)
  | _,_=>false
theorem BlkScC.chk(h:Ac X.env.scope.names X.N N' nt js scope=true):BlkScC X N' nt js scope:=by
 unfold Ac at h
 simp only[AAC,AAK,beq_iff_eq,ACc,bne_iff_ne]at h
 obtain⟨⟨⟨h1,h2⟩,h3⟩,h4⟩:=h
 refine⟨h1,λy hy=>(h2 y hy).1,λy hy e=>((h2 y hy).2.resolve_left (λz=>z e)),h3,λk j e=>?_⟩
 have hk:k<js.length:=(AA2.mp e).1
 have q:=h4 k (AAk.mpr hk)
 rw[e]at q
 cases f:N'[nt+k]? with
 | none=>rw[f]at q;exact absurd q (by simp)
 | some x =>
  rw[f]at q
  simp only[AAC,beq_iff_eq,ACc]at q
  exact⟨x,rfl,q.1.1,q.1.2,q.2⟩
structure CfOk(h:Heap)(k:Nat)(names:List (Str×NameKind))(acc cs:List (Str×Addr)):Prop where
 look:∀z c,cs.lookup z=some c->(acc.lookup z=some c/\(z,ACj)∉names)\/((z,ACj)∈names/\k<=c/\h.IsCell c none)
 inj:∀y z c,cs.lookup y=some c->cs.lookup z=some c->y=z
 old:∀z c,acc.lookup z=some c->∃c',cs.lookup z=some c'
 new:∀z,(z,ACj)∈names->∃c,cs.lookup z=some c
section
variable{X:Cx}{pins:List (Addr×Obj)}{σ:St}{H:Hp}{s:Shared}
end
section
variable{X:Cx}
end
def FI(i:Nat):DTG:=ar i
section
variable{X:Cx}{tg iter elt:Expr}{ifs:List Expr}{scope:Scope}{nt i:Nat}{js:List Nat}{di:DTI}{g:DTG}{tt:DTT}{te:DTE}{pos:Pos}{x:Str}
end
end L2
namespace LW
open PySem L2
local macro_rules | `(tactic| walk_at "sc")=>`(tactic| exact⟨rfl,rfl,rfl,by decide +kernel,rfl,by decide +kernel,by decide +kernel⟩)
local macro_rules | `(tactic| walk_at "dl")=>`(tactic| simp only[EE,aC,dIf,dF,zS,dOr,ak,dCB,aa,ac,aA,bj,JF,zR,dLC,lh,bK,ar,aF,bT,rj,tN,dOp,dUn,cA,dC,ab,dE,dB,dSl,cb,aU,dMs,dMl,cL,ip,qo,qAdd,aJ,An,jX,nk,vS,GR,qLt,GS,qLe,qGt,qGe,qIs,qEq,qNe,eK,fj,AN,Gh,qIx,qSl,dY,dAsg,Cg,eY,aR,eZ,dZip,ke,xV,fh,wC,gL,Ck,dGIn,Cl,FI,qk,jZ,eO,Go,rp,CK,sk,jY,ls,at0,at1,at2,tyD,dst,bC,Gn,AAM,ACh,AC4,AAr,ABa,ABB,AAA,AAW,ACE,List.replicate_succ,ADf,List.set_cons_succ,ABy,Nat.reduceAdd,Nat.reduceSub,ACP,if_true,if_false,AAF])
def top(i:Nat):Stmt:=PySem.Challenge.pw_talkmarks_k12_deeds.main.body.getD i (.Pass ⟨0,0,0,0⟩)
abbrev B_:List Str:=["int","isinstance","bool","tuple","len","range","all","ord","str","zip","sorted","list","set","dict"]
abbrev C_:List (Str×Int):=[("LONGEST_NAME",8),("LONGEST_SAYING",60),("FIRST_SIGN",32),("LAST_SIGN",126)]
def aE:List (Str×List Str):=[(AA1 "say",[AA1 "room",AA1 "under",AA1 "saying"]),(AA1 "change",[AA1 "message",AA1 "saying"]),(AA1 "back",[AA1 "message"]),(AA1 "like",[AA1 "message",AA1 "sort",AA1 "on"]),(AA1 "read",[AA1 "room",AA1 "vector"]),(AA1 "seen",[AA1 "message"]),(AA1 "hush",[AA1 "what",AA1 "on"]),(AA1 "rung",[AA1 "message"])]
abbrev ic:List Str:=["thing"]
abbrev ck:List Str:=["least","thing"]
abbrev dc:List Str:=["many","thing"]
abbrev fG:List Str:=["things"]
abbrev fI:List Str:=["sign"]
abbrev kx:List Str:=["sign"]
abbrev kA:List Str:=["thing"]
abbrev fF:List Str:=["thing"]
abbrev fJ:List Str:=["pairs"]
abbrev ku:List Str:=["house","name"]
abbrev fH:List Str:=["house","thing"]
abbrev ky:List Str:=["house","thing"]
abbrev kC:List Str:=["house","thing"]
abbrev ie:List Str:=["house","thing"]
abbrev cq:List Str:=["house","thing"]
abbrev fE:List Str:=["house","thing"]
abbrev kw:List Str:=["house","thing"]
abbrev kz:List Str:=["house","part","thing"]
abbrev ny:List Str:=["house","thing"]
abbrev kD:List Str:=["house","thing"]
abbrev hV:List Str:=["deed"]
abbrev fB:List Str:=["deed","vector"]
abbrev kE:List Str:=["_law_script","_law_k"]
abbrev yq:List Str:=["_law_well_here","_law_many"]
abbrev Ej:List Str:=["_law_cell","_law_k"]
abbrev yr:List Str:=["_law_cell","_law_k"]
abbrev yp:List Str:=["_law_cell","_law_k"]
abbrev sy:List Str:=["_law_script","_law_start","_law_most"]
abbrev yl:List Str:=["_law_well_here"]
abbrev sw:List Str:=["_law_well_here","_law_many"]
abbrev sD:List Str:=["_law_well_here"]
abbrev sE:List Str:=["_law_house_here"]
abbrev nw:List Str:=["_law_well_here","_law_house_here"]
abbrev sC:List Str:=["_law_well_here","_law_house_here","_law_stamps"]
abbrev nv:List Str:=["_law_well_here","_law_house_here"]
abbrev yo:List Str:=["_law_well_here","_law_house_here","_law_stamps"]
abbrev Ek:List Str:=["_law_well_here","_law_house_here","_law_stamps"]
abbrev sB:List Str:=["_law_well_here","_law_depth"]
abbrev yu:List Str:=["_law_thing_here","_law_well_here","_law_depth"]
abbrev ef:List Str:=["_law_thing_here","_law_low"]
abbrev fy:List Str:=["_law_house_here","_law_thing_here"]
abbrev er:List Str:=["_law_house_here","_law_thing_here"]
abbrev da:List Str:=["_law_house_here","_law_thing_here"]
abbrev fx:List Str:=["_law_thing_here"]
abbrev db:List Str:=["_law_thing_here"]
abbrev fv:List Str:=["_law_house_here","_law_thing_here"]
abbrev fu:List Str:=["_law_house_here","_law_thing_here"]
abbrev hZ:List Str:=["_law_house_here","_law_thing_here"]
abbrev fA:List Str:=["_law_house_here","_law_thing_here"]
abbrev sA:List Str:=["_law_found","_law_due"]
abbrev sF:List Str:=["_law_well_here","_law_house_here"]
abbrev yt:List Str:=["_law_well_here","_law_house_here","_law_deed"]
abbrev ko:List Str:=["_law_well_here","_law_house_here","_law_deed"]
abbrev Hu:List Str:=["_law_script"]
structure Tops(P:Program)(w:World)(K:AA5)(mg:Str->Option Value)(base:Heap):Prop where
 f_is_whole:bE K mg "is_whole" (top 1) ic
 f_is_whole_from:bE K mg "is_whole_from" (top 2) ck
 f_is_tuple_of:bE K mg "is_tuple_of" (top 3) dc
 f_is_rising:bE K mg "is_rising" (top 4) fG
 f_is_letter:bE K mg "is_letter" (top 10) fI
 f_is_sign:bE K mg "is_sign" (top 11) kx
 f_is_name:bE K mg "is_name" (top 12) kA
 f_is_saying:bE K mg "is_saying" (top 13) fF
 f_firsts_of:bE K mg "firsts_of" (top 15) fJ
 f_many_of:bE K mg "many_of" (top 16) ku
 f_is_person:bE K mg "is_person" (top 17) fH
 f_is_room:bE K mg "is_room" (top 18) ky
 f_is_hand:bE K mg "is_hand" (top 19) kC
 f_is_stamp:bE K mg "is_stamp" (top 22) ie
 f_is_hand_count:bE K mg "is_hand_count" (top 23) cq
 f_is_vector:bE K mg "is_vector" (top 24) fE
 f_is_what:bE K mg "is_what" (top 25) kw
 f_is_part:bE K mg "is_part" (top 26) kz
 f_is_act:bE K mg "is_act" (top 27) ny
 f_is_deed:bE K mg "is_deed" (top 28) kD
 f_stamp_of:bE K mg "stamp_of" (top 29) hV
 f_is_within:bE K mg "is_within" (top 30) fB
 f_cell_at:bE K mg "_law_cell_at" (top 32) kE
 f_take:bE K mg "_law_take" (top 33) yq
 f_mix:bE K mg "_law_mix" (top 34) Ej
 f_rich:bE K mg "_law_rich" (top 35) yr
 f_well:bE K mg "_law_well" (top 36) yp
 f_wells:bE K mg "_law_wells" (top 37) sy
 f_word:bE K mg "_law_word" (top 38) yl
 f_words:bE K mg "_law_words" (top 39) sw
 f_house:bE K mg "_law_house" (top 40) sD
 f_hands:bE K mg "_law_hands" (top 41) sE
 f_saying:bE K mg "_law_saying" (top 42) nw
 f_stamp:bE K mg "_law_stamp" (top 43) sC
 f_vector:bE K mg "_law_vector" (top 44) nv
 f_what:bE K mg "_law_what" (top 45) yo
 f_act:bE K mg "_law_act" (top 46) Ek
 f_thing:bE K mg "_law_thing" (top 47) sB
 f_bent:bE K mg "_law_bent" (top 48) yu
 f_l_is_whole:bE K mg "_law_is_whole" (top 49) ef
 f_l_is_hand:bE K mg "_law_is_hand" (top 50) fy
 f_l_is_stamp:bE K mg "_law_is_stamp" (top 51) er
 f_l_is_vector:bE K mg "_law_is_vector" (top 52) da
 f_l_is_name:bE K mg "_law_is_name" (top 53) fx
 f_l_is_saying:bE K mg "_law_is_saying" (top 54) db
 f_l_is_room:bE K mg "_law_is_room" (top 55) fv
 f_l_is_what:bE K mg "_law_is_what" (top 56) fu
 f_l_is_act:bE K mg "_law_is_act" (top 57) hZ
 f_l_is_deed:bE K mg "_law_is_deed" (top 58) fA
 f_truth:bE K mg "_law_truth" (top 59) sA
 f_drawn:bE K mg "_law_drawn" (top 60) sF
 f_near:bE K mg "_law_near" (top 61) yt
 f_of_deed:bE K mg "_law_of_deed" (top 62) ko
 f_law:bE K mg "law" (top 63) Hu
 g_ACT_PARTS:Cz w K mg "ACT_PARTS" aE
 b:TopB mg B_ C_
local macro_rules | `(tactic| walk_at "bb")=>`(tactic| first | exact JR | exact Gb | exact Ga | exact JQ | exact oj | exact JP | exact FZ | exact JO | exact Ae | exact JN | exact Ct)
local macro_rules | `(tactic| walk_at "tb")=>`(tactic| exact TopB.no (by k_dflt assumption) (by kernel_rfl))
local macro_rules | `(tactic| walk_at "dv")=>`(tactic| (intro _ _ _ _ _ _ _ _ _ _;refine Fs rfl ?_;repeat' (first | (with_reducible first | (refine gA ?_;first | exact Iz | refine EU ?_ ?_) | exact k_var | (refine Je ?_;first | exact k_int | exact k_bl | exact k_non | exact k_str) | (refine gCall ?_;first | refine ww (by k_dflt assumption) ?_ (by walk_at "tb") (by walk_at "tb") | refine tw (by k_dflt assumption) ?_ (by walk_at "tb") | refine EZ ?_ (by walk_at "tb") (by walk_at "bb") ?_ | refine BI ?_ (by walk_at "tb") (by walk_at "bb") ?_ | refine k_cal (by k_dflt assumption) (by k_dflt assumption) ?_ (hj:=Nat.ble_eq_true_of_le (by lia)) | refine k_ms ?_ ?_ ?_ | refine k_ml ?_ ?_ ?_) | (refine gIx ?_;first | refine IB (by k_dflt assumption) ?_ (hs:=by k_dflt (intro _ _;kernel_rfl)) | refine EV ?_ ?_ ?_ | refine k_ix ?_ ?_ (hs:=by k_dflt (intro _ _;kernel_rfl))) | (refine gT ?_;first | refine Ii (by k_dflt assumption) ?_ | refine Ij ?_ ?_ ?_ | refine BB ?_ ?_ ?_ ?_ ?_ | refine Ih ?_ | refine kw_t (CO ?_ ?_) | refine kw_t (Ic ?_ ?_) | refine Ig ?_) | (refine gE ?_;first | exact EX | exact EW (TopB.gi (by k_dflt assumption) (by kernel_rfl)) | exact IA (by walk_at "tb") (by walk_at "bb") | refine k_op ?_ ?_ ?_ | refine k_un IG ?_ | refine k_not ?_ | refine k_cmp ?_ ?_ ?_ | refine EY ?_ ?_ ?_ ?_ ?_ | refine k_one ?_ | refine k_and ?_ ?_ | refine k_or ?_ ?_ | refine k_tup ?_ | refine k_lst ?_ | refine k_lcN ?_ (λ_ _ _ _=>?_) (λ_ _ _ _=>?_) (λ_ _ _ _=>?_)) | (refine gS ?_;first | refine zc ?_ | refine CS ?_ | refine Im ?_ ?_ ?_ | refine qL (by k_dflt assumption) ?_ (λ_ _ _ _=>?_) (λ_ _ _ _=>?_) (λ_ _ _ _=>?_) | refine CQ (by k_dflt assumption) ?_ | refine CU ?_ ?_ | refine zb (by k_dflt assumption) ?_ ?_ ?_ | refine zd (by k_dflt assumption) ?_ ?_ ?_ | refine CT ?_ ?_ ?_) | (refine gOp ?_;first | exact Fk | exact ho_eq (by k_dflt assumption) | exact Fj | exact ho_ge | exact ho_gt | exact ho_in (by k_dflt assumption) | exact ho_is | exact ho_le | exact ho_lt | exact IL (by k_dflt assumption) | exact IK | exact IJ | exact ho_ne (by k_dflt assumption) | exact BN (by k_dflt assumption) | exact II | exact IH) | (refine gC ?_;first | exact IX | exact BV (by k_dflt assumption) | exact IW | exact IV | exact Fq | exact IU | exact zy (by k_dflt assumption) | exact BU) | exact Il | exact EL | exact EQ | exact ES | refine Ik ?_ | refine CO ?_ ?_ | refine Ic ?_ ?_ | refine EH ?_ | refine Ib ?_ | refine EK ?_ | refine EO ?_ | refine zf (by walk_at "tb") ?_ | refine ze (by walk_at "tb") ?_ | refine Io (by walk_at "tb") ?_ | refine Ip ?_ | exact ET (by k_dflt assumption) | exact Iu (HV (by kernel_rfl)) | refine BE ?_ ?_ | refine Iq ?_ | refine Ir ?_ ?_ | exact zu | exact zt | exact BO | exact zr | exact Fl) | refine EN ?_ ?_ | refine zc ?_ | refine CS ?_ | refine Im ?_ ?_ ?_ | refine qL (by k_dflt assumption) ?_ (λ_ _ _ _=>?_) (λ_ _ _ _=>?_) (λ_ _ _ _=>?_) | refine CQ (by k_dflt assumption) ?_ | refine CU ?_ ?_ | refine zb (by k_dflt assumption) ?_ ?_ ?_ | refine zd (by k_dflt assumption) ?_ ?_ ?_ | refine CT ?_ ?_ ?_)))
section
variable{P:Program}{w:World}{K:AA5}{mg:Str->Option Value}{base:Heap}
local macro_rules | `(tactic| walk_at "ifs")=>`(tactic| simp only[qo,AAF,↓reduceIte,AC7,Bool.not_false])
def gdD(M:Mem):Nat->D->Bool
 | _,.str x=>decide (x.length<=1000)
 | _,.ty _=>false
 | n+1,.tup xs=>decide (xs.length<=40)&&xs.all (gdD M n)
 | n+1,.ref i=>match M[i]? with
  | some a=>a.isL&&a.items.all (gdD M n)
  | none=>false
 | 0,.tup _=>false
 | 0,.ref _=>false
 | _,_=>true
theorem gd_ok:∀(n m:Nat) (d:D),n<=m->gdD M n d=true->okD M m d=true:=by
 intro n
 induction n with
 | zero =>
  intro m d _ h
  cases d with
  | tup xs=>cases h
  | ref i=>cases h
  | ty t=>cases h
  | non=>exact nC
  | bl b=>exact mF
  | int i=>exact ae
  | str x=>exact az
 | succ n ih =>
  intro m d hm h
  cases m with
  | zero=>lia
  | succ m =>
   cases d with
   | tup xs =>
    have h':(decide (xs.length<=40)&&xs.all (gdD M n))=true:=h
    rw[AAC,AAK]at h'
    exact yD λx hx=>ih m x (by lia) (h'.2 x hx)
   | ref i =>
    simp only[gdD]at h
    cases e:M[i]? with
    | none=>rw[e]at h;cases h
    | some a =>
     rw[e]at h
     simp only[AAC,AAK]at h
     show (match M[i]? with | some a=>a.isL&&a.items.all (okD M m) | none=>false)=true
     rw[e]
     simp only[AAC,AAK]
     exact⟨h.1,λx hx=>ih m x (by lia) (h.2 x hx)⟩
   | ty t=>cases h
   | non=>exact nC
   | bl b=>exact mF
   | int i=>exact ae
   | str x=>exact az
theorem Ft:∀(n m:Nat) (d:D),n<=m->gdD M n d=true->gdD M m d=true:=by
 intro n
 induction n with
 | zero =>
  intro m d _ h
  cases d with
  | tup xs=>cases h
  | ref i=>cases h
  | ty t=>cases h
  | non=>cases m<;>rfl
  | bl b=>cases m<;>rfl
  | int i=>cases m<;>rfl
  | str x=>cases m<;>exact h
 | succ n ih =>
  intro m d hm h
  cases m with
  | zero=>lia
  | succ m =>
   cases d with
   | tup xs =>
    have h':(decide (xs.length<=40)&&xs.all (gdD M n))=true:=h
    rw[AAC,AAK]at h'
    show (decide (xs.length<=40)&&xs.all (gdD M m))=true
    rw[AAC,AAK]
    exact⟨h'.1,λx hx=>ih m x (by lia) (h'.2 x hx)⟩
   | ref i =>
    simp only[gdD]at h ⊢
    cases e:M[i]? with
    | none=>rw[e]at h;cases h
    | some a =>
     rw[e]at h
     simp only[AAC,AAK]at h ⊢
     exact⟨h.1,λx hx=>ih m x (by lia) (h.2 x hx)⟩
   | ty t=>cases h
   | non=>rfl
   | bl b=>rfl
   | int i=>rfl
   | str x=>exact h
theorem zD(p:M <+: M'):∀(n:Nat) (d:D),gdD M n d=true->gdD M' n d=true:=by
 intro n
 induction n with
 | zero =>
  intro d h
  cases d<;>first | exact h | cases h
 | succ n ih =>
  intro d h
  cases d with
  | tup xs =>
   have h':(decide (xs.length<=40)&&xs.all (gdD M n))=true:=h
   rw[AAC,AAK]at h'
   show (decide (xs.length<=40)&&xs.all (gdD M' n))=true
   rw[AAC,AAK]
   exact⟨h'.1,λx hx=>ih x (h'.2 x hx)⟩
  | ref i =>
   simp only[gdD]at h ⊢
   cases e:M[i]? with
   | none=>rw[e]at h;cases h
   | some a =>
    rw[e]at h
    obtain⟨t,rfl⟩:=p
    rw[AAJ (AA2.mp e).1,e]
    simp only[AAC,AAK]at h ⊢
    exact⟨h.1,λx hx=>ih x (h.2 x hx)⟩
  | _=>exact h
def Gdn(M:Mem)(n:Nat)(d:D):Prop:=n<=30/\gdD M n d=true
theorem Gdn.ok(h:Gdn M n d):okD M eqN d=true:=gd_ok n eqN d h.1 h.2
theorem Gdn.grow(h:Gdn M n d)(p:M <+: M'):Gdn M' n d:=⟨h.1,zD p n d h.2⟩
theorem Gdn.mono(h:Gdn M n d)(p:n<=m)(q:m<=30):Gdn M m d:=⟨q,Ft n m d p h.2⟩
theorem Gdn.tup(h:Gdn M n (.tup xs)):xs.length<=40/\∃m,n=m+1/\∀x∈xs,Gdn M m x:=by
 obtain⟨h0,h⟩:=h
 cases n with
 | zero=>cases h
 | succ n =>
  have h':(decide (xs.length<=40)&&xs.all (gdD M n))=true:=h
  rw[AAC,AAK,decide_eq_true_eq]at h'
  exact⟨h'.1,n,rfl,λx hx=>⟨by lia,h'.2 x hx⟩⟩
theorem Gdn.mk(h:xs.length<=40)(hn:n+1<=30)(hx:∀x∈xs,Gdn M n x):Gdn M (n+1) (.tup xs):=by
 refine⟨hn,?_⟩
 show (decide (xs.length<=40)&&xs.all (gdD M n))=true
 rw[AAC,AAK,decide_eq_true_eq]
 exact⟨h,λx m=>(hx x m).2⟩
theorem Gdn.mkr(h:al M i xs)(hn:n+1<=30)(hx:∀x∈xs,Gdn M n x):Gdn M (n+1) (.ref i):=by
 refine⟨hn,?_⟩
 obtain⟨a,ha,rfl,hl⟩:=h.get
 simp only[gdD,ha,AAC,AAK]
 exact⟨hl,λx m=>(hx x m).2⟩
theorem Gdn.thing(h:Gdn M n d):lC M d:=by
 obtain⟨h0,h⟩:=h
 cases d with
 | non=>exact wZ
 | bl b=>exact AF
 | int i=>exact xc
 | str x=>exact wX (by cases n<;>simpa [gdD]using h)
 | ty t=>cases n<;>cases h
 | tup xs=>exact wW
 | ref i =>
  cases n with
  | zero=>cases h
  | succ n =>
   simp only[gdD]at h
   cases e:M[i]? with
   | none=>rw[e]at h;cases h
   | some a =>
    rw[e]at h
    simp only[AAC]at h
    exact wY (kM e h.1)
theorem mL(h:x.length<=1000)(hn:n<=30):Gdn M n (.str x):=⟨hn,by cases n<;>simp[gdD,h]⟩
theorem qT(hn:n<=30):Gdn M n (.int x):=⟨hn,by cases n<;>rfl⟩
theorem Fu(hn:n<=30):Gdn M n (.bl x):=⟨hn,by cases n<;>rfl⟩
theorem Dd(hn:n<=30):Gdn M n .non:=⟨hn,by cases n<;>rfl⟩
theorem gd_t1(h:n+1<=30)(ha:Gdn M n a):Gdn M (n+1) (.tup [a]):=Gdn.mk (by simp) h λx hx=>by rw[AAY.mp hx];exact ha
theorem gd_t2(h:n+1<=30)(ha:Gdn M n a)(hb:Gdn M n b):Gdn M (n+1) (.tup [a,b]):=Gdn.mk (by simp) h λx hx=>by
 rcases AAH.mp hx with rfl | hx
 ·exact ha
 ·rw[AAY.mp hx];exact hb
theorem gd_t3(h:n+1<=30)(ha:Gdn M n a)(hb:Gdn M n b)(hc:Gdn M n c):Gdn M (n+1) (.tup [a,b,c]):=Gdn.mk (by simp) h λx hx=>by
 rcases AAH.mp hx with rfl | hx
 ·exact ha
 ·rcases AAH.mp hx with rfl | hx
  ·exact hb
  ·rw[AAY.mp hx];exact hc
theorem FT(h:x∈cutD xs lo hi):x∈xs:=ADA (ADB h)
theorem FU:(cutD xs lo hi).length<=xs.length:=by
 unfold cutD
 rw[AAh,ABd];lia
theorem aH{B:Mem}{q:Nat}{x a:MO}(h:B[q]?=some x):(B++[a])[q]?=some x:=by
 rw[AAJ (AA2.mp h).1];exact h
theorem gd_strs{M:Mem}{n:Nat}{xs:List Str}(hn:n<=30)(h:∀x∈xs,x.length<=1000):∀x∈xs.map D.str,Gdn M n x:=λx hx=>by
 obtain⟨y,hy,rfl⟩:=AAN.mp hx
 exact mL (h y hy) hn
theorem gd_all(h:Gdn M n x)(t:∀y∈xs,Gdn M n y):∀y∈x::xs,Gdn M n y:=λy hy=>by
 rcases AAH.mp hy with rfl | hy
 ·exact h
 ·exact t y hy
theorem gd_none:∀y∈([]:List D),Gdn M n y:=λ_ z=>nomatch z
theorem kU{M:Mem}{n:Nat}{xs ys:List D}(h:∀y∈xs,Gdn M n y)(t:∀y∈ys,Gdn M n y):∀y∈xs++ys,Gdn M n y:=λy hy=>(AAl.mp hy).elim (h y) (t y)
theorem gd_grow'{M B:Mem}{n:Nat}{xs:List D}(h:∀y∈xs,Gdn M n y)(p:M <+: B):∀y∈xs,Gdn B n y:=λy hy=>(h y hy).grow p
def aw(p:Str×Int):D:=.tup [.str p.1,.int p.2]
def Hd(d:D):Prop:=∃(x:Str) (k:Int),d=.tup [.str x,.int k]
theorem zx(ha:Hd a)(hb:Hd b):eqD M (n+1) a b=true↔a=b:=by
 obtain⟨x,k,rfl⟩:=ha
 obtain⟨y,l,rfl⟩:=hb
 show (eqD M n (.str x) (.str y)&&(eqD M n (.int k) (.int l)&&true))=true↔_
 rw[bB,bi]
 simp
theorem BT(ha:Hd a):okD M eqN a=true:=by
 obtain⟨x,k,rfl⟩:=ha
 rfl
theorem IR(ha:Hd a):cK 8 a=true:=by
 obtain⟨x,k,rfl⟩:=ha
 rfl
def wL(hs:List (D×Int)):List D:=hs.map λp=>.tup [p.1,.int p.2]
noncomputable def dG(hs:List (D×Int))(hd:D)(num:Int):Bool:=match hs.find? λp=>decide (p.1=hd) with
 | some p=>decide (num<p.2)
 | none=>false
def plD:Nat->D->Bool
 | n+1,.tup xs=>xs.all (plD n)
 | 0,.tup _=>false
 | _,.ref _=>false
 | _,.ty _=>false
 | _,_=>true
def Pln(n:Nat)(d:D):Prop:=plD n d=true
def Cy(n:Nat)(ds:List D):Prop:=ds.all (plD n)=true
theorem Pln.non:Pln n .non:=by cases n<;>rfl
theorem Pln.bl(b:Bool):Pln n (.bl b):=by cases n<;>rfl
theorem Pln.int(i:Int):Pln n (.int i):=by cases n<;>rfl
theorem Pln.str(x:Str):Pln n (.str x):=by cases n<;>rfl
theorem Cy.nil:Cy n []:=rfl
theorem Cy.cons(h:Pln n d)(t:Cy n ds):Cy n (d::ds):=by
 unfold Cy Pln at *
 rw[ABF,h,t];rfl
theorem Pln.tup(h:Cy n ds):Pln (n+1) (.tup ds):=h
theorem Cy.of(h:∀d∈ds,Pln n d):Cy n ds:=AAK.mpr h
theorem yb:∀(n:Nat) (d:D),Pln n d->Bel k d:=by
 intro n
 induction n with
 | zero =>
  intro d h
  cases d with
  | tup xs=>cases h
  | ref i=>cases h
  | ty t=>cases h
  | non=>exact .non
  | bl b=>exact .bl b
  | int i=>exact .int i
  | str x=>exact .str x
 | succ n ih =>
  intro d h
  cases d with
  | tup xs=>exact .tup (Bels.of λx hx=>ih x (AAK.mp h x hx))
  | ref i=>cases h
  | ty t=>cases h
  | non=>exact .non
  | bl b=>exact .bl b
  | int i=>exact .int i
  | str x=>exact .str x
theorem uX:∀{xs:List D},(∀x∈xs,f x x=true)->eqL f xs xs=true
 | [],_=>rfl
 | x::xs,h=>by
  show (f x x&&eqL f xs xs)=true
  rw[h x (by simp),uX λy hy=>h y (AA9 _ hy)];rfl
theorem ya:∀(n m:Nat) (d:D),n<=m->Pln n d->okD M m d=true/\eqD M m d d=true:=by
 intro n
 induction n with
 | zero =>
  intro m d _ h
  cases d with
  | tup xs=>cases h
  | ref i=>cases h
  | ty t=>cases h
  | non=>exact⟨nC,by cases m<;>rfl⟩
  | bl b=>exact⟨mF,by cases m<;>cases b<;>rfl⟩
  | int i=>exact⟨ae,by rw[bi];exact beq_self_eq_true i⟩
  | str x=>exact⟨az,by rw[bB];exact beq_self_eq_true x⟩
 | succ n ih =>
  intro m d hm h
  cases m with
  | zero=>lia
  | succ m =>
   cases d with
   | tup xs=>exact⟨yD λx hx=>(ih m x (by lia) (AAK.mp h x hx)).1,uX λx hx=>(ih m x (by lia) (AAK.mp h x hx)).2⟩
   | ref i=>cases h
   | ty t=>cases h
   | non=>exact⟨nC,rfl⟩
   | bl b=>exact⟨mF,by cases b<;>rfl⟩
   | int i=>exact⟨ae,by rw[bi];exact beq_self_eq_true i⟩
   | str x=>exact⟨az,by rw[bB];exact beq_self_eq_true x⟩
theorem Fp(h:Hd d):Pln (n+1) d:=by
 obtain⟨x,i,rfl⟩:=h
 exact .tup (.cons (.str _) (.cons (.int _) .nil))
theorem IT(h:Hd d):Bel k d:=yb 1 d (Fp h)
def Deed(d:D):Prop:=∃(t:Int) (hd:D) (num:Int) (act:D),d=.tup [.int t,hd,.int num,act]/\Hd hd/\Pln 5 act
theorem FJ(h:Deed d):Pln 6 d:=by
 obtain⟨t,hd,num,act,rfl,hh,ha⟩:=h
 exact .tup (.cons (.int _) (.cons (Fp hh) (.cons (.int _) (.cons ha .nil))))
theorem Ci(h:Deed d):Bel k d:=yb 6 d (FJ h)
theorem JA(h:∀d∈ds,Deed d):Bels k ds:=Bels.of λd hd=>Ci (h d hd)
def handD:D->D
 | .tup (_::h::_)=>h
 | _=>.non
def numD:D->Int
 | .tup (_::_::.int n::_)=>n
 | _=>0
noncomputable def many(log:List D)(hd:D):Nat:=(log.filter λd=>decide (handD d=hd)).length
def HKv(kvs:List (D×D)):Prop:=∀p∈kvs,Hd p.1/\∃i:Int,p.2=.int i
theorem zv(h:HKv kvs)(hk:Hd k):HKv (sn kvs k (.int i)):=by
 unfold sn
 split
 ·intro p hp
  obtain⟨q,hq,rfl⟩:=AAN.mp hp
  split
  ·exact⟨(h q hq).1,i,rfl⟩
  ·exact h q hq
 ·intro p hp
  rcases AAl.mp hp with hp | hp
  ·exact h p hp
  ·rw[AAY.mp hp];exact⟨hk,i,rfl⟩
theorem Fm(h:HKv kvs)(l:kvs.length<64):SrtOk M (bR kvs):=by
 have at_:∀x∈bR kvs,∃z i j,x=.tup [.tup [.str z,.int i],.int j]:=λx hx=>by
  obtain⟨p,hp,rfl⟩:=AAN.mp hx
  obtain⟨⟨z,i,e1⟩,j,e2⟩:=h p hp
  rw[e1,e2]
  exact⟨z,i,j,rfl⟩
 refine⟨by unfold bR;rw[AA6];exact l,λx hx=>?_,λx hx y hy=>?_,.inr (.inr (.inr (.inr λx hx=>?_)))⟩
 ·obtain⟨z,i,j,rfl⟩:=at_ x hx;rfl
 ·obtain⟨z,i,j,rfl⟩:=at_ x hx
  obtain⟨z',i',j',rfl⟩:=at_ y hy
  show (if eqD M 29 (.tup [.str z,.int i]) (.tup [.str z',.int i'])=true then(if eqD M 29 (.int j) (.int j')=true then true else true)else(if eqD M 28 (.str z) (.str z')=true then(if eqD M 28 (.int i) (.int i')=true then true else true)else true))=true
  repeat' split
  all_goals rfl
 ·obtain⟨z,i,j,rfl⟩:=at_ x hx;exact⟨_,_,rfl⟩
theorem hkv_lt(h:HKv kvs)(hx:x∈bR kvs)(hy:y∈bR kvs):ltD M eqN x y=ltD M' eqN x y:=by
 obtain⟨p,hp,rfl⟩:=AAN.mp hx
 obtain⟨q,hq,rfl⟩:=AAN.mp hy
 obtain⟨⟨z,i,e1⟩,j,e2⟩:=h p hp
 obtain⟨⟨z',i',e3⟩,j',e4⟩:=h q hq
 rw[e1,e2,e3,e4]
 rfl
theorem hkv_bel(h:HKv kvs)(p:ys.Perm (bR kvs)):Bels k ys:=Bels.of λd hd=>by
 obtain⟨q,hq,rfl⟩:=AAN.mp (p.mem_iff.mp hd)
 obtain⟨e1,j,e2⟩:=h q hq
 rw[e2]
 exact .tup (.cons (IT e1) (.cons (.int _) .nil))
def oR:D->Bool
 | .int _=>true
 | _=>false
def cw:DSp:=λds M R=>∃d,ds=[d]/\tyD M d∈lG/\R (.bl (oR d)) M
theorem qJ:bY cw ic:=by rintro ds M R ⟨d,rfl,_⟩;rfl
def mh:DTS:=aF (bj (dCB eK (aa (ab 0) (aa (dC (.ty "int")) ac))) (zR (dCB eK (aa (ab 0) (aa (dC (.ty "bool")) ac)))))
theorem rQ:WpT cw 1 mh:=by
 rintro ds M R ⟨d,rfl,ht,h⟩
 unfold mh
 cases d with
 | ref n =>
  have e:=bm ht
  simp only[tyD]at e
  walk_at "dl"
  simp only[e]
  exact⟨by decide,ba (aq.now h)⟩
 | ty n=>simp only[tyD]at ht;exact absurd ht (by decide)
 | int i=>walk_at "dl";exact⟨by decide,aI ⟨by decide,aq.now h⟩⟩
 | bl i=>walk_at "dl";exact⟨by decide,aI ⟨by decide,aq.now h⟩⟩
 | _=>walk_at "dl";exact⟨by decide,ba (aq.now h)⟩
theorem kI(T:Tops P w K mg base):Cal P w K mg base 1 "is_whole" ic cw :=
 Cal.byD (N:=["thing"]) T.b T.f_is_whole (by walk_at "sc") qJ (by walk_at "dv") rQ
def aG(k:Int):D->Bool
 | .int i=>decide (k<=i)
 | _=>false
def aQ:DSp:=λds M R=>∃(k:Int) (d:D),ds=[.int k,d]/\tyD M d∈lG/\R (.bl (aG k d)) M
theorem ij:bY aQ ck:=by rintro ds M R ⟨k,d,rfl,_⟩;rfl
def dR:DTS:=aF (bj (dCB cw (aa (ab 1) ac)) (dOp qGe (ab 1) (ab 0)))
theorem iT:WpT aQ 2 dR:=by
 rintro ds M R ⟨k,d,rfl,ht,h⟩
 unfold dR
 walk_at "dl"
 refine⟨d,rfl,ht,?_⟩
 cases d with
 | int i=>simp only[oR,↓reduceIte];exact aq.now h
 | _=>simp only[oR,AAF,↓reduceIte];exact aq.now h
theorem ca(T:Tops P w K mg base):Cal P w K mg base 2 "is_whole_from" ck aQ :=
 Cal.byD (N:=["least","thing"]) T.b T.f_is_whole_from (by walk_at "sc") ij (by have:=kI T;walk_at "dv") iT
def mW(k:Int):D->Bool
 | .tup xs=>(xs.length:Int)==k
 | _=>false
def aM:DSp:=λds M R=>∃(k:Int) (d:D),ds=[.int k,d]/\tyD M d∈lG/\R (.bl (mW k d)) M
theorem kP:bY aM dc:=by rintro ds M R ⟨k,d,rfl,_⟩;rfl
def gg:DTS:=aF (bj (dCB eK (aa (ab 1) (aa (dC (.ty "tuple")) ac))) (dOp qEq (dCB fj (aa (ab 1) ac)) (ab 0)))
theorem lJ:WpT aM 2 gg:=by
 rintro ds M R ⟨k,d,rfl,ht,h⟩
 unfold gg
 cases d with
 | ref n =>
  have e:=bm ht
  simp only[tyD]at e
  walk_at "dl"
  simp only[e]
  exact⟨by decide,ba (aq.now h)⟩
 | ty n=>simp only[tyD]at ht;exact absurd ht (by decide)
 | tup xs=>walk_at "dl";exact⟨by decide,aI ⟨⟨rfl,rfl⟩,aq.now h⟩⟩
 | _=>walk_at "dl";exact⟨by decide,ba (aq.now h)⟩
theorem bu(T:Tops P w K mg base):Cal P w K mg base 1 "is_tuple_of" dc aM :=
 Cal.byD (N:=["many","thing"]) T.b T.f_is_tuple_of (by walk_at "sc") kP (by walk_at "dv") lJ
def cc(M:Mem):List D->Bool
 | a::b::r=>ltD M eqN a b&&cc M (b::r)
 | _=>true
theorem uE(M:Mem):∀xs:List D,((AAe (xs.length-1)).map λi=>ltD M eqN (xs.getD i .non) (xs.getD (i+1) .non)).all id=cc M xs
 | []=>rfl
 | [a]=>rfl
 | a::b::r=>by
  have ih:=uE M (b::r)
  have e:(a::b::r).length-1=(b::r).length-1+1:=by simp
  rw[e,List.range_succ_eq_map,AAM,AAi,ABF]
  show (ltD M eqN a b&&_)=(ltD M eqN a b&&cc M (b::r))
  rw[←ih]
  rfl
theorem GG(h:Go M d xs)(q:Q (.int (xs.length:Int)) M):fj [d] M Q:=by
 rcases h with⟨n,rfl,hL⟩ | rfl
 ·exact⟨_,hL,q⟩
 ·exact q
theorem GI{M:Mem}{d:D}{xs:List D}(h:Go M d xs){Q:DK}{i:Int}(h0:0<=i)(h1:i<xs.length)(q:Q (xs.getD i.toNat .non) M):qIx d (.int i) M Q:=by
 have hj:i.toNat<xs.length:=by lia
 have e:atI xs i=some (xs.getD i.toNat .non):=by
  have e0:i=((i.toNat:Nat):Int):=by lia
  have:=aZ (j:=i.toNat) (show xs[i.toNat]?=some (xs.getD i.toNat .non) by simp[hj,AAP])
  rwa [←e0]at this
 rcases h with⟨n,rfl,hL⟩ | rfl
 ·refine⟨_,hL,?_⟩
  rw[e];exact q
 ·show match atI xs i with | some d=>Q d M | none=>False
  rw[e];exact q
theorem Db(ha:Hd a)(hb:Hd b):okD M eqN a=true/\okD M eqN b=true/\iQ M eqN a b=true:=by
 obtain⟨x,k,rfl⟩:=ha
 obtain⟨y,l,rfl⟩:=hb
 refine⟨rfl,rfl,?_⟩
 show (if eqD M 29 (.str x) (.str y)=true then(if eqD M 29 (.int k) (.int l)=true then true else true)else true)=true
 split
 ·split<;>rfl
 ·rfl
def cG:DSp:=λds M R=>∃(d:D) (xs:List D),ds=[d]/\Go M d xs/\(∀x∈xs,Hd x)/\xs.length<=1000/\R (.bl (cc M xs)) M
theorem nO:bY cG fG:=by rintro ds M R ⟨d,xs,rfl,_⟩;rfl
def jD:DTS:=aF (dCB AN (aa (dLC 1 [0] (ip (aa (dC (.int 1)) (aa (dCB fj (aa (ab 0) ac)) ac))) (ar 0) lh (dOp GS (dOp qIx (ab 1) (dOp An (ab 0) (dC (.int 1)))) (dOp qIx (ab 1) (ab 0)))) ac))
theorem oN:WpT cG 1 jD:=by
 rintro ds M R ⟨d,xs,rfl,tx,hx,hl,h⟩
 simp only[jD,aF,dCB,aa,ac,dLC,ip,dC,ab,bC,Gn,AAM,ACh,AC4,AAr,ABa,ABB,AAA,AAW,ACE,List.replicate_succ,ABy,ACP]
 refine GG tx ⟨⟨by lia,by lia,by lia,by lia⟩,?_⟩
 have en:(((xs.length:Int)-1).toNat)=xs.length-1:=by lia
 rw[en]
 have hgd:∀i,i<xs.length->Hd (xs.getD i .non):=λi hi=>by
  rw[AAP,AA7 hi]
  exact hx _ (AAo hi)
 refine bw (λk=>match k with | .int i=>.bl (ltD M eqN (xs.getD (i-1).toNat .non) (xs.getD i.toNat .non)) | _=>.non) (λS=>∃a,S=[a,some d]) trivial _ _ _ ?_ ⟨_,rfl⟩ ?_ ?_
 ·rintro y hy S ⟨a,rfl⟩
  obtain⟨i,hi⟩:=AAv hy
  obtain⟨h1,rfl⟩:=gk.mp hi
  refine⟨[some (.int (1+(i:Int))),some d],⟨_,rfl⟩,λY hY=>?_⟩
  simp only[ar,dOp,ab,dC,An,ADf,ABa,ABB,ACP]
  refine GI tx (by lia) (by lia) (GI tx (by lia) (by lia) ?_)
  have ha:=hgd ((1+(i:Int)-1).toNat) (by lia)
  have hb:=hgd ((1+(i:Int)).toNat) (by lia)
  have cm:=Db (M:=M) ha hb
  obtain⟨xa,ka,ea⟩:=ha
  obtain⟨xb,kb,eb⟩:=hb
  have hY':Y (.bl (ltD M eqN (xs.getD (1+(i:Int)-1).toNat .non) (xs.getD (1+(i:Int)).toNat .non))) [some (.int (1+(i:Int))),some d] M:=hY
  rw[ea,eb]at cm hY' ⊢
  exact⟨cm,hY'⟩
 ·simp only[AAW,cx]
  exact am (by lia)
 ·refine⟨(AAe (xs.length-1)).map λi=>ltD M eqN (xs.getD i .non) (xs.getD (i+1) .non),?_,?_⟩
  ·rw[AAr]
   have:(oz 1 (xs.length-1)).map (λk=>match k with | .int i=>D.bl (ltD M eqN (xs.getD (i-1).toNat .non) (xs.getD i.toNat .non)) | _=>.non)=bls ((AAe (xs.length-1)).map λi=>ltD M eqN (xs.getD i .non) (xs.getD (i+1) .non)):=by
    unfold oz bls
    rw[AAi,AAi]
    refine ACm λi _=>?_
    show D.bl _=D.bl _
    rw[show ((1:Int)+(i:Int)-1).toNat=i by lia,show ((1:Int)+(i:Int)).toNat=i+1 by lia]
   rw[this]
   exact af
  ·rw[uE]
   exact aq.bl h nr
theorem qx(T:Tops P w K mg base):Cal P w K mg base 1 "is_rising" fG cG :=
 Cal.byD (N:=["things"]) T.b T.f_is_rising (by walk_at "sc") nO (by walk_at "dv") oN
def dj(x:Str):Bool:=!bt x "a" && !bt "z" x
def cI:DSp:=λds M R=>∃x:Str,ds=[.str x]/\R (.bl (dj x)) M
theorem nQ:bY cI fI:=by rintro ds M R ⟨x,rfl,_⟩;rfl
def jN:DTS:=aF (cA qLe qLe (dC (.str "a")) (ab 0) (dC (.str "z")))
theorem oP:WpT cI 1 jN:=by
 rintro ds M R ⟨x,rfl,h⟩
 unfold jN
 walk_at "dl"
 unfold dj at h
 cases e:bt x "a" with
 | true=>rw[e]at h;exact ba (aq.now h)
 | false=>rw[e]at h;exact aI (aq.now h)
theorem qz(T:Tops P w K mg base):Cal P w K mg base 1 "is_letter" fI cI :=
 Cal.byD (N:=["sign"]) T.b T.f_is_letter (by walk_at "sc") nQ (by walk_at "dv") oP
def gZ(c:Nat):Bool:=decide (32<=c)&&decide (c<=126)
def eT:DSp:=λds M R=>∃c:Nat,ds=[.str ⟨#[c]⟩]/\R (.bl (gZ c)) M
theorem sS:bY eT kx:=by rintro ds M R ⟨x,rfl,_⟩;rfl
def pD:DTS:=aF (cA qLe qLe (dC (.int 32)) (dCB Gh (aa (ab 0) ac)) (dC (.int 126)))
theorem vA:WpT eT 1 pD:=by
 rintro ds M R ⟨c,rfl,h⟩
 unfold pD
 walk_at "dl"
 refine⟨rfl,?_⟩
 rw[show (#[c]:Array Nat).getD 0 0=c from rfl]
 unfold gZ at h
 by_cases h1:32<=c
 ·rw[decide_eq_true h1]at h
  rw[decide_eq_true (show (32:Int)<=(c:Int) by lia)]
  refine aI (aq.now ?_)
  rw[show decide ((c:Int)<=126)=decide (c<=126) by rw[ABm];simp;lia]
  simpa using h
 ·rw[decide_eq_false h1]at h
  rw[decide_eq_false (show ¬(32:Int)<=(c:Int) by lia)]
  exact ba (aq.now (by simpa using h))
theorem vZ(T:Tops P w K mg base):Cal P w K mg base 1 "is_sign" kx eT :=
 Cal.byD (N:=["sign"]) T.b T.f_is_sign (by walk_at "sc") sS (by walk_at "dv") vA
def bG(c:Nat):Bool:=decide (97<=c)&&decide (c<=122)
def kQ:D->Bool
 | .str x=>decide (1<=x.length)&&decide (x.length<=8)&&x.cps.toList.all bG
 | _=>false
theorem qP(c:Nat):dj ⟨#[c]⟩=bG c:=by
 have e1:bt ⟨#[c]⟩ "a" = decide (c<97):=by
  unfold bt
  rw[show (AA1 "a").cps.toList=[97]from by decide +kernel,ABm]
  simp[AB0]
 have e2:bt "z" ⟨#[c]⟩=decide (122<c):=by
  unfold bt
  rw[show (AA1 "z").cps.toList=[122]from by decide +kernel,ABm]
  simp[AB0]
 unfold dj bG
 rw[e1,e2,ABm]
 simp
def eV:DSp:=λds M R=>∃d,ds=[d]/\lC M d/\R (.bl (kQ d)) M
theorem sV:bY eV kA:=by rintro ds M R ⟨x,rfl,_⟩;rfl
theorem xL(x:Str):((signs x).map λd=>match d with | .str y=>D.bl (dj y) | _=>.bl false)=bls (x.cps.toList.map bG):=by
 unfold signs bls
 rw[AAi,AAi]
 refine ACm λc _=>?_
 show D.bl (dj ⟨#[c]⟩)=D.bl (bG c)
 rw[qP]
def jM:DTS:=aF (bj (cA qLe qLe (dC (.int 1)) (dCB fj (aa (ab 0) ac)) (dC (.int 8))) (dCB AN (aa (dLC 1 [] (bK (ab 0)) (ar 0) lh (dCB cI (aa (ab 0) ac))) ac)))
def pG:DTS:=aC (dIf (dF (ak (dCB eK (aa (ab 0) (aa (dC (.ty "str")) ac))))) (aF (dC (.bl false))) aA) (jM)
theorem vD:WpT eV 1 pG:=by
 rintro ds M R ⟨d,rfl,⟨hty,hl⟩,h⟩
 simp only[pG,jM]
 cases d with
 | str x =>
  have hx:=hl x rfl
  walk_at "dl"
  refine⟨by decide,?_⟩
  rw[show eM "str" "str" = true from rfl]
  refine ba ⟨hx,?_⟩
  simp only[kQ]at h
  by_cases h1:1<=x.length
  ·rw[decide_eq_true h1]at h
   rw[decide_eq_true (show (1:Int)<=(x.length:Int) by lia)]
   refine aI ?_
   by_cases h8:x.length<=8
   ·rw[decide_eq_true h8]at h
    rw[decide_eq_true (show (x.length:Int)<=8 by lia)]
    refine aI ?_
    refine bw (λd=>match d with | .str y=>D.bl (dj y) | _=>.bl false) (λS=>∃a,S=[a]) trivial _ _ _ ?_ ⟨_,rfl⟩ ?_ ?_
    ·rintro y hy S ⟨a,rfl⟩
     obtain⟨c,_,rfl⟩:=AAN.mp hy
     exact⟨_,⟨_,rfl⟩,λY hY=>⟨_,rfl,hY⟩⟩
    ·simp only[signs,AA6,AAW,Nat.zero_add,←aB]
     exact am (by lia)
    ·refine⟨x.cps.toList.map bG,?_,?_⟩
     ·rw[AAr,xL]
      exact af
     ·refine aq.bl ?_ nr
      simpa using h
   ·rw[decide_eq_false h8]at h
    rw[decide_eq_false (show ¬(x.length:Int)<=8 by lia)]
    refine ba (aq.now ?_)
    simpa using h
  ·rw[decide_eq_false h1]at h
   rw[decide_eq_false (show ¬(1:Int)<=(x.length:Int) by lia)]
   exact ba (aq.now (by simpa using h))
 | non=>walk_at "dl";exact⟨by decide,aI (aq.now h)⟩
 | bl b=>walk_at "dl";exact⟨by decide,aI (aq.now h)⟩
 | int b=>walk_at "dl";exact⟨by decide,aI (aq.now h)⟩
 | tup b=>walk_at "dl";exact⟨by decide,aI (aq.now h)⟩
 | ty b=>exact absurd hty (by simp only[tyD];decide)
 | ref n =>
  have e:=bm hty
  simp only[tyD]at e
  walk_at "dl"
  rw[e]
  exact⟨by decide,aI (aq.now h)⟩
theorem wb(T:Tops P w K mg base):Cal P w K mg base 2 "is_name" kA eV :=
 Cal.byD (N:=["thing"]) T.b T.f_is_name (by walk_at "sc") sV (by have:=qz T;walk_at "dv") vD
def eN:D->Bool
 | .str x=>decide (1<=x.length)&&decide (x.length<=60)&&x.cps.toList.all gZ
 | _=>false
def cF:DSp:=λds M R=>∃d,ds=[d]/\lC M d/\R (.bl (eN d)) M
theorem nN:bY cF fF:=by rintro ds M R ⟨x,rfl,_⟩;rfl
def GL(d:D):D:=.bl (gZ (chD d))
theorem xK(x:Str):(L2.signs x).map GL=bls (x.cps.toList.map gZ):=by
 unfold L2.signs bls
 rw[AAi,AAi]
 rfl
def gh:DTS:=aF (bj (cA qLe qLe (dC (.int 1)) (dCB fj (aa (ab 0) ac)) (dC (.int 60))) (dCB AN (aa (dLC 1 [] (bK (ab 0)) (ar 0) lh (dCB eT (aa (ab 0) ac))) ac)))
def jC:DTS:=aC (dIf (dF (ak (dCB eK (aa (ab 0) (aa (dC (.ty "str")) ac))))) (aF (dC (.bl false))) aA) (gh)
theorem oM:WpT cF 1 jC:=by
 rintro ds M R ⟨d,rfl,⟨hty,hl⟩,h⟩
 simp only[jC,gh]
 cases d with
 | str x =>
  have hx:=hl x rfl
  walk_at "dl"
  refine⟨by decide,ba ⟨hx,?_⟩⟩
  simp only[eN]at h
  by_cases h1:1<=x.length
  ·rw[decide_eq_true h1]at h
   rw[decide_eq_true (show (1:Int)<=(x.length:Int) by lia)]
   refine aI ?_
   by_cases h8:x.length<=60
   ·rw[decide_eq_true h8]at h
    rw[decide_eq_true (show (x.length:Int)<=60 by lia)]
    refine aI ?_
    refine bw GL (λS=>∃a,S=[a]) trivial _ _ _ ?_ ⟨_,rfl⟩ ?_ ?_
    ·rintro y hy S ⟨a,rfl⟩
     obtain⟨c,_,rfl⟩:=AAN.mp hy
     exact⟨_,⟨_,rfl⟩,λY hY=>⟨c,rfl,hY⟩⟩
    ·simp only[L2.signs,AA6,AAW,Nat.zero_add,←aB]
     exact am (by lia)
    ·refine⟨x.cps.toList.map gZ,?_,?_⟩
     ·rw[AAr,xK]
      exact af
     ·refine aq.bl ?_ nr
      simpa using h
   ·rw[decide_eq_false h8]at h
    rw[decide_eq_false (show ¬(x.length:Int)<=60 by lia)]
    refine ba (aq.now ?_)
    simpa using h
  ·rw[decide_eq_false h1]at h
   rw[decide_eq_false (show ¬(1:Int)<=(x.length:Int) by lia)]
   exact ba (aq.now (by simpa using h))
 | non=>walk_at "dl";exact⟨by decide,aI (aq.now h)⟩
 | bl b=>walk_at "dl";exact⟨by decide,aI (aq.now h)⟩
 | int b=>walk_at "dl";exact⟨by decide,aI (aq.now h)⟩
 | tup b=>walk_at "dl";exact⟨by decide,aI (aq.now h)⟩
 | ty b=>exact absurd hty (by simp only[tyD];decide)
 | ref n =>
  have e:=bm hty
  simp only[tyD]at e
  walk_at "dl"
  rw[e]
  exact⟨by decide,aI (aq.now h)⟩
theorem qw(T:Tops P w K mg base):Cal P w K mg base 2 "is_saying" fF cF :=
 Cal.byD (N:=["thing"]) T.b T.f_is_saying (by walk_at "sc") nN (by have:=vZ T;walk_at "dv") oM
def bv:D->D
 | .tup (a::_)=>a
 | _=>.non
def bX:DSp:=λds M R=>∃xs:List D,ds=[.tup xs]/\(∀x∈xs,∃a r,x=.tup (a::r))/\R (.ref M.length) (M++[.lst (xs.map bv)])
theorem nR:bY bX fJ:=by rintro ds M R ⟨xs,rfl,_⟩;rfl
def jR:DTS:=aF (dLC 1 [] (bK (ab 0)) (ar 0) lh (dOp qIx (ab 0) (dC (.int 0))))
theorem oQ:WpT bX 1 jR:=by
 rintro ds M R ⟨xs,rfl,hx,h⟩
 simp only[jR]
 walk_at "dl"
 intro hl
 refine bw bv (λS=>∃a,S=[a]) trivial _ _ _ ?_ ⟨_,rfl⟩ ?_ ?_
 ·rintro y hy S ⟨a,rfl⟩
  obtain⟨b,r,rfl⟩:=hx y hy
  refine⟨[some (.tup (b::r))],⟨_,rfl⟩,λY hY=>?_⟩
  walk_at "dl"
  exact hY
 ·simpa using hl
 ·exact .inl h
theorem iM(T:Tops P w K mg base):Cal P w K mg base 1 "firsts_of" fJ bX :=
 Cal.byD (N:=["pairs"]) T.b T.f_firsts_of (by walk_at "sc") nR (by walk_at "dv") oQ
def eu(ps:List (Str×Int)):D->Int
 | .str x=>((ps.find? λp=>decide (p.1=x)).map (·.2)).getD 0
 | _=>0
def eR:DSp:=λds M R=>∃(ps:List (Str×Int)) (r:List D) (d:D),ds=[.tup (.tup (ps.map aw)::r),d]/\okD M eqN d=true/\R (.int (eu ps d)) M
theorem sQ:bY eR ku:=by rintro ds M R ⟨ps,r,d,rfl,_⟩;rfl
theorem kK(p:Str×Int)(ps:List (Str×Int))(d:D)(M:Mem):eu (p::ps) d=if eqD M eqN (.str p.1) d=true then p.2 else eu ps d:=by
 cases d with
 | str x =>
  show ((List.find? _ (p::ps)).map _).getD 0=if (p.1==x)=true then _ else _
  by_cases h:p.1=x
  ·subst h;simp
  ·rw[if_neg (by simpa using h)]
   simp[eu,AB7,h]
 | _=>rfl
def jq:DTS:=aF (dC (.int 0))
def pA:DTS:=aC (tN (bK (dOp qIx (ab 0) (dC (.int 0)))) (eY 2 (aR (ar 2) (aR (ar 3) eZ))) (dIf (ak (dOp qEq (ab 2) (ab 1))) (aF (ab 3)) aA)) (jq)
theorem vq:WpT eR 4 pA:=by
 rintro ds M R ⟨ps,r,d,rfl,ok,h⟩
 simp only[pA,jq]
 walk_at "dl"
 intro _
 refine gM (λys S M'=>∃qs a b,ys=qs.map aw/\M'=M/\S=[some (.tup (.tup (ps.map aw)::r)),some d,a,b]/\eu ps d=eu qs d) ?_ ?_ _ _ _ ⟨ps,_,_,rfl,rfl,rfl,rfl⟩
 ·rintro S M' ⟨qs,a,b,hq,rfl,rfl,e⟩
  have:qs=[]:=by cases qs<;>simp_all
  subst this
  rw[e]at h
  exact⟨trivial,aq.now (by cases d<;>exact h)⟩
 ·rintro x xs S M' ⟨qs,a,b,hq,rfl,rfl,e⟩ L hL
  cases qs with
  | nil=>cases hq
  | cons p qs =>
   rw[AAM]at hq
   injection hq with h1 h2
   subst h1
   refine⟨trivial,?_⟩
   unfold aw
   walk_at "dl"
   refine⟨trivial,⟨rfl,ok⟩,?_⟩
   rw[kK p qs d M']at e
   by_cases hq:eqD M' eqN (.str p.1) d=true
   ·rw[if_pos hq]at e
    rw[hq]
    refine aI (aq.now ?_)
    rw[←e];exact h
   ·rw[if_neg hq]at e
    rw[ABr.mpr hq]
    exact ba (Fgt.now (hL _ _ ⟨qs,_,_,h2,rfl,rfl,e⟩))
theorem vX(T:Tops P w K mg base):Cal P w K mg base 1 "many_of" ku eR :=
 Cal.byD (N:=["house","name","person","many"]) T.b T.f_many_of (by walk_at "sc") sQ (by walk_at "dv") vq
def wg(xs:List Str):D->Bool
 | .str x=>xs.any λy=>y==x
 | _=>false
theorem yJ(h:∀x,d≠.str x):wg xs d=false:=by
 cases d with
 | str x=>exact absurd rfl (h x)
 | _=>rfl
theorem JS{α:Type}(xs:List α):(xs.any λ_=>false)=false:=by
 induction xs with
 | nil=>rfl
 | cons a l ih=>rw[ABe,ih];rfl
theorem Fi(xs:List Str):inD M d (xs.map D.str)=wg xs d:=by
 unfold inD
 rw[List.any_map]
 cases d with
 | str x =>
  show (xs.any λy=>eqD M eqN (.str y) (.str x))=xs.any λy=>y==x
  congr 1
 | _=>exact JS xs
theorem bne_f(b:Bool):(b != false)=b:=by cases b<;>rfl
theorem Dy(xs:List Str):(xs.map D.str).all (okD M n)=true:=by
 rw[ADU,AAK]
 intro x _
 exact az
theorem tD(g:Gdn M n d)(p:M <+: B)(h:R (.bl (wg xs d)) M):qIn d (.ref B.length) (B++[.lst (xs.map D.str)]) (aq M R):=by
 show ∃ys,al (B++[MO.lst (xs.map D.str)]) B.length ys/\(okD (B++[MO.lst (xs.map D.str)]) eqN d=true/\ys.all (okD (B++[MO.lst (xs.map D.str)]) eqN)=true)/\aq M R (.bl (inD (B++[MO.lst (xs.map D.str)]) d ys != false)) (B++[MO.lst (xs.map D.str)])
 refine⟨xs.map D.str,af,⟨(g.grow (p.trans nr)).ok,Dy xs⟩,?_⟩
 rw[Fi,bne_f]
 exact aq.bl h (p.trans nr)
theorem kX(ps:List (Str×Int)):(ps.map aw).map bv=(ps.map (·.1)).map D.str:=by rw[AAi,AAi];rfl
def cH:DSp:=λds M R=>∃(n:Nat) (ps:List (Str×Int)) (r:List D) (d:D),ds=[.tup (.tup (ps.map aw)::r),d]/\Gdn M n d/\R (.bl (wg (ps.map (·.1)) d)) M
theorem nP:bY cH fH:=by rintro ds M R ⟨n,ps,r,d,rfl,_⟩;rfl
def jE:DTS:=aF (dOp qIn (ab 1) (dCB bX (aa (dOp qIx (ab 0) (dC (.int 0))) ac)))
theorem oO:WpT cH 2 jE:=by
 rintro ds M R ⟨n,ps,r,d,rfl,g,h⟩
 simp only[jE]
 walk_at "dl"
 refine⟨ps.map aw,rfl,λx hx=>?_,?_⟩
 ·obtain⟨p,_,rfl⟩:=AAN.mp hx
  exact⟨_,_,rfl⟩
 ·rw[kX]
  exact tD g (AE5 M) h
theorem qy(T:Tops P w K mg base):Cal P w K mg base 2 "is_person" fH cH :=
 Cal.byD (N:=["house","thing"]) T.b T.f_is_person (by walk_at "sc") nP (by have:=iM T;walk_at "dv") oO
def bh(p:Str×List Str):D:=.tup [.str p.1,.tup (p.2.map .str)]
theorem kW(rs:List (Str×List Str)):(rs.map bh).map bv=(rs.map (·.1)).map D.str:=by rw[AAi,AAi];rfl
def cQ:DSp:=λds M R=>∃(n:Nat) (p0:D) (rs:List (Str×List Str)) (r:List D) (d:D),ds=[.tup (p0::.tup (rs.map bh)::r),d]/\Gdn M n d/\R (.bl (wg (rs.map (·.1)) d)) M
theorem sT:bY cQ ky:=by rintro ds M R ⟨n,p0,rs,r,d,rfl,_⟩;rfl
def pE:DTS:=aF (dOp qIn (ab 1) (dCB bX (aa (dOp qIx (ab 0) (dC (.int 1))) ac)))
theorem vB:WpT cQ 2 pE:=by
 rintro ds M R ⟨n,p0,rs,r,d,rfl,g,h⟩
 simp only[pE]
 walk_at "dl"
 refine⟨rs.map bh,rfl,λx hx=>?_,?_⟩
 ·obtain⟨p,_,rfl⟩:=AAN.mp hx
  exact⟨_,_,rfl⟩
 ·rw[kW]
  exact tD g (AE5 M) h
theorem mC(T:Tops P w K mg base):Cal P w K mg base 2 "is_room" ky cQ :=
 Cal.byD (N:=["house","thing"]) T.b T.f_is_room (by walk_at "sc") sT (by have:=iM T;walk_at "dv") vB
def bf(ps:List (Str×Int)):D->Bool
 | .tup [a,.int k]=>decide (0<=k)&&decide (k<eu ps a)
 | _=>false
def cR:DSp:=λds M R=>∃(ps:List (Str×Int)) (r:List D) (d:D),ds=[.tup (.tup (ps.map aw)::r),d]/\tyD M d∈lG/\(∀a b,d=.tup [a,b]->okD M eqN a=true/\tyD M b∈lG)/\R (.bl (bf ps d)) M
theorem sW:bY cR kC:=by rintro ds M R ⟨ps,r,d,rfl,_⟩;rfl
def pH:DTS:=aF (bj (dCB aM (aa (dC (.int 2)) (aa (ab 1) ac))) (bj (dCB cw (aa (dOp qIx (ab 1) (dC (.int 1))) ac)) (cA qLe qLt (dC (.int 0)) (dOp qIx (ab 1) (dC (.int 1))) (dCB eR (aa (ab 0) (aa (dOp qIx (ab 1) (dC (.int 0))) ac))))))
theorem vE:WpT cR 2 pH:=by
 rintro ds M R ⟨ps,r,d,rfl,ht,hab,h⟩
 simp only[pH]
 simp only[aF,bj,dCB,aa,ac,dC,ab,bC,AAM,ACh,AC4,AAr,ABa,ABB,AAA,AAW,ACE,ABy,ACP]
 refine⟨2,d,rfl,ht,?_⟩
 by_cases ht2:∃a b,d=.tup [a,b]
 ·obtain⟨a,b,rfl⟩:=ht2
  obtain⟨oka,tyb⟩:=hab a b rfl
  walk_at "dl"
  refine aI ⟨b,rfl,tyb,?_⟩
  cases b with
  | int k =>
   simp only[oR,if_true]
   by_cases h0:0<=k
   ·rw[decide_eq_true h0]
    simp only[qo,↓reduceIte]
    refine⟨ps,r,a,rfl,oka,aq.now ?_⟩
    have e:bf ps (.tup [a,.int k])=decide (k<eu ps a):=by simp[bf,h0]
    rw[e]at h
    exact h
   ·rw[decide_eq_false h0]
    have e:bf ps (.tup [a,.int k])=false:=by simp[bf,h0]
    rw[e]at h
    simp only[qo,↓reduceIte,AAF]
    exact aq.now h
  | _=>simp only[oR,AAF,↓reduceIte];exact aq.now h
 ·have e1:mW 2 d=false:=by
   cases d with
   | tup xs =>
    match xs with
    | []=>rfl
    | [_]=>rfl
    | [a,b]=>exact absurd ⟨a,b,rfl⟩ ht2
    | _::_::_::_=>simp[mW];lia
   | _=>rfl
  have e2:bf ps d=false:=by
   unfold bf
   split
   ·exact absurd ⟨_,_,rfl⟩ ht2
   ·rfl
  rw[e1]
  rw[e2]at h
  simp only[qo,AAF,↓reduceIte]
  exact aq.now h
theorem mD(T:Tops P w K mg base):Cal P w K mg base 2 "is_hand" kC cR :=
 Cal.byD (N:=["house","thing"]) T.b T.f_is_hand (by walk_at "sc") sW (by have:=kI T;have:=bu T;have:=vX T;walk_at "dv") vE
theorem ir(d:D):(∃a b,d=.tup [a,b])\/(mW 2 d=false/\∀a b,d≠.tup [a,b]):=by
 cases d with
 | tup xs =>
  match xs with
  | []=>exact .inr ⟨rfl,λ_ _ z=>by simp at z⟩
  | [_]=>exact .inr ⟨rfl,λ_ _ z=>by simp at z⟩
  | [a,b]=>exact .inl ⟨a,b,rfl⟩
  | _::_::_::_=>exact .inr ⟨by simp[mW];lia,λ_ _ z=>by simp at z⟩
 | _=>exact .inr ⟨rfl,λ_ _ z=>by cases z⟩
theorem jc(g:Gdn M n d):tyD M d∈lG/\∀a b,d=.tup [a,b]->okD M eqN a=true/\tyD M b∈lG:=by
 refine⟨g.thing.1,λa b e=>?_⟩
 subst e
 obtain⟨_,m,rfl,gx⟩:=g.tup
 exact⟨(gx a (by simp)).ok,(gx b (by simp)).thing.1⟩
def bL(ps:List (Str×Int)):D->Bool
 | .tup [a,b]=>aG 1 a&&bf ps b
 | _=>false
theorem jV(h:∀a b,d≠.tup [a,b]):bL ps d=false:=by
 unfold bL
 split
 ·exact absurd rfl (h _ _)
 ·rfl
def bn:DSp:=λds M R=>∃(n:Nat) (ps:List (Str×Int)) (r:List D) (d:D),ds=[.tup (.tup (ps.map aw)::r),d]/\Gdn M n d/\R (.bl (bL ps d)) M
theorem qK:bY bn ie:=by rintro ds M R ⟨n,ps,r,d,rfl,_⟩;rfl
def mi:DTS:=aF (bj (dCB aM (aa (dC (.int 2)) (aa (ab 1) ac))) (bj (dCB aQ (aa (dC (.int 1)) (aa (dOp qIx (ab 1) (dC (.int 0))) ac))) (dCB cR (aa (ab 0) (aa (dOp qIx (ab 1) (dC (.int 1))) ac)))))
theorem rR:WpT bn 2 mi:=by
 rintro ds M R ⟨n,ps,r,d,rfl,g,h⟩
 simp only[mi]
 simp only[aF,bj,dCB,aa,ac,dC,ab,bC,AAM,ACh,AC4,AAr,ABa,ABB,AAA,AAW,ACE,ABy,ACP]
 refine⟨2,d,rfl,g.thing.1,?_⟩
 rcases ir d with⟨a,b,rfl⟩|⟨e1,e2⟩
 ·obtain⟨_,m,rfl,gx⟩:=g.tup
  have ga:=gx a (by simp)
  have gb:=gx b (by simp)
  walk_at "dl"
  refine aI ⟨1,a,rfl,ga.thing.1,?_⟩
  simp only[bL]at h
  cases ea:aG 1 a with
  | false =>
   rw[ea]at h
   walk_at "ifs"
   exact aq.now h
  | true =>
   rw[ea]at h
   walk_at "ifs"
   exact⟨ps,r,b,rfl,(jc gb).1,(jc gb).2,aq.now h⟩
 ·rw[jV e2]at h
  rw[e1]
  walk_at "ifs"
  exact aq.now h
theorem fK(T:Tops P w K mg base):Cal P w K mg base 3 "is_stamp" ie bn :=
 Cal.byD (N:=["house","thing"]) T.b T.f_is_stamp (by walk_at "sc") qK (by have:=ca T;have:=bu T;have:=mD T;walk_at "dv") rR
def bI(ps:List (Str×Int)):D->Bool
 | .tup [a,b]=>bf ps a&&aG 1 b
 | _=>false
theorem gO(h:∀a b,d≠.tup [a,b]):bI ps d=false:=by
 unfold bI
 split
 ·exact absurd rfl (h _ _)
 ·rfl
def bA:DSp:=λds M R=>∃(n:Nat) (ps:List (Str×Int)) (r:List D) (d:D),ds=[.tup (.tup (ps.map aw)::r),d]/\Gdn M n d/\R (.bl (bI ps d)) M
theorem ik:bY bA cq:=by rintro ds M R ⟨n,ps,r,d,rfl,_⟩;rfl
def dS:DTS:=aF (bj (dCB aM (aa (dC (.int 2)) (aa (ab 1) ac))) (bj (dCB cR (aa (ab 0) (aa (dOp qIx (ab 1) (dC (.int 0))) ac))) (dCB aQ (aa (dC (.int 1)) (aa (dOp qIx (ab 1) (dC (.int 1))) ac)))))
theorem iU:WpT bA 2 dS:=by
 rintro ds M R ⟨n,ps,r,d,rfl,g,h⟩
 simp only[dS]
 simp only[aF,bj,dCB,aa,ac,dC,ab,bC,AAM,ACh,AC4,AAr,ABa,ABB,AAA,AAW,ACE,ABy,ACP]
 refine⟨2,d,rfl,g.thing.1,?_⟩
 rcases ir d with⟨a,b,rfl⟩|⟨e1,e2⟩
 ·obtain⟨_,m,rfl,gx⟩:=g.tup
  have ga:=gx a (by simp)
  have gb:=gx b (by simp)
  walk_at "dl"
  refine aI ⟨ps,r,a,rfl,(jc ga).1,(jc ga).2,?_⟩
  simp only[bI]at h
  cases ea:bf ps a with
  | false =>
   rw[ea]at h
   walk_at "ifs"
   exact aq.now h
  | true =>
   rw[ea]at h
   walk_at "ifs"
   exact⟨1,b,rfl,gb.thing.1,aq.now h⟩
 ·rw[gO e2]at h
  rw[e1]
  walk_at "ifs"
  exact aq.now h
theorem iV(T:Tops P w K mg base):Cal P w K mg base 3 "is_hand_count" cq bA :=
 Cal.byD (N:=["house","thing"]) T.b T.f_is_hand_count (by walk_at "sc") ik (by have:=ca T;have:=bu T;have:=mD T;walk_at "dv") iU
theorem ff(M:Mem)(g:Gdn M n d):(∃xs,d=.tup xs)\/((eM (tyD M d) "tuple")=false/\∀xs,d≠.tup xs):=by
 cases d with
 | tup xs=>exact .inl ⟨xs,rfl⟩
 | ref i=>exact .inr ⟨by rw[bm g.thing.1];decide,λ_ z=>by cases z⟩
 | ty t=>exact .inr ⟨by simp only[tyD];decide,λ_ z=>by cases z⟩
 | _=>exact .inr ⟨by simp only[tyD];decide,λ_ z=>by cases z⟩
theorem nS(h:bf ps d=true):Hd d:=by
 unfold bf at h
 split at h
 ·rename_i a k
  cases a with
  | str x=>exact⟨x,k,rfl⟩
  | _ =>
   have h':(decide (0<=k)&&decide (k<0))=true:=h
   rw[AAC,decide_eq_true_eq,decide_eq_true_eq]at h'
   lia
 ·cases h
theorem uZ(h:bI ps d=true):∃a b,d=.tup [a,b]/\bf ps a=true/\aG 1 b=true:=by
 rcases ir d with⟨a,b,rfl⟩|⟨_,e⟩
 ·simp only[bI,AAC]at h
  exact⟨a,b,rfl,h.1,h.2⟩
 ·rw[gO e]at h;cases h
def cj(M:Mem)(ps:List (Str×Int)):D->Bool
 | .tup xs=>xs.all (bI ps)&&cc M (xs.map bv)
 | _=>false
theorem lT(h:∀xs,d≠.tup xs):cj M ps d=false:=by
 unfold cj
 split
 ·exact absurd rfl (h _)
 ·rfl
theorem IP(ha:Hd a)(hb:Hd b):ltD M eqN a b=ltD M' eqN a b:=by
 obtain⟨x,k,rfl⟩:=ha
 obtain⟨y,l,rfl⟩:=hb
 rfl
theorem qh:∀{xs:List D},(∀x∈xs,Hd x)->cc M xs=cc M' xs
 | [],_=>rfl
 | [_],_=>rfl
 | a::b::r,h=>by
  show (ltD M eqN a b&&cc M (b::r))=(ltD M' eqN a b&&cc M' (b::r))
  rw[IP (M':=M') (h a (by simp)) (h b (by simp)),qh (M':=M') λx hx=>h x (AA9 _ hx)]
theorem JL{C:Mem}{k:Nat}{xs:List D}{p:D->Bool}(h:al C k (xs.map λd=>.bl (p d))):al C k (bls (xs.map p)):=by unfold bls;rw[AAi];exact h
def cE:DSp:=λds M R=>∃(n:Nat) (ps:List (Str×Int)) (r:List D) (d:D),ds=[.tup (.tup (ps.map aw)::r),d]/\Gdn M n d/\R (.bl (cj M ps d)) M
theorem nL:bY cE fE:=by rintro ds M R ⟨n,ps,r,d,rfl,_⟩;rfl
def gf:DTS:=aF (dCB cG (aa (dLC 1 [] (bK (ab 1)) (ar 0) lh (dOp qIx (ab 0) (dC (.int 0)))) ac))
def jB:DTS:=aC (dIf (dOr (dF (ak (dCB eK (aa (ab 1) (aa (dC (.ty "tuple")) ac))))) (dF (ak (dCB AN (aa (dLC 1 [0] (bK (ab 1)) (ar 0) lh (dCB bA (aa (ab 1) (aa (ab 0) ac)))) ac))))) (aF (dC (.bl false))) aA) (gf)
theorem oK:WpT cE 2 jB:=by
 rintro ds M R ⟨n,ps,r,d,rfl,g,h⟩
 simp only[jB,gf]
 rcases ff M g with⟨xs,rfl⟩|⟨e1,e2⟩
 ·obtain⟨hl,m,rfl,gx⟩:=g.tup
  walk_at "dl"
  refine⟨by decide,?_⟩
  rw[show eM "tuple" "tuple" = true from rfl]
  walk_at "ifs"
  intro hz
  refine bw (λd=>.bl (bI ps d)) (λS=>∃a,S=[a,some (.tup (.tup (ps.map aw)::r))]) trivial _ _ _ ?_ ⟨_,rfl⟩ (by simpa using hz) ?_
  ·rintro y hy S ⟨a,rfl⟩
   exact⟨[some y,some (.tup (.tup (ps.map aw)::r))],⟨_,rfl⟩,λY hY=>⟨m,ps,r,y,rfl,gx y hy,hY⟩⟩
  ·refine⟨xs.map (bI ps),JL (by rw[AAr];exact af),?_⟩
   simp only[cj]at h
   cases ha:(xs.map (bI ps)).all id with
   | false =>
    rw[ADU]at ha
    rw[show xs.all (bI ps)=false from ha]at h
    walk_at "ifs"
    exact aq.bl h nr
   | true =>
    walk_at "ifs"
    rw[ADU]at ha
    rw[show xs.all (bI ps)=true from ha,AAx]at h
    have hp:∀x∈xs,∃a b,x=.tup [a,b]/\Hd a:=λx hx=>by
     obtain⟨a,b,e,ha',_⟩:=uZ (AAK.mp ha x hx)
     exact⟨a,b,e,nS ha'⟩
    have hh:∀x∈xs.map bv,Hd x:=λx hx=>by
     obtain⟨y,hy,rfl⟩:=AAN.mp hx
     obtain⟨a,b,rfl,ha'⟩:=hp y hy
     exact ha'
    intro _
    refine bw bv (λS=>∃a,S=[a]) trivial _ _ _ ?_ ⟨_,rfl⟩ (by simpa using hz) ?_
    ·rintro y hy S ⟨a,rfl⟩
     obtain⟨a,b,rfl,_⟩:=hp y hy
     refine⟨[some (.tup [a,b])],⟨_,rfl⟩,λY hY=>?_⟩
     walk_at "dl"
     exact hY
    ·rw[AAr]
     refine⟨_,xs.map bv,rfl,.inl ⟨_,rfl,af⟩,hh,by rw[AA6];lia,?_⟩
     rw[qh (M':=M) hh]
     exact aq.bl h (by rw[ABS];exact ABJ _ _)
 ·rw[lT e2]at h
  walk_at "dl"
  refine⟨⟨g.thing.1,by decide⟩,?_⟩
  simp only[tyD]at e1
  rw[e1]
  walk_at "ifs"
  exact aq.now h
theorem qv(T:Tops P w K mg base):Cal P w K mg base 4 "is_vector" fE cE :=
 Cal.byD (N:=["house","thing"]) T.b T.f_is_vector (by walk_at "sc") nL (by have:=qx T;have:=iV T;walk_at "dv") oK
def isS(z:Str):D->Bool
 | .str x=>x==z
 | _=>false
theorem eD:eqD M eqN d (.str z)=isS z d:=by
 cases d with
 | str x=>exact bB
 | _=>rfl
def mS(ps:List (Str×Int))(rs:List (Str×List Str)):D->Bool
 | .tup [a,b]=>if isS (AA1 "room") a=true then wg (rs.map (·.1)) b else if isS (AA1 "person") a=true then wg (ps.map (·.1)) b else isS (AA1 "under") a&&bL ps b
 | _=>false
theorem mR(h:∀a b,d≠.tup [a,b]):mS ps rs d=false:=by
 unfold mS
 split
 ·exact absurd rfl (h _ _)
 ·rfl
def eS:DSp:=λds M R=>∃(n:Nat) (ps:List (Str×Int)) (rs:List (Str×List Str)) (r:List D) (d:D),ds=[.tup (.tup (ps.map aw)::.tup (rs.map bh)::r),d]/\Gdn M n d/\R (.bl (mS ps rs d)) M
theorem sR:bY eS kw:=by rintro ds M R ⟨n,ps,rs,r,d,rfl,_⟩;rfl
def jy:DTS:=aF (bj (dOp qEq (dOp qIx (ab 1) (dC (.int 0))) (dC (.str "under"))) (dCB bn (aa (ab 0) (aa (dOp qIx (ab 1) (dC (.int 1))) ac))))
def jz:DTS:=aC (dIf (ak (dOp qEq (dOp qIx (ab 1) (dC (.int 0))) (dC (.str "person")))) (aF (dCB cH (aa (ab 0) (aa (dOp qIx (ab 1) (dC (.int 1))) ac)))) aA) (jy)
def jA:DTS:=aC (dIf (ak (dOp qEq (dOp qIx (ab 1) (dC (.int 0))) (dC (.str "room")))) (aF (dCB cQ (aa (ab 0) (aa (dOp qIx (ab 1) (dC (.int 1))) ac)))) aA) (jz)
def pB:DTS:=aC (dIf (dF (ak (dCB aM (aa (dC (.int 2)) (aa (ab 1) ac))))) (aF (dC (.bl false))) aA) (jA)
theorem vt:WpT eS 2 pB:=by
 rintro ds M R ⟨n,ps,rs,r,d,rfl,g,h⟩
 simp only[pB]
 walk_at "dl"
 refine⟨2,d,rfl,g.thing.1,?_⟩
 rcases ir d with⟨a,b,rfl⟩|⟨e1,e2⟩
 ·obtain⟨_,m,rfl,gx⟩:=g.tup
  have ga:=gx a (by simp)
  have gb:=gx b (by simp)
  rw[show mW 2 (.tup [a,b])=true from rfl]
  walk_at "ifs"
  simp only[jA]
  walk_at "dl"
  refine⟨⟨ga.ok,az⟩,?_⟩
  rw[eD]
  simp only[mS]at h
  cases e1:isS (AA1 "room") a with
  | true =>
   rw[e1,if_pos rfl]at h
   exact aI ⟨m,_,rs,r,b,rfl,gb,aq.now h⟩
  | false =>
   rw[e1,if_neg AAb]at h
   refine ba ?_
   simp only[jz]
   walk_at "dl"
   refine⟨⟨ga.ok,az⟩,?_⟩
   rw[eD]
   cases e2:isS (AA1 "person") a with
   | true =>
    rw[e2,if_pos rfl]at h
    exact aI ⟨m,ps,_,b,rfl,gb,aq.now h⟩
   | false =>
    rw[e2,if_neg AAb]at h
    refine ba ?_
    simp only[jy]
    walk_at "dl"
    refine⟨⟨ga.ok,az⟩,?_⟩
    rw[eD]
    cases e3:isS (AA1 "under") a with
    | true =>
     rw[e3,AAx]at h
     walk_at "ifs"
     exact⟨m,ps,_,b,rfl,gb,aq.now h⟩
    | false =>
     rw[e3,AAw]at h
     walk_at "ifs"
     exact aq.now h
 ·rw[e1]
  walk_at "ifs"
  rw[mR e2]at h
  exact aq.now h
theorem vY(T:Tops P w K mg base):Cal P w K mg base 4 "is_what" kw eS :=
 Cal.byD (N:=["house","thing"]) T.b T.f_is_what (by walk_at "sc") sR (by have:=bu T;have:=qy T;have:=mC T;have:=fK T;walk_at "dv") vt
def zn:D->Bool
 | .non=>true
 | _=>false
def isBl:D->Bool
 | .bl _=>true
 | _=>false
theorem zm(g:Gdn M n d):eM (tyD M d) "bool" = isBl d:=by
 cases d with
 | ref i=>rw[bm g.thing.1];rfl
 | _=>rfl
theorem uz(M:Mem)(g:Gdn M n d):(∃x,d=.str x)\/((eM (tyD M d) "str")=false/\∀x,d≠.str x):=by
 cases d with
 | str x=>exact .inl ⟨x,rfl⟩
 | ref i=>exact .inr ⟨by rw[bm g.thing.1];rfl,λ_ z=>by cases z⟩
 | _=>exact .inr ⟨rfl,λ_ z=>by cases z⟩
def bo(M:Mem)(ps:List (Str×Int))(rs:List (Str×List Str))(part:Str)(d:D):Bool :=
 if (part==AA1 "room")=true then wg (rs.map (·.1)) d
 else if (part==AA1 "under")=true then zn d||bL ps d
 else if (part==AA1 "message")=true then bL ps d
 else if (part==AA1 "saying")=true then eN d
 else if (part==AA1 "sort")=true then kQ d
 else if (part==AA1 "vector")=true then cj M ps d
 else if (part==AA1 "what")=true then mS ps rs d
 else(part==AA1 "on")&&isBl d
def eU:DSp:=λds M R=>∃(n:Nat) (ps:List (Str×Int)) (rs:List (Str×List Str)) (r:List D) (part:Str) (d:D),ds=[.tup (.tup (ps.map aw)::.tup (rs.map bh)::r),.str part,d]/\Gdn M n d/\R (.bl (bo M ps rs part d)) M
theorem sU:bY eU kz:=by rintro ds M R ⟨n,ps,rs,r,part,d,rfl,_⟩;rfl
def jF:DTS:=aF (bj (dOp qEq (ab 1) (dC (.str "on"))) (dCB eK (aa (ab 2) (aa (dC (.ty "bool")) ac))))
def jG:DTS:=aC (dIf (ak (dOp qEq (ab 1) (dC (.str "what")))) (aF (dCB eS (aa (ab 0) (aa (ab 2) ac)))) aA) (jF)
def jH:DTS:=aC (dIf (ak (dOp qEq (ab 1) (dC (.str "vector")))) (aF (dCB cE (aa (ab 0) (aa (ab 2) ac)))) aA) (jG)
def jI:DTS:=aC (dIf (ak (dOp qEq (ab 1) (dC (.str "sort")))) (aF (dCB eV (aa (ab 2) ac))) aA) (jH)
def jJ:DTS:=aC (dIf (ak (dOp qEq (ab 1) (dC (.str "saying")))) (aF (dCB cF (aa (ab 2) ac))) aA) (jI)
def jK:DTS:=aC (dIf (ak (dOp qEq (ab 1) (dC (.str "message")))) (aF (dCB bn (aa (ab 0) (aa (ab 2) ac)))) aA) (jJ)
def jL:DTS:=aC (dIf (ak (dOp qEq (ab 1) (dC (.str "under")))) (aF (JF (dOp qIs (ab 2) (dC .non)) (dCB bn (aa (ab 0) (aa (ab 2) ac))))) aA) (jK)
def pF:DTS:=aC (dIf (ak (dOp qEq (ab 1) (dC (.str "room")))) (aF (dCB cQ (aa (ab 0) (aa (ab 2) ac)))) aA) (jL)
theorem vC:WpT eU 3 pF:=by
 rintro ds M R ⟨n,ps,rs,r,part,d,rfl,g,h⟩
 unfold bo at h
 simp only[pF]
 walk_at "dl"
 refine⟨⟨az,az⟩,?_⟩
 rw[bB]
 cases e1:(part==AA1 "room") with
 | true=>rw[e1,if_pos rfl]at h;exact aI ⟨n,_,rs,r,d,rfl,g,aq.now h⟩
 | false =>
 rw[e1,if_neg AAb]at h
 refine ba ?_
 simp only[jL]
 walk_at "dl"
 refine⟨⟨az,az⟩,?_⟩
 rw[bB]
 cases e2:(part==AA1 "under") with
 | true =>
  rw[e2,if_pos rfl]at h
  refine aI ?_
  have h1:zn d=true->aq M R (.bl true) M:=λe=>by rw[e,Bool.true_or]at h;exact aq.now h
  have h2:zn d=false->bn [.tup (.tup (ps.map aw)::.tup (rs.map bh)::r),d] M (aq M R):=λe=>by rw[e,Bool.false_or]at h;exact⟨n,ps,_,d,rfl,g,aq.now h⟩
  cases d<;>first | exact h1 rfl | exact h2 rfl | exact aI (h1 rfl) | exact ba (h2 rfl)
 | false =>
 rw[e2,if_neg AAb]at h
 refine ba ?_
 simp only[jK]
 walk_at "dl"
 refine⟨⟨az,az⟩,?_⟩
 rw[bB]
 cases e3:(part==AA1 "message") with
 | true=>rw[e3,if_pos rfl]at h;exact aI ⟨n,ps,_,d,rfl,g,aq.now h⟩
 | false =>
 rw[e3,if_neg AAb]at h
 refine ba ?_
 simp only[jJ]
 walk_at "dl"
 refine⟨⟨az,az⟩,?_⟩
 rw[bB]
 cases e4:(part==AA1 "saying") with
 | true=>rw[e4,if_pos rfl]at h;exact aI ⟨d,rfl,g.thing,aq.now h⟩
 | false =>
 rw[e4,if_neg AAb]at h
 refine ba ?_
 simp only[jI]
 walk_at "dl"
 refine⟨⟨az,az⟩,?_⟩
 rw[bB]
 cases e5:(part==AA1 "sort") with
 | true=>rw[e5,if_pos rfl]at h;exact aI ⟨d,rfl,g.thing,aq.now h⟩
 | false =>
 rw[e5,if_neg AAb]at h
 refine ba ?_
 simp only[jH]
 walk_at "dl"
 refine⟨⟨az,az⟩,?_⟩
 rw[bB]
 cases e6:(part==AA1 "vector") with
 | true=>rw[e6,if_pos rfl]at h;exact aI ⟨n,ps,_,d,rfl,g,aq.now h⟩
 | false =>
 rw[e6,if_neg AAb]at h
 refine ba ?_
 simp only[jG]
 walk_at "dl"
 refine⟨⟨az,az⟩,?_⟩
 rw[bB]
 cases e7:(part==AA1 "what") with
 | true=>rw[e7,if_pos rfl]at h;exact aI ⟨n,ps,rs,r,d,rfl,g,aq.now h⟩
 | false =>
 rw[e7,if_neg AAb]at h
 refine ba ?_
 simp only[jF]
 walk_at "dl"
 refine⟨⟨az,az⟩,?_⟩
 rw[bB]
 cases e8:(part==AA1 "on") with
 | true =>
  rw[e8,AAx]at h
  walk_at "ifs"
  refine⟨⟨g.thing.1,by decide⟩,?_⟩
  have e:=zm g
  simp only[tyD]at e
  rw[e]
  exact aq.now h
 | false =>
  rw[e8,AAw]at h
  walk_at "ifs"
  exact aq.now h
theorem wa(T:Tops P w K mg base):Cal P w K mg base 5 "is_part" kz eU :=
 Cal.byD (N:=["house","part","thing"]) T.b T.f_is_part (by walk_at "sc") sU (by have:=wb T;have:=qw T;have:=mC T;have:=fK T;have:=qv T;have:=vY T;walk_at "dv") vC
theorem uY:cutD (a::xs) (some 1) none=xs:=by
 unfold cutD
 rw[show (some (1:Int))=some ((1:Nat):Int)from rfl,HT.sIx_nat,HT.sIx_none,AAA,Nat.min_eq_left (by lia),List.drop_one,List.tail_cons,Nat.add_sub_cancel,AC2]
def rK(M:Mem)(ps:List (Str×Int))(rs:List (Str×List Str)):D->Bool
 | .tup (.str z::xs)=>match aE.find? (λp=>p.1==z) with
  | some p=>(xs.length==p.2.length)&&(p.2.zip xs).all λq=>bo M ps rs q.1 q.2
  | none=>false
 | _=>false
section
variable{M:Mem}{ps:List (Str×Int)}{rs:List (Str×List Str)}{z:Str}{xs:List D}
theorem gP(h:aE.find? (λp=>p.1==z)=some p):rK M ps rs (.tup (.str z::xs))=((xs.length==p.2.length)&&(p.2.zip xs).all λq=>bo M ps rs q.1 q.2):=by
 simp only[rK,h]
theorem ve(h:aE.find? (λp=>p.1==z)=none):rK M ps rs (.tup (.str z::xs))=false:=by
 simp only[rK,h]
theorem vh(h:∀x,a≠.str x):rK M ps rs (.tup (a::xs))=false:=by
 cases a with
 | str x=>exact absurd rfl (h x)
 | _=>rfl
theorem vj(h:∀xs,d≠.tup xs):rK M ps rs d=false:=by
 cases d with
 | tup x=>exact absurd rfl (h x)
 | _=>rfl
end
theorem Dl{ks:List Str}{xs:List D}{y:D}(h:y∈wK (ks.map .str) xs):∃q x,x∈xs/\y=.tup [.str q,x]:=by
 unfold wK at h
 obtain⟨p,hp,rfl⟩:=AAN.mp h
 have h1:=ADX hp
 obtain⟨q,_,e⟩:=AAN.mp h1.1
 exact⟨q,p.2,h1.2,by rw[←e]⟩
theorem wQ{f:Str->D->Bool}:∀(ks:List Str) (xs:List D),(wK (ks.map .str) xs).map (λd=>match d with | .tup [.str q,x]=>.bl (f q x) | _=>.bl false)=bls ((ks.zip xs).map λq=>f q.1 q.2)
 | [],_=>rfl
 | _::_,[]=>rfl
 | k::ks,x::xs=>by
  have:=wQ (f:=f) ks xs
  unfold wK bls at this ⊢
  rw[AAM,ABK,ABK,AAM,AAM,AAM,AAM,this]
def gR:DSp:=λds M R=>∃(n:Nat) (ps:List (Str×Int)) (rs:List (Str×List Str)) (r:List D) (d:D),ds=[.tup (.tup (ps.map aw)::.tup (rs.map bh)::r),d]/\Gdn M n d/\R (.bl (rK M ps rs d)) M
theorem wo:bY gR ny:=by rintro ds M R ⟨n,ps,rs,r,d,rfl,_⟩;rfl
def mj:DTS:=aF (dCB AN (aa (dLC 2 [0] (dZip (aa (ab 2) (aa (dSl (ab 1) (cb (dC (.int 1))) aU) ac))) (eY 2 (aR (ar 0) (aR (ar 1) eZ))) lh (dCB eU (aa (ab 2) (aa (ab 0) (aa (ab 1) ac))))) ac))
def mn:DTS:=aC (dIf (ak (dOp qNe (dCB fj (aa (ab 1) ac)) (dOp aJ (dCB fj (aa (ab 2) ac)) (dC (.int 1))))) (aF (dC (.bl false))) aA) (mj)
def mr:DTS:=aC (bT (Cl aE (dOp qIx (ab 1) (dC (.int 0)))) 2) (mn)
def mt:DTS:=aC (dIf (dOr (dF (ak (dCB eK (aa (dOp qIx (ab 1) (dC (.int 0))) (aa (dC (.ty "str")) ac))))) (ak (dGIn true aE (dOp qIx (ab 1) (dC (.int 0)))))) (aF (dC (.bl false))) aA) (mr)
def um:DTS:=aC (dIf (dOr (dF (ak (dCB eK (aa (ab 1) (aa (dC (.ty "tuple")) ac))))) (ak (dOp qEq (dCB fj (aa (ab 1) ac)) (dC (.int 0))))) (aF (dC (.bl false))) aA) (mt)
theorem wT:WpT gR 3 um:=by
 rintro ds M R ⟨n,ps,rs,r,d,rfl,g,h⟩
 simp only[um]
 rcases ff M g with⟨xs,rfl⟩|⟨e1,e2⟩
 ·obtain⟨hl,m,rfl,gx⟩:=g.tup
  walk_at "dl"
  refine⟨by decide,?_⟩
  rw[show eM "tuple" "tuple" = true from rfl]
  walk_at "ifs"
  refine⟨⟨ae,ae⟩,?_⟩
  rw[bi]
  cases xs with
  | nil=>exact aI (aq.now h)
  | cons a xs =>
   rw[show ((((a::xs).length:Nat):Int)==0)=false from beq_eq_false_iff_ne.mpr (by rw[AAA];lia)]
   refine ba ?_
   have ga:=gx a (by simp)
   simp only[mt]
   rcases uz M ga with⟨z,rfl⟩|⟨f1,f2⟩
   ·walk_at "dl"
    refine⟨by decide,?_⟩
    rw[show eM "str" "str" = true from rfl]
    walk_at "ifs"
    rw[om]
    cases hf:aE.find? (λp=>p.1==z) with
    | none =>
     rw[ve hf]at h
     exact aI (aq.now h)
    | some p =>
     refine ba ?_
     rw[gP hf]at h
     simp only[mr]
     walk_at "dl"
     refine⟨p,hf,?_⟩
     simp only[mn]
     walk_at "dl"
     refine⟨⟨ae,ae⟩,?_⟩
     have el:eqD M eqN (D.int ((xs.length+1:Nat):Int)) (D.int (((p.2.map D.str).length:Int)+1))=(xs.length==p.2.length):=by
      rw[bi,AA6,ABm,beq_iff_eq,beq_iff_eq];lia
     simp only[el]
     cases hq:(xs.length==p.2.length) with
     | false =>
      rw[hq,AAw]at h
      exact aI (aq.now h)
     | true =>
      rw[hq,AAx]at h
      refine ba ?_
      simp only[mj]
      walk_at "dl"
      refine⟨p.2.map D.str,xs,_,_,⟨rfl,rfl⟩,⟨uY.symm,rfl⟩,?_⟩
      refine bw (λd=>match d with | .tup [.str q,x]=>.bl (bo M ps rs q x) | _=>.bl false) (λS=>∃a b,S=[a,b,some (.tup (.tup (ps.map aw)::.tup (rs.map bh)::r))]) ⟨trivial,trivial⟩ _ _ _ (λy hy S hS=>?_) ⟨_,_,rfl⟩ ?_ ?_
      ·obtain⟨a,b,rfl⟩:=hS
       obtain⟨q,x,hx,rfl⟩:=Dl hy
       refine⟨[some (.str q),some x,some (.tup (.tup (ps.map aw)::.tup (rs.map bh)::r))],⟨_,_,rfl⟩,λY hY=>?_⟩
       walk_at "dl"
       exact⟨trivial,m,ps,rs,r,q,x,rfl,gx x (AA9 _ hx),hY⟩
      ·rw[AAW]
       unfold wK
       rw[AA6,List.length_zip]
       rw[AAA]at hl
       exact am (by lia)
      ·rw[AAr,wQ]
       refine⟨(p.2.zip xs).map λq=>bo M ps rs q.1 q.2,af,?_⟩
       rw[ADU]
       exact aq.bl h nr
   ·walk_at "dl"
    refine⟨⟨ga.thing.1,by decide⟩,?_⟩
    simp only[tyD]at f1
    rw[f1]
    walk_at "ifs"
    rw[vh f2]at h
    exact aq.now h
 ·rw[vj e2]at h
  walk_at "dl"
  refine⟨⟨g.thing.1,by decide⟩,?_⟩
  simp only[tyD]at e1
  rw[e1]
  walk_at "ifs"
  exact aq.now h
theorem yB(T:Tops P w K mg base):Cal P w K mg base 6 "is_act" ny gR :=
 Cal.byD (N:=["house","thing","parts"]) T.b T.f_is_act (by walk_at "sc") wo (by have:=T.g_ACT_PARTS;have:=wa T;walk_at "dv") wT
def nZ(M:Mem)(ps:List (Str×Int))(rs:List (Str×List Str)):D->Bool
 | .tup [a,b,c,e]=>bL ps (.tup [a,b])&&(aG 0 c&&rK M ps rs e)
 | _=>false
theorem tI(d:D):(∃a b c e,d=.tup [a,b,c,e])\/(mW 4 d=false/\∀a b c e,d≠.tup [a,b,c,e]):=by
 cases d with
 | tup xs =>
  match xs with
  | []=>exact .inr ⟨rfl,λ_ _ _ _ z=>by simp at z⟩
  | [_]=>exact .inr ⟨rfl,λ_ _ _ _ z=>by simp at z⟩
  | [_,_]=>exact .inr ⟨rfl,λ_ _ _ _ z=>by simp at z⟩
  | [_,_,_]=>exact .inr ⟨rfl,λ_ _ _ _ z=>by simp at z⟩
  | [a,b,c,e]=>exact .inl ⟨a,b,c,e,rfl⟩
  | _::_::_::_::_::_=>exact .inr ⟨by simp[mW];lia,λ_ _ _ _ z=>by simp at z⟩
 | _=>exact .inr ⟨rfl,λ_ _ _ _ z=>by cases z⟩
theorem je(h:∀a b c e,d≠.tup [a,b,c,e]):nZ M ps rs d=false:=by
 unfold nZ
 split
 ·exact absurd rfl (h _ _ _ _)
 ·rfl
theorem Dc(g:Gdn M (m+1) (.tup xs))(ga:Gdn M m a)(gb:Gdn M m b):Gdn M (m+1) (.tup [a,b]) :=
 Gdn.mk (by simp) g.1 λx hx=>by
  simp only[AAH,AAf,or_false]at hx
  rcases hx with rfl | rfl
  ·exact ga
  ·exact gb
def eW:DSp:=λds M R=>∃(n:Nat) (ps:List (Str×Int)) (rs:List (Str×List Str)) (r:List D) (d:D),ds=[.tup (.tup (ps.map aw)::.tup (rs.map bh)::r),d]/\Gdn M n d/\R (.bl (nZ M ps rs d)) M
theorem sX:bY eW kD:=by rintro ds M R ⟨n,ps,rs,r,d,rfl,_⟩;rfl
def jO:DTS:=aF (bj (dCB aQ (aa (dC (.int 0)) (aa (dOp qIx (ab 1) (dC (.int 2))) ac))) (dCB gR (aa (ab 0) (aa (dOp qIx (ab 1) (dC (.int 3))) ac))))
def pI:DTS:=aC (dIf (dOr (dF (ak (dCB aM (aa (dC (.int 4)) (aa (ab 1) ac))))) (dF (ak (dCB bn (aa (ab 0) (aa (dSl (ab 1) aU (cb (dC (.int 2)))) ac)))))) (aF (dC (.bl false))) aA) (jO)
theorem vF:WpT eW 2 pI:=by
 rintro ds M R ⟨n,ps,rs,r,d,rfl,g,h⟩
 simp only[pI]
 rcases tI d with⟨a,b,c,e,rfl⟩|⟨e1,e2⟩
 ·obtain⟨hl,m,rfl,gx⟩:=g.tup
  have ga:=gx a (by simp)
  have gb:=gx b (by simp)
  have gc:=gx c (by simp)
  have ge:=gx e (by simp)
  walk_at "dl"
  refine⟨4,_,rfl,g.thing.1,?_⟩
  rw[show mW 4 (.tup [a,b,c,e])=true from rfl]
  walk_at "ifs"
  refine⟨m+1,ps,_,_,rfl,Dc g ga gb,?_⟩
  simp only[nZ]at h
  simp only[show cutD [a,b,c,e] none (some 2)=[a,b]from rfl]
  cases es:bL ps (.tup [a,b]) with
  | false =>
   rw[es]at h
   walk_at "ifs"
   exact aq.now h
  | true =>
   rw[es]at h
   walk_at "ifs"
   simp only[jO]
   walk_at "dl"
   refine⟨0,c,rfl,gc.thing.1,?_⟩
   cases ec:aG 0 c with
   | false =>
    rw[ec]at h
    walk_at "ifs"
    exact aq.now h
   | true =>
    rw[ec]at h
    walk_at "ifs"
    exact⟨m,ps,rs,r,e,rfl,ge,aq.now h⟩
 ·rw[je e2]at h
  simp only[aC,dIf,dF,dOr,ak,dCB,aa,ac,dC,ab,EE,dst,bC,AAM,ACh,AC4,AAr,ABa,ABB,AAA,AAW,ACE,ABy,ACP]
  refine⟨4,d,rfl,g.thing.1,?_⟩
  rw[e1]
  walk_at "dl"
  exact aq.now h
theorem wc(T:Tops P w K mg base):Cal P w K mg base 7 "is_deed" kD eW :=
 Cal.byD (N:=["house","thing"]) T.b T.f_is_deed (by walk_at "sc") sX (by have:=ca T;have:=bu T;have:=fK T;have:=yB T;walk_at "dv") vF
def du:DSp:=λds M R=>∃(a b:D) (r:List D),ds=[.tup (a::b::r)]/\R (.tup [a,b]) M
theorem qH:bY du hV:=by rintro ds M R ⟨a,b,r,rfl,_⟩;rfl
def lX:DTS:=aF (dE (aa (dOp qIx (ab 0) (dC (.int 0))) (aa (dOp qIx (ab 0) (dC (.int 1))) ac)))
theorem rO:WpT du 1 lX:=by
 rintro ds M R ⟨a,b,r,rfl,h⟩
 simp only[lX]
 walk_at "dl"
 exact⟨am (by lia),aq.now h⟩
theorem sH(T:Tops P w K mg base):Cal P w K mg base 1 "stamp_of" hV du :=
 Cal.byD (N:=["deed"]) T.b T.f_stamp_of (by walk_at "sc") qH (by walk_at "dv") rO
def cD:DSp:=λds M R=>∃(t hd:D) (num:Int) (r:List D) (hs:List (D×Int)),ds=[.tup (t::hd::.int num::r),.tup (wL hs)]/\Hd hd/\(∀p∈hs,Hd p.1)/\hs.length<=1000/\R (.bl (dG hs hd num)) M
theorem nK:bY cD fB:=by rintro ds M R ⟨t,hd,num,r,hs,rfl,_⟩;rfl
def fZ:DTS:=aF (dC (.bl false))
def jx:DTS:=aC (tN (bK (ab 1)) (eY 2 (aR (ar 2) (aR (ar 3) eZ))) (dIf (ak (dOp qEq (ab 2) (dOp qIx (ab 0) (dC (.int 1))))) (aF (dOp qLt (dOp qIx (ab 0) (dC (.int 2))) (ab 3))) aA)) (fZ)
theorem oJ:WpT cD 4 jx:=by
 rintro ds M R ⟨t,hd,num,r,hs,rfl,hh,hv,hl,h⟩
 simp only[jx]
 walk_at "dl"
 refine λ_=>?_
 refine gM (λys S M'=>M'=M/\∃qs a b,ys=wL qs/\(∀p∈qs,Hd p.1)/\dG qs hd num=dG hs hd num/\S=[some (.tup (t::hd::.int num::r)),some (.tup (wL hs)),a,b]) ?_ ?_ _ _ _ ⟨rfl,hs,_,_,rfl,hv,rfl,rfl⟩
 ·rintro S M' ⟨rfl,qs,a,b,e,_,w,rfl⟩
  obtain rfl:qs=[]:=by
   cases qs with
   | nil=>rfl
   | cons q qs=>cases e
  rw[←w]at h
  refine⟨trivial,?_⟩
  simp only[fZ]
  walk_at "dl"
  exact aq.now h
 ·rintro x xs S M' ⟨rfl,qs,a,b,e,hq,w,rfl⟩ G hG
  cases qs with
  | nil=>cases e
  | cons q qs =>
   have e':x=.tup [q.1,.int q.2]/\xs=wL qs:=by
    unfold wL at e ⊢
    rw[AAM]at e
    injection e with e1 e2
    exact⟨e1,e2⟩
   obtain⟨rfl,rfl⟩:=e'
   refine⟨trivial,?_⟩
   have hq1:=hq q (by simp)
   walk_at "dl"
   refine⟨trivial,⟨BT hq1,BT hh⟩,?_⟩
   cases hb:eqD M' eqN q.1 hd with
   | true =>
    have e:=(zx (n:=29) hq1 hh).mp hb
    have ew:dG (q::qs) hd num=decide (num<q.2):=by
     unfold dG
     rw[AB7,decide_eq_true e]
    rw[←w,ew]at h
    exact aI (aq.now h)
   | false =>
    have e:q.1≠hd:=λz=>by
     have:=(zx (M:=M') (n:=29) hq1 hh).mpr z
     rw[show eqD M' (29+1) q.1 hd=eqD M' eqN q.1 hd from rfl,hb]at this
     cases this
    refine ba (Fgt.now (hG _ _ ⟨rfl,qs,_,_,rfl,λp hp=>hq p (AA9 _ hp),?_,rfl⟩))
    rw[←w]
    unfold dG
    rw[AB7,decide_eq_false e]
theorem qu(T:Tops P w K mg base):Cal P w K mg base 1 "is_within" fB cD :=
 Cal.byD (N:=["deed","vector","hand","count"]) T.b T.f_is_within (by walk_at "sc") nK (by walk_at "dv") oJ
def mM(ns:List Int)(k:Nat):Int:=ns.getD k 0
def cS:DSp:=λds M R=>∃(n:Nat) (ns:List Int) (k:Nat),ds=[.ref n,.int k]/\al M n (ns.map D.int)/\R (.int (mM ns k)) M
theorem sY:bY cS kE:=by rintro ds M R ⟨n,ns,k,rfl,_⟩;rfl
def jT:DTS:=aF (dC (.int 0))
def pT:DTS:=aC (dIf (ak (dOp qLt (ab 1) (dCB fj (aa (ab 0) ac)))) (aF (dOp qIx (ab 0) (ab 1))) aA) (jT)
theorem vG:WpT cS 2 pT:=by
 rintro ds M R ⟨n,ns,k,rfl,hL,h⟩
 simp only[pT,jT]
 walk_at "dl"
 refine⟨_,hL,?_⟩
 unfold mM at h
 by_cases hk:k<ns.length
 ·rw[decide_eq_true (by simpa using hk)]
  refine aI ⟨_,hL,?_⟩
  rw[aZ (v:=.int ns[k]) (by rw[AAU,AA7 hk];rfl)]
  rw[AAP,AA7 hk]at h
  exact aq.now h
 ·rw[decide_eq_false (by simpa using hk)]
  rw[AAP,ABW (by lia)]at h
  exact ba (aq.now h)
theorem mE(T:Tops P w K mg base):Cal P w K mg base 1 "_law_cell_at" kE cS :=
 Cal.byD (N:=["_law_script","_law_k"]) T.b T.f_cell_at (by walk_at "sc") sY (by walk_at "dv") vG
def ah(c:Int):MO:=.lst [.int c]
def ao:DSp:=λds M R=>∃(n:Nat) (c m:Int),ds=[.ref n,.int m]/\M[n]?=some (ah c)/\0<m/\m<1000000000000000/\∀i c':Int,0<=i->i<m->R (.int i) (M.set n (ah c'))
theorem Bu:bY ao yq:=by rintro ds M R ⟨n,c,m,rfl,_⟩;rfl
theorem set_set{M:Mem}{n:Nat}{a b:MO}:(M.set n a).set n b=M.set n b:=List.set_set ..
theorem eA{M:Mem}{n:Nat}{a b:MO}(h:M[n]?=some b):(M.set n a)[n]?=some a:=ABD (AA2.mp h).1
def WM(M:Mem)(n:Nat)(B:Mem):Prop:=∃c L,B=M.set n (ah c)++L
section
variable{M B C:Mem}{n:Nat}{c0:Int}
theorem WM.drawn:WM M n (M.set n (ah c)):=⟨c,[],by simp⟩
theorem WM.now(h:M[n]?=some (ah c0)):WM M n M:=⟨c0,[],by
 rw[ACZ]
 refine(List.ext_getElem? λi=>?_).symm
 by_cases e:n=i
 ·subst e;rw[eA h,h]
 ·rw[AAt e]⟩
theorem WM.get(w:WM M n B)(h:M[n]?=some (ah c0)):∃c,B[n]?=some (ah c):=by
 obtain⟨c,L,rfl⟩:=w
 have hl:=(AA2.mp h).1
 exact⟨c,by rw[AAJ (by rw[ABO];exact hl),eA h]⟩
theorem WM.set(w:WM M n B)(h:M[n]?=some (ah c0))(c:Int):WM M n (B.set n (ah c)):=by
 obtain⟨c',L,rfl⟩:=w
 have hl:=(AA2.mp h).1
 refine⟨c,L,?_⟩
 rw[List.set_append_left _ _ (by rw[ABO];exact hl),set_set]
theorem WM.app(w:WM M n B)(L:Mem):WM M n (B++L):=by
 obtain⟨c',L',rfl⟩:=w
 exact⟨c',L'++L,by rw[ABS]⟩
theorem WM.trans(w:WM M n B)(h:M[n]?=some (ah c0))(v:WM B n C):WM M n C:=by
 obtain⟨c,L,rfl⟩:=v
 exact(w.set h c).app L
theorem WM.len(w:WM M n B):M.length<=B.length:=by
 obtain⟨c,L,rfl⟩:=w
 rw[AA8,ABO];lia
theorem WM.other(w:WM M n B)(hm:m≠n)(h:M[m]?=some x):B[m]?=some x:=by
 obtain⟨c,L,rfl⟩:=w
 rw[AAJ (by rw[ABO];exact(AA2.mp h).1),AAt (AAz hm)]
 exact h
end
def ue:DTS:=aF (ab 2)
def uf:DTS:=aC (dAsg (dOp nk (dOp qIx (ab 0) (dC (.int 0))) (ab 1)) (Cg (ab 0) (dC (.int 0)))) (ue)
def CF:DTS:=aC (bT (dOp vS (dOp qIx (ab 0) (dC (.int 0))) (ab 1)) 2) (uf)
theorem Dq:WpT ao 3 CF:=by
 rintro ds M R ⟨n,c,m,rfl,hn,h0,h1,h⟩
 simp only[CF,uf,ue]
 walk_at "dl"
 refine⟨_,.inl hn,?_⟩
 rw[at0]
 refine⟨h0,_,.inl hn,?_⟩
 rw[at0]
 exact⟨⟨h0,by lia⟩,_,0,hn,rfl,.inl (h _ _ (ADb _ (by lia)) (ACx _ h0))⟩
theorem bZ(T:Tops P w K mg base):Cal P w K mg base 1 "_law_take" yq ao :=
 Cal.byD (N:=["_law_well_here","_law_many","_law_found"]) T.b T.f_take (by walk_at "sc") Bu (by walk_at "dv") Dq
def vk:DSp:=λds M R=>∃(c:Int) (k:Int),ds=[.int c,.int k]/\0<=k/\k<100000/\∀i:Int,R (.int i) M
theorem EB:bY vk Ej:=by rintro ds M R ⟨c,k,rfl,_⟩;rfl
def xk:DTS:=aF (dOp vS (dOp aJ (dOp aJ (dOp jX (ab 2) (ab 2)) (dOp jX (dC (.int 69621)) (ab 2))) (dC (.int 7))) (dC (.int 2147483629)))
def xm:DTS:=aC (bT (dOp vS (dOp aJ (dOp aJ (dOp aJ (dOp jX (ab 2) (ab 2)) (dOp jX (dC (.int 48271)) (ab 2))) (dC (.int 13))) (ab 1)) (dC (.int 2147483647))) 2) (xk)
def GA:DTS:=aC (bT (dOp vS (dOp aJ (dOp aJ (dOp vS (ab 0) (dC (.int 2147483647))) (dOp jX (dC (.int 7919)) (ab 1))) (dC (.int 11))) (dC (.int 2147483647))) 2) (xm)
theorem Gs:WpT vk 3 GA:=by
 rintro ds M R ⟨c,k,rfl,h0,h1,h⟩
 simp only[GA,xm,xk]
 walk_at "dl"
 have p:∀z:Int,0<=z % 2147483647/\z % 2147483647<2147483647:=λz=>⟨ADb _ (by decide),ACx _ (by decide)⟩
 refine⟨by decide,.inl ⟨by decide,by decide⟩,by decide,?_⟩
 have pa:=p (c % 2147483647+7919*k+11)
 generalize (c % 2147483647+7919*k+11) % 2147483647=a at pa
 refine⟨.inl ⟨by lia,by lia⟩,.inl ⟨by decide,by decide⟩,by decide,?_⟩
 have pb:=p (a*a+48271*a+13+k)
 generalize (a*a+48271*a+13+k) % 2147483647=b at pb
 exact⟨.inl ⟨by lia,by lia⟩,.inl ⟨by decide,by decide⟩,by decide,aq.now (h _)⟩
theorem HJ(T:Tops P w K mg base):Cal P w K mg base 1 "_law_mix" Ej vk :=
 Cal.byD (N:=["_law_cell","_law_k","_law_number"]) T.b T.f_mix (by walk_at "sc") EB (by walk_at "dv") Gs
def lE:DSp:=λds M R=>∃(c:Int) (k:Int),ds=[.int c,.int k]/\0<=k/\k<1000/\∀i:Int,R (.int i) M
theorem Bv:bY lE yr:=by rintro ds M R ⟨c,k,rfl,_⟩;rfl
def uh:DTS:=aF (ab 2)
def ui:DTS:=aC (tN (cL (aa (dC (.int 8)) ac)) (ar 3) (bT (dOp aJ (dOp jX (ab 2) (dC (.int 2147483629))) (dCB vk (aa (ab 0) (aa (dOp aJ (dOp jX (dC (.int 8)) (ab 1)) (ab 3)) ac)))) 2)) (uh)
def CG:DTS:=aC (bT (dC (.int 0)) 2) (ui)
theorem Dr:WpT lE 4 CG:=by
 rintro ds M R ⟨c,k,rfl,h0,h1,h⟩
 simp only[CG,ui]
 walk_at "dl"
 refine⟨⟨by decide,by decide⟩,?_⟩
 refine cy (λi S M'=>M'=M/\∃(f:Int) (a:Option D),S=[some (.int c),some (.int k),some (.int f),a]) ?_ ?_ ⟨rfl,_,_,rfl⟩
 ·rintro S M' ⟨rfl,f,a,rfl⟩
  refine⟨trivial,?_⟩
  simp only[uh]
  walk_at "dl"
  exact aq.now (h _)
 ·rintro i y S M' hy ⟨rfl,f,a,rfl⟩ G hG
  obtain⟨hi,rfl⟩:=gk.mp hy
  have hi8:i<8:=hi
  refine⟨trivial,?_⟩
  walk_at "dl"
  exact⟨.inr ⟨by decide,by decide⟩,.inl ⟨by decide,by decide⟩,c,_,rfl,by lia,by lia,λz=>Fgt.now (hG _ _ ⟨rfl,_,_,rfl⟩)⟩
theorem yA(T:Tops P w K mg base):Cal P w K mg base 2 "_law_rich" yr lE :=
 Cal.byD (N:=["_law_cell","_law_k","_law_found","_law_j"]) T.b T.f_rich (by walk_at "sc") Bv (by have:=HJ T;walk_at "dv") Dr
def oq:DSp:=λds M R=>∃(c:Int) (k:Int),ds=[.int c,.int k]/\0<=k/\k<1000/\∀i:Int,R (.ref M.length) (M++[ah i])
theorem Bt:bY oq yp:=by rintro ds M R ⟨c,k,rfl,_⟩;rfl
def uc:DTS:=aF (dB (aa (dCB lE (aa (dOp nk (ab 0) (dC (.int 2))) (aa (ab 1) ac))) ac))
def CD:DTS:=aC (dIf (ak (dOp qEq (dOp vS (ab 0) (dC (.int 2))) (dC (.int 0)))) (aF (dB (aa (dOp nk (ab 0) (dC (.int 2))) ac))) aA) (uc)
theorem Dp:WpT oq 2 CD:=by
 rintro ds M R ⟨c,k,rfl,h0,h1,h⟩
 simp only[CD,uc]
 walk_at "dl"
 refine⟨by decide,⟨rfl,rfl⟩,?_⟩
 cases eqD M eqN (.int (c % 2)) (.int 0) with
 | true=>exact aI ⟨⟨by decide,by decide⟩,am (by lia),.inl (h _)⟩
 | false=>exact ba ⟨⟨by decide,by decide⟩,_,k,rfl,h0,h1,λz=>⟨am (by lia),.inl (h _)⟩⟩
theorem En(T:Tops P w K mg base):Cal P w K mg base 3 "_law_well" yp oq :=
 Cal.byD (N:=["_law_cell","_law_k"]) T.b T.f_well (by walk_at "sc") Bt (by have:=yA T;walk_at "dv") Dp
def jf:DSp:=λds M R=>∃(p:Nat) (ns:List Int) (s m:Nat),ds=[.ref p,.int s,.int m]/\al M p (ns.map D.int)/\ns.length<=100/\m<=100/\s<=10 /\
 ∀(ws:List Nat) (B:Mem),M <+: B->ws.length<=m->(∀w∈ws,M.length<=w/\∃c,B[w]?=some (ah c))->R (.ref B.length) (B++[.lst (ws.map .ref)])
theorem yS:bY jf sy:=by rintro ds M R ⟨p,ns,s,m,rfl,_⟩;rfl
theorem BL{ns:List Int}{lo hi:Option Int}:∃l:List Int,cutD (ns.map D.int) lo hi=l.map D.int:=by
 unfold cutD
 rw[←List.map_drop,←List.map_take]
 exact⟨_,rfl⟩
theorem Cm{xs:List D}{s m:Nat}:(cutD xs (some ((s:Int)+1)) (some ((s:Int)+1+(m:Int)))).length<=m:=by
 unfold cutD
 rw[AAh,show ((s:Int)+1)=((s+1:Nat):Int) by lia,show (((s+1:Nat):Int)+(m:Int))=((s+1+m:Nat):Int) by lia,HT.sIx_nat,HT.sIx_nat]
 lia
def Gg(M M':Mem)(acc:List D):Prop:=∃ws:List Nat,acc=ws.map .ref/\M <+: M'/\∀w∈ws,M.length<=w/\∃c,M'[w]?=some (ah c)
theorem Gg.nil:Gg M M []:=⟨[],rfl,AE5 _,λ_ z=>nomatch z⟩
theorem Gg.more{M M':Mem}{acc:List D}{c:Int}(h:Gg M M' acc):Gg M (M'++[ah c]) (acc++[.ref M'.length]):=by
 obtain⟨ws,rfl,p,hw⟩:=h
 refine⟨ws++[M'.length],by simp,p.trans nr,λw m=>?_⟩
 rcases AAl.mp m with m | m
 ·obtain⟨h1,c',h2⟩:=hw w m
  exact⟨h1,c',aH h2⟩
 ·rw[AAY.mp m]
  exact⟨p.length_le,c,aO⟩
def ph:DTS:=aF (dLC 1 [] (bK (dSl (ab 0) (cb (dOp aJ (ab 1) (dC (.int 1)))) (cb (dOp aJ (dOp aJ (ab 1) (dC (.int 1))) (ab 2))))) (ar 0) lh (dB (aa (ab 0) ac)))
def pi:DTS:=aC (dIf (ak (dOp qEq (dOp vS (ab 3) (dC (.int 2))) (dC (.int 1)))) (aF (dLC 1 [3] (cL (aa (dOp vS (dOp nk (ab 3) (dC (.int 2))) (dOp aJ (ab 2) (dC (.int 1)))) ac)) (ar 0) lh (dB (aa (dCB lE (aa (dOp nk (ab 1) (dC (.int 2))) (aa (ab 0) ac))) ac)))) aA) (ph)
def xh:DTS:=aC (bT (dCB cS (aa (ab 0) (aa (ab 1) ac))) 3) (pi)
theorem Au:WpT jf 4 xh:=by
 rintro ds M R ⟨p,ns,s,m,rfl,hL,n100,m100,s10,h⟩
 simp only[xh,pi]
 walk_at "dl"
 refine⟨p,ns,s,rfl,hL,by decide,⟨ae,ae⟩,?_⟩
 cases eqD M eqN (.int (mM ns s % 2)) (.int 1) with
 | true =>
  have e0:0<=mM ns s / 2 % ((m:Int)+1):=ADb _ (by lia)
  have e1:mM ns s / 2 % ((m:Int)+1)<(m:Int)+1:=ACx _ (by lia)
  refine aI ⟨⟨by decide,by decide⟩,by lia,⟨by lia,by lia⟩,?_⟩
  refine cz (λxs acc S M'=>∃a,S=[a,some (.int (mM ns s))]/\Gg M M' acc/\acc.length+xs.length<=m/\∀x∈xs,∃i:Int,x=.int i/\0<=i/\i<1000) ?_ ?_ _ _ _ _ ⟨_,rfl,.nil,?_,?_⟩
  ·rintro acc S M' ⟨a,rfl,⟨ws,rfl,p,hw⟩,hl,_⟩
   exact⟨trivial,.inl (h ws M' p (by simpa using hl) hw)⟩
  ·rintro y xs acc S M' ⟨a,rfl,hw,hl,hx'⟩ K hK
   obtain⟨i,rfl,i0,i1⟩:=hx' y (by simp)
   refine⟨trivial,?_⟩
   walk_at "dl"
   rw[AAA]at hl
   refine⟨⟨by decide,by decide⟩,_,i,rfl,i0,i1,λz=>⟨am (by lia),small1000 (by lia),hK _ _ _ ⟨_,rfl,hw.more,?_,λx hx=>hx' x (AA9 _ hx)⟩⟩⟩
   rw[AA8,AAX];lia
  ·rw[cx,AAW];lia
  ·intro x hx
   obtain⟨i,hi⟩:=AAv hx
   obtain⟨h1,rfl⟩:=gk.mp hi
   exact⟨_,rfl,by lia,by lia⟩
 | false =>
  refine ba ?_
  simp only[ph]
  walk_at "dl"
  obtain⟨cs,hcs⟩:=BL (ns:=ns) (lo:=some ((s:Int)+1)) (hi:=some ((s:Int)+1+(m:Int)))
  have cl:cs.length<=m:=by
   have:=Cm (xs:=ns.map D.int) (s:=s) (m:=m)
   rw[hcs,AA6]at this
   exact this
  refine⟨_,hL,?_⟩
  rw[hcs]
  refine⟨_,af,λ_=>?_⟩
  refine cz (λxs acc S M'=>∃a,S=[a]/\Gg M M' acc/\al M' M.length (cs.map D.int)/\acc.length+xs.length<=m/\∀x∈xs,∃i:Int,x=.int i) ?_ ?_ _ _ _ _ ⟨_,rfl,⟨[],rfl,nr,λ_ z=>nomatch z⟩,af,?_,?_⟩
  ·rintro acc S M' ⟨a,rfl,⟨ws,rfl,p,hw⟩,l,hl,_⟩
   exact⟨l,.inl (h ws M' p (by simpa using hl) hw)⟩
  ·rintro y xs acc S M' ⟨a,rfl,hw,l,hl,hx⟩ K hK
   obtain⟨i,rfl⟩:=hx y (by simp)
   refine⟨l,?_⟩
   walk_at "dl"
   rw[AAA]at hl
   refine⟨am (by lia),small1000 (by lia),hK _ _ _ ⟨_,rfl,hw.more,l.more _,?_,λx hx'=>hx x (AA9 _ hx')⟩⟩
   rw[AA8,AAX];lia
  ·rw[AA6,AAW];lia
  ·intro x hx
   obtain⟨i,_,rfl⟩:=AAN.mp hx
   exact⟨i,rfl⟩
theorem Bf(T:Tops P w K mg base):Cal P w K mg base 3 "_law_wells" sy jf :=
 Cal.byD (N:=["_law_script","_law_start","_law_most","_law_head"]) T.b T.f_wells (by walk_at "sc") yS (by have:=mE T;have:=yA T;walk_at "dv") Au
def Small(x:Str):Prop:=∀c∈x.cps.toList,97<=c/\c<=122
def ox(x:Str):Prop:=1<=x.length/\x.length<=8/\Small x
def iq:DSp:=λds M R=>∃(n:Nat) (c:Int),ds=[.ref n]/\M[n]?=some (ah c)/\∀(x:Str) (B:Mem),ox x->WM M n B->R (.str x) B
theorem Br:bY iq yl:=by rintro ds M R ⟨n,c,rfl,_⟩;rfl
def one(c:Nat):Str:=⟨#[c]⟩
theorem mx:∀cs:List Nat,(Str.join (AA1 "") (cs.map one)).cps.toList=cs
 | []=>by decide +kernel
 | [c]=>rfl
 | c::d::r=>by
  have ih:=mx (d::r)
  show ((one c++AA1 "")++Str.join (AA1 "") ((d::r).map one)).cps.toList=_
  rw[cv,cv,ih]
  rfl
theorem gH(cs:List Nat):(Txt.join (AA1 "") (cs.map one)).cps.toList=cs:=by
 unfold Txt.join
 rw[StrLaws.glued_eq_join]
 exact mx cs
theorem nb:∀cs:List Nat,((cs.map one).map (λx=>x.length)).sum=cs.length
 | []=>rfl
 | c::r=>by
  rw[AAM,AAM,List.sum_cons,nb r,AAA]
  show 1+r.length=r.length+1
  lia
theorem vd(h0:0<=i)(h1:i<26):∃c:Nat,atI (AA1 "abcdefghijklmnopqrstuvwxyz").cps.toList i=some c/\97<=c/\c<=122:=by
 have hl:(AA1 "abcdefghijklmnopqrstuvwxyz").cps.toList=(AAe 26).map (· + 97):=by decide +kernel
 obtain⟨j,hj,e,ej⟩:=dD (xs:=(AA1 "abcdefghijklmnopqrstuvwxyz").cps.toList) h0 (by rw[hl];simpa using h1)
 have hm:=AAo hj
 refine⟨_,e,?_⟩
 generalize (AA1 "abcdefghijklmnopqrstuvwxyz").cps.toList[j]=c at hm
 rw[hl]at hm
 obtain⟨k,hk,rfl⟩:=AAN.mp hm
 have:=AAk.mp hk
 lia
def tY:DTS:=aF (dMs sk (dC (.str "")) (aa (dLC 1 [1,0] (cL (aa (dOp aJ (dC (.int 1)) (dCB ao (aa (ab 0) (aa (dC (.int 8)) ac)))) ac)) (ar 0) lh (dOp qIx (ab 1) (dCB ao (aa (ab 2) (aa (dC (.int 26)) ac))))) ac))
def CB:DTS:=aC (bT (dC (.str "abcdefghijklmnopqrstuvwxyz")) 1) (tY)
theorem Dm:WpT iq 2 CB:=by
 rintro ds M R ⟨n,c,rfl,hn,h⟩
 simp only[CB,tY]
 walk_at "dl"
 refine⟨n,c,8,rfl,hn,by decide,by decide,λi c' i0 i8=>⟨⟨by lia,by lia⟩,?_⟩⟩
 refine cz (λxs acc S M'=>∃(cs:List Nat) (a:Option D),acc=(cs.map one).map .str/\(∀c∈cs,97<=c/\c<=122)/\cs.length+xs.length=(1+i).toNat/\WM M n M'/\S=[a,some (.str (AA1 "abcdefghijklmnopqrstuvwxyz")),some (.ref n)]) ?_ ?_ _ _ _ _ ⟨[],_,rfl,(λ_ z=>nomatch z),by rw[cx];simp,WM.drawn,rfl⟩
 ·rintro acc S M' ⟨cs,a,rfl,hc,hl,wm,rfl⟩
  simp only[AAW,Nat.add_zero]at hl
  refine⟨trivial,cs.map one,af,?_,.inl (h _ _ ⟨?_,?_,?_⟩ (wm.app _))⟩
  ·rw[nb,AA6,show (AA1 "").length=0 by decide +kernel];lia
  ·rw[aB,gH];lia
  ·rw[aB,gH];lia
  ·intro c hcm
   rw[gH]at hcm
   exact hc c hcm
 ·rintro y xs acc S M' ⟨cs,a,rfl,hc,hl,wm,rfl⟩ K hK
  refine⟨trivial,?_⟩
  obtain⟨w,hw⟩:=wm.get hn
  walk_at "dl"
  refine⟨n,w,26,rfl,hw,by decide,by decide,λj c2 j0 j26=>⟨by decide +kernel,?_⟩⟩
  obtain⟨ch,ech,hch⟩:=vd j0 j26
  rw[ech]
  rw[AAA]at hl
  refine⟨by rw[AA6,AA6];exact small1000 (by lia),hK _ _ _ ⟨cs++[ch],_,by simp[one],λc hcm=>?_,by rw[AA8,AAX];lia,wm.set hn _,rfl⟩⟩
  rcases AAl.mp hcm with hcm | hcm
  ·exact hc c hcm
  ·rw[AAY.mp hcm];exact hch
theorem yy(T:Tops P w K mg base):Cal P w K mg base 2 "_law_word" yl iq :=
 Cal.byD (N:=["_law_well_here","_law_letters"]) T.b T.f_word (by walk_at "sc") Br (by have:=bZ T;walk_at "dv") Dm
theorem BM(u:Option Int)(n:Nat):ABY none u 1 n=ABY (some ((0:Nat):Int)) u 1 n:=by
 unfold ABY
 simp only[show (1:Int) > 0 by decide,if_true]
 congr 1
theorem IF(l:Option Int)(n:Nat):ABY l none 1 n=ABY l (some ((n:Nat):Int)) 1 n:=by
 unfold ABY
 simp only[show (1:Int) > 0 by decide,if_true]
 congr 1
 rw[if_neg (by lia)]
 lia
theorem uB(x:Str)(b:Nat):(ABn x none (some (b:Int))).cps.toList=x.cps.toList.take b:=by
 have e:=qd x (a:=0) (b:=b) (AAT _)
 rw[cX]at e ⊢
 rw[BM]
 rw[e];simp
theorem vR(x:Str)(a:Nat)(h:a<=x.length):(ABn x (some (a:Int)) none).cps.toList=x.cps.toList.drop a:=by
 have e:=qd x (a:=a) (b:=x.length) h
 rw[cX]at e ⊢
 rw[IF]
 rw[e]
 rw[ACG]
 rw[ABd,aB];lia
theorem iN(e:x.cps.toList=l)(h1:1<=l.length)(h8:l.length<=8)(h:∀c∈l,97<=c/\c<=122):ox x:=by
 subst e
 refine⟨by rw[aB];exact h1,by rw[aB];exact h8,h⟩
theorem WM.hi(w:WM M n B)(h:M.length<=q):WM M n (B.set q x):=by
 obtain⟨c,L,rfl⟩:=w
 refine⟨c,L.set (q-M.length) x,?_⟩
 rw[List.set_append_right _ _ (by rw[ABO];exact h),ABO]
theorem xP{M:Mem}{xs:List Str}(h:wN M (xs.map .str)):xs.Pairwise (λa b=>bt b a=false):=by
 unfold wN at h
 exact List.pairwise_map.mp h
def dq:DSp:=λds M R=>∃(n m:Nat) (c:Int),ds=[.ref n,.int m]/\1<=m/\m<=4/\M[n]?=some (ah c)/\∀(xs:List Str) (B:Mem),1<=xs.length->xs.length<=4->(∀x∈xs,ox x)->(xs.Nodup/\xs.Pairwise λa b=>bt b a=false)->WM M n B->R (.ref B.length) (B++[.lst (xs.map .str)])
theorem yR:bY dq sw:=by rintro ds M R ⟨n,m,c,rfl,_⟩;rfl
structure WdOk(kvs:List (Str×D)):Prop where
 nd:(kvs.map (·.1)).Nodup
 ok:∀p∈kvs,ox p.1
def oW:DTS:=aF (dCB gn (aa (ab 6) ac))
def oX:DTS:=dIf (ak (dOp qEq (ab 3) (dC (.int 0)))) (wC (ab 6) (dCB iq (aa (ab 0) ac)) (dC (.bl true))) (dIf (zS (ak (dOp qEq (ab 3) (dC (.int 1)))) (ak (dOp qLt (dOp aJ (dCB fj (aa (ab 4) ac)) (ab 7)) (dC (.int 9))))) (wC (ab 6) (dOp aJ (ab 4) (dSl (dC (.str "abc")) aU (cb (ab 7)))) (dC (.bl true))) (wC (ab 6) (dOp aJ (dOp aJ (dSl (ab 4) aU (cb (ab 5))) (ab 8)) (dSl (ab 4) (cb (dOp aJ (ab 5) (dC (.int 1)))) aU)) (dC (.bl true))))
def oY:DTS:=aC (tN (ip (aa (dC (.int 1)) (aa (ab 1) ac))) (ar 7) (aC (bT (dOp qIx (ab 2) (dOp vS (dOp aJ (dMs jY (ab 2) (aa (dOp qIx (ab 4) (ab 5)) ac)) (ab 7)) (dC (.int 26)))) 8) (oX))) (oW)
def oZ:DTS:=aC (bT (rp 4 true) 6) (oY)
def pc:DTS:=aC (bT (dCB ao (aa (ab 0) (aa (dCB fj (aa (ab 4) ac)) ac))) 5) (oZ)
def pe:DTS:=aC (bT (dCB iq (aa (ab 0) ac)) 4) (pc)
def pf:DTS:=aC (bT (dCB ao (aa (ab 0) (aa (dC (.int 3)) ac))) 3) (pe)
def xg:DTS:=aC (bT (dC (.str "abcdefghijklmnopqrstuvwxyz")) 2) (pf)
theorem At:WpT dq 9 xg:=by
 rintro ds M R ⟨n,m,c,rfl,m1,m4,hn,h⟩
 have nM:n<M.length:=(AA2.mp hn).1
 have hz:(AA1 "abcdefghijklmnopqrstuvwxyz").length<=sizeLine:=by decide +kernel
 simp only[xg,pf,pe,pc,oZ]
 walk_at "dl"
 refine⟨n,c,3,rfl,hn,by decide,by decide,λway c1 w0 w3=>?_⟩
 refine⟨n,c1,rfl,eA hn,λbase B1 hbase wm1=>?_⟩
 obtain⟨b1,b8,bs⟩:=id hbase
 have wm1:WM M n B1:=WM.drawn.trans hn wm1
 obtain⟨c2,hc2⟩:=wm1.get hn
 refine⟨am (by lia),n,c2,base.length,rfl,hc2,by lia,by lia,λat_ c3 a0 a1=>?_⟩
 have wm2:WM M n (B1.set n (ah c3)):=wm1.set hn _
 generalize B1.set n (ah c3)=B2 at wm2
 have q0:M.length<=B2.length:=wm2.len
 obtain⟨at',rfl⟩:∃k:Nat,at_=(k:Int):=⟨at_.toNat,by lia⟩
 have ha:at' < base.length:=by lia
 have hac:at' < base.cps.toList.length:=by rw[←aB];exact ha
 simp only[oY]
 walk_at "dl"
 refine⟨⟨by lia,by lia,by lia,by lia⟩,?_⟩
 generalize hq:B2.length=q at q0
 refine cy (λi S M'=>∃(kvs:List (Str×D)) (a b:Option D),WdOk kvs/\1<=kvs.length/\kvs.length<=i+1/\WM M n M'/\M'[q]?=some (.dct kvs)/\S=[some (.ref n),some (.int m),some (.str (AA1 "abcdefghijklmnopqrstuvwxyz")),some (.int way),some (.str base),some (.int (at':Int)),some (.ref q),a,b]) ?_ ?_ ⟨[(base,.bl true)],_,_,⟨by simp,by simp[hbase]⟩,by simp,by simp,wm2.app _,by rw[←hq];simp,rfl⟩
 ·rintro S M' ⟨kvs,a,b,ok,k1,k4,wm,hk,rfl⟩
  rw[cx]at k4
  refine⟨trivial,?_⟩
  simp only[oW]
  walk_at "dl"
  unfold gn
  refine⟨(kvs.map (·.1)).map .str,.inr ⟨kvs,hk,by rw[AAi];rfl⟩,vO (by rw[AA6];lia),λys hys hrise=>?_⟩
  obtain⟨xs,rfl,hxs⟩:=ye hys
  have xl:xs.length=kvs.length:=by rw[hxs.length_eq,AA6]
  refine .inl (h xs M' (by lia) (by lia) (λx hx=>?_) ⟨hxs.nodup_iff.mpr ok.nd,xP hrise⟩ wm)
  obtain⟨p,hp,rfl⟩:=AAN.mp (hxs.mem_iff.mp hx)
  exact ok.ok p hp
 ·rintro i y S M' hy ⟨kvs,a,b,ok,k1,k4,wm,hk,rfl⟩ G hG
  obtain⟨hi,rfl⟩:=gk.mp hy
  have hi3:i<3:=by lia
  refine⟨trivial,?_⟩
  walk_at "dl"
  have hch:=bs _ (AAo hac)
  have e1:atI base.cps.toList (at':Int)=some base.cps.toList[at']:=aZ (AA7 hac)
  refine⟨am (by lia),?_⟩
  rw[e1]
  generalize base.cps.toList[at']=ch at hch
  obtain⟨oi,orest,ho⟩:∃(i:Nat) (aN:List Nat),AC6 (AA1 "abcdefghijklmnopqrstuvwxyz") ⟨#[ch]⟩ 0 (AA1 "abcdefghijklmnopqrstuvwxyz").length 1=i::aN:=by
   have f:=StrLaws.found_one (AA1 "abcdefghijklmnopqrstuvwxyz") ch
   have hl:(AA1 "abcdefghijklmnopqrstuvwxyz").cps.toList=(AAe 26).map (· + 97):=by decide +kernel
   have hm:ch∈(AA1 "abcdefghijklmnopqrstuvwxyz").cps.toList:=by
    rw[hl]
    exact AAN.mpr ⟨ch-97,AAk.mpr (by lia),by lia⟩
   rw[decide_eq_true hm]at f
   cases e:AC6 (AA1 "abcdefghijklmnopqrstuvwxyz") ⟨#[ch]⟩ 0 (AA1 "abcdefghijklmnopqrstuvwxyz").length 1 with
   | nil=>rw[e]at f;cases f
   | cons i r=>exact⟨i,r,rfl⟩
  refine⟨oi,orest,ho,by decide,hz,?_⟩
  obtain⟨c4,e4,hc4⟩:=vd (i:=((oi:Int)+(1+(i:Int))) % 26) (ADb _ (by decide)) (ACx _ (by decide))
  rw[e4]
  have put:∀(x:Str) (B:Mem) (a b:Option D),ox x->WM M n B->B[q]?=some (.dct kvs)->G [some (.ref n),some (.int m),some (.str (AA1 "abcdefghijklmnopqrstuvwxyz")),some (.int way),some (.str base),some (.int (at':Int)),some (.ref q),a,b] (B.set q (.dct (uH kvs x (.bl true)))):=λx B a b hx w hk=>by
   have pl:=AO (kvs:=kvs) (k:=x) (d:=.bl true)
   exact hG _ _ ⟨uH kvs x (.bl true),a,b,⟨xX ok.nd,AR ok.ok hx⟩,pl.2,by lia,w.hi q0,ABD (AA2.mp hk).1,rfl⟩
  simp only[oX]
  walk_at "dl"
  refine⟨⟨ae,ae⟩,?_⟩
  cases eqD M' eqN (.int way) (.int 0) with
  | true =>
   refine aI ?_
   obtain⟨c5,hc5⟩:=wm.get hn
   refine⟨n,c5,rfl,hc5,λx B hx w=>?_⟩
   have hkB:B[q]?=some (.dct kvs):=w.other (by lia) hk
   exact⟨kvs,hkB,small1000 (by lia),Fgt.now (put x B _ _ hx (wm.trans hn w) hkB)⟩
  | false =>
   refine ba ⟨⟨ae,ae⟩,?_⟩
   have s1:(ABn base none (some (at':Int))).length<=8:=by have:=Txt.slice_le base none (some (at':Int));lia
   have s2:(ABn base (some ((at':Int)+1)) none).length<=8:=by have:=Txt.slice_le base (some ((at':Int)+1)) none;lia
   have hbl:=aB (a:=base)
   have nm3:ox (ABn base none (some (at':Int))++⟨#[c4]⟩++ABn base (some ((at':Int)+1)) none):=by
    have e:(ABn base none (some (at':Int))++⟨#[c4]⟩++ABn base (some ((at':Int)+1)) none).cps.toList=base.cps.toList.take at'++[c4]++base.cps.toList.drop (at'+1):=by
     have e2:=vR base (at'+1) (by lia)
     rw[show ((at'+1:Nat):Int)=(at':Int)+1 by lia]at e2
     rw[cv,cv,uB,e2]
    refine iN e (by simp;lia) (by rw[AA8,AA8,AAh,ABd,AAX];lia) λc hc=>?_
    rcases AAl.mp hc with hc | hc
    ·rcases AAl.mp hc with hc | hc
     ·exact bs c (ADB hc)
     ·rw[AAY.mp hc];exact hc4
    ·exact bs c (ADA hc)
   have third:base.length<=sizeLine/\(ABn base none (some (at':Int))).length+(⟨#[c4]⟩:Str).length<=sizeLine/\base.length<=sizeLine/\(ABn base none (some (at':Int))++⟨#[c4]⟩).length+(ABn base (some ((at':Int)+1)) none).length<=sizeLine /\
     ∃kvs,M'[q]?=some (MO.dct kvs)/\kvs.length<sizeLine/\Fgt (B2++[MO.dct [(base,D.bl true)]]) G [some (D.ref n),some (D.int m),some (D.str (AA1 "abcdefghijklmnopqrstuvwxyz")),some (D.int way),some (D.str base),some (D.int (at':Int)),some (D.ref q),some (D.int (1+(i:Int))),some (D.str ⟨#[c4]⟩)] (List.set M' q (MO.dct (uH kvs (ABn base none (some (at':Int))++⟨#[c4]⟩++ABn base (some ((at':Int)+1)) none) (D.bl true)))) :=
    ⟨am (by lia),by rw[yx];exact am (by lia),am (by lia),by rw[Gc,yx];exact am (by lia),kvs,hk,small1000 (by lia),Fgt.now (put _ M' _ _ nm3 wm hk)⟩
   cases eqD M' eqN (.int way) (.int 1) with
   | false=>exact ba third
   | true =>
    refine aI ⟨am (by lia),?_⟩
    by_cases h9:(base.length:Int)+(1+(i:Int))<9
    ·rw[decide_eq_true h9]
     have e3:(ABn (AA1 "abc") none (some (1+(i:Int)))).cps.toList=(AA1 "abc").cps.toList.take (1+i):=by
      have:=uB (AA1 "abc") (1+i)
      rwa [show ((1+i:Nat):Int)=1+(i:Int) by lia]at this
     have habc:(AA1 "abc").cps.toList=[97,98,99]:=by decide +kernel
     rw[habc]at e3
     have l3:(ABn (AA1 "abc") none (some (1+(i:Int)))).length=1+i:=by
      rw[aB,e3,AAh];simp;lia
     refine aI ⟨by decide +kernel,am (by lia),kvs,hk,small1000 (by lia),Fgt.now (put _ M' _ _ ?_ wm hk)⟩
     refine iN (l:=base.cps.toList++[97,98,99].take (1+i)) (by rw[cv,e3]) (by rw[AA8];lia) (by rw[AA8,AAh,←hbl];have:min (1+i) ([97,98,99]:List Nat).length<=1+i:=Nat.min_le_left ..;lia) λc hc=>?_
     rcases AAl.mp hc with hc | hc
     ·exact bs c hc
     ·have:=ADB hc
      simp at this
      lia
    ·rw[decide_eq_false h9]
     exact ba third
theorem Be(T:Tops P w K mg base):Cal P w K mg base 3 "_law_words" sw dq :=
 Cal.byD (N:=["_law_well_here","_law_many","_law_letters","_law_way","_law_base","_law_at","_law_words_here","_law_k","_law_sign"]) T.b T.f_words (by walk_at "sc") yR (by have:=bZ T;have:=yy T;walk_at "dv") At
structure HouseW(ps:List (Str×Int))(rs:List (Str×List Str)):Prop where
 nd:(ps.map (·.1)).Nodup
 len:1<=ps.length/\ps.length<=4
 many:∀p∈ps,1<=p.2/\p.2<=3
 nm:∀p∈ps,ox p.1
 up:(ps.map (·.1)).Pairwise λa b=>bt b a=false
 rl:1<=rs.length/\rs.length<=4
 rn:∀r∈rs,ox r.1
 rnd:(rs.map (·.1)).Nodup
 rup:(rs.map (·.1)).Pairwise λa b=>bt b a=false
 mem:∀r∈rs,r.2≠[]/\r.2.Sublist (ps.map (·.1))
def CZ(ps:List (Str×Int))(rs:List (Str×List Str)):D:=.tup [.tup (ps.map aw),.tup (rs.map bh)]
def jg:DSp:=λds M R=>∃(n:Nat) (c:Int),ds=[.ref n]/\M[n]?=some (ah c)/\∀ps rs B,HouseW ps rs->WM M n B->R (CZ ps rs) B
theorem yW:bY jg sD:=by rintro ds M R ⟨n,c,rfl,_⟩;rfl
theorem ja(hL:al M n xs)(ok:∀x∈xs,okD (M++[MO.lst []]) 29 x=true):(okD (M++[MO.lst []]) eqN (.ref n)=true/\okD (M++[MO.lst []]) eqN (.ref M.length)=true)/\eqD (M++[MO.lst []]) eqN (.ref n) (.ref M.length)=xs.isEmpty:=by
 have h1:al (M++[MO.lst []]) n xs:=hL.more _
 have h2:al (M++[MO.lst []]) M.length []:=af
 refine⟨⟨ig (n:=29) h1 ok,ig (n:=29) h2 λ_ z=>nomatch z⟩,?_⟩
 exact(nW (n:=29) h1 h2).trans zH
theorem bb(h:m≠n)(l:al M m xs):al (M.set n x) m xs:=by
 rcases l with l | l | l
 ·exact .inl (by rw[AAt (AAz h)];exact l)
 ·exact .inr (.inl (by rw[AAt (AAz h)];exact l))
 ·exact .inr (.inr (by rw[AAt (AAz h)];exact l))
theorem bc{M:Mem}{m n:Nat}{x y:MO}(h:m≠n)(l:M[m]?=some y):(M.set n x)[m]?=some y:=by rw[AAt (AAz h)];exact l
theorem kL{M:Mem}{m:Nat}{y:MO}(l:M[m]?=some y):m<M.length:=(AA2.mp l).1
theorem Gi(ps:List (Str×Int)):(ps.map aw).map (λd=>match d with | .tup (x::_)=>x | _=>.non)=(ps.map (·.1)).map .str:=by
 rw[AAi,AAi];rfl
theorem bM{B:Mem}{q:Nat}{x a:MO}(h:B[q]?=some x):(B++[a])[q]?=some x:=by
 rw[AAJ (AA2.mp h).1];exact h
def pJ:DTS:=aF (dE (aa (dCB fh (aa (ab 1) ac)) (aa (dCB fh (aa (ab 3) ac)) ac)))
def jP:DTS:=rj (dMl dY (ab 3) (aa (dE (aa (ab 4) (aa (dCB fh (aa (ab 5) ac)) ac))) ac))
def pK:DTS:=aC (dIf (ak (dOp qEq (ab 5) (dB ac))) (bT (dB (aa (dOp qIx (dOp qIx (ab 1) (dCB ao (aa (ab 0) (aa (dCB fj (aa (ab 1) ac)) ac)))) (dC (.int 0))) ac)) 5) aA) (jP)
def pL:DTS:=aC (tN (bK (dCB dq (aa (ab 0) (aa (dOp aJ (dC (.int 1)) (dCB ao (aa (ab 0) (aa (dC (.int 4)) ac)))) ac)))) (ar 4) (aC (ls 2 [0] (bK (ab 1)) (eY 2 (aR (ar 0) (aR (ar 1) eZ))) (ak (dOp qGt (dCB ao (aa (ab 2) (aa (dC (.int 4)) ac))) (dC (.int 0)))) (ab 0) 5) (pK))) (pJ)
def jQ:DTS:=aC (bT (dB ac) 3) (pL)
def pM:DTS:=aC (tN (bK (dCB dq (aa (ab 0) (aa (dOp aJ (dC (.int 1)) (dCB ao (aa (ab 0) (aa (dC (.int 4)) ac)))) ac)))) (ar 2) (rj (dMl dY (ab 1) (aa (dE (aa (ab 2) (aa (dOp aJ (dC (.int 1)) (dCB ao (aa (ab 0) (aa (dC (.int 3)) ac)))) ac))) ac)))) (jQ)
def xr:DTS:=aC (bT (dB ac) 1) (pM)
theorem tE{M M':Mem}{R:DK}{n:Nat}{c:Int}{xs:List Str}{ps:List (Str×Int)}{a:Option D}(hn:M[n]?=some (ah c))(h:∀ps rs B,HouseW ps rs->WM M n B->R (CZ ps rs) B)(wm:WM M n M')(gp:M'[M.length]?=some (.lst (ps.map aw)))(hps:ps.map (·.1)=xs)(hmany:∀p∈ps,1<=p.2/\p.2<=3)(x1:1<=xs.length)(x4:xs.length<=4)(xn:∀x∈xs,ox x)(xnd:xs.Nodup)(xup:xs.Pairwise λa b=>bt b a=false) :
  jQ (EE M R) [some (.ref n),some (.ref M.length),a,none,none,none] M':=by
 have nM:n<M.length:=(AA2.mp hn).1
 have pl:ps.length=xs.length:=by rw[←hps,AA6]
 have mq:=kL gp
 simp only[jQ,pL]
 walk_at "dl"
 obtain⟨c1,hc1⟩:=(wm.app [MO.lst []]).get hn
 refine⟨AAT _,n,c1,4,rfl,hc1,by decide,by decide,λi c2 i0 i4=>?_⟩
 obtain⟨m,hm⟩:∃k:Nat,(k:Int)=1+i:=⟨(1+i).toNat,by lia⟩
 have wm0:WM M n ((M'++[MO.lst []]).set n (ah c2)):=(wm.app _).set hn _
 have gr0:((M'++[MO.lst []]).set n (ah c2))[M'.length]?=some (.lst []):=bc (by lia) aO
 have gp0:((M'++[MO.lst []]).set n (ah c2))[M.length]?=some (.lst (ps.map aw)):=bc (by lia) (bM gp)
 generalize (M'++[MO.lst []]).set n (ah c2)=B0 at wm0 gr0 gp0
 generalize M'.length=rq at gr0 mq
 obtain⟨c3,hc3⟩:=wm0.get hn
 show dq [D.ref n,D.int (1+i)] B0 _
 rw[←hm]
 refine⟨n,m,c3,rfl,by lia,by lia,hc3,λys B1 y1 y4 yn ⟨ynd,yup⟩ w1=>?_⟩
 have wm1:WM M n (B1++[.lst (ys.map .str)]):=(wm0.trans hn w1).app _
 have gr1:(B1++[.lst (ys.map .str)])[rq]?=some (.lst []):=bM (w1.other (by lia) gr0)
 have gp1:(B1++[.lst (ys.map .str)])[M.length]?=some (.lst (ps.map aw)):=bM (w1.other (by lia) gp0)
 have ly1:al (B1++[.lst (ys.map .str)]) B1.length (ys.map .str):=af
 have wl:rq<B1.length:=kL (w1.other (by lia) gr0)
 generalize B1++[MO.lst (ys.map .str)]=C1 at wm1 gr1 gp1 ly1
 generalize B1.length=wq at ly1 wl
 refine⟨_,ly1,λ_=>?_⟩
 refine cy (λi S M'=>∃(rs:List (Str×List Str)) (a b d:Option D),rs.map (·.1)=ys.take i/\(∀r∈rs,r.2≠[]/\r.2.Sublist xs)/\WM M n M'/\M'[M.length]?=some (.lst (ps.map aw))/\M'[rq]?=some (.lst (rs.map bh))/\al M' wq (ys.map .str)/\S=[some (.ref n),some (.ref M.length),a,some (.ref rq),b,d]) ?_ ?_ ⟨[],_,_,_,rfl,(λ_ z=>nomatch z),wm1,gp1,gr1,ly1,rfl⟩
 ·rintro S M2 ⟨rs,a,b,d,hrs,hmem,wm,gp,gr,ly,rfl⟩
  rw[AA6,AC2]at hrs
  have rl:rs.length=ys.length:=by rw[←hrs,AA6]
  refine⟨ly,?_⟩
  simp only[pJ]
  walk_at "dl"
  refine⟨_,.inl gp,_,.inl gr,am (by lia),.inl (h ps rs M2 ⟨by rw[hps];exact xnd,by lia,hmany,λp hp=>xn _ (by rw[←hps];exact ACo hp),by rw[hps];exact xup,by lia,λr hr=>yn _ (by rw[←hrs];exact ACo hr),by rw[hrs];exact ynd,by rw[hrs];exact yup,λr hr=>by rw[hps];exact hmem r hr⟩ wm)⟩
 ·rintro i y S M2 hy ⟨rs,a,b,d,hrs,hmem,wm,gp,gr,ly,rfl⟩ G hG
  rw[AAU]at hy
  obtain⟨x,hx,rfl⟩:=ABo.mp hy
  refine⟨ly,?_⟩
  have hil:i<ys.length:=(AA2.mp hx).1
  have rl:rs.length=i:=by
   have:=congrArg AD0 hrs
   rw[AA6,AAh]at this
   lia
  have fin:∀(E:DEnds) (B:Mem) (k:Nat) (ms:List Str) (a:Option D),E.nx=Fgt C1 G->ms≠[]->ms.Sublist xs->WM M n B->B[M.length]?=some (.lst (ps.map aw))->B[rq]?=some (.lst (rs.map bh))->al B wq (ys.map .str)->al B k (ms.map .str) ->
    jP E [some (.ref n),some (.ref M.length),a,some (.ref rq),some (.str x),some (.ref k)] B:=λE B k ms a hE m0 ms1 wm gp gr ly lm=>by
   simp only[jP]
   walk_at "dl"
   refine⟨⟨_,.inl gr⟩,_,lm,am (by lia),_,gr,by rw[AA6];exact small1000 (by lia),?_⟩
   rw[hE]
   refine Fgt.now (hG _ _ ⟨rs++[(x,ms)],_,_,_,?_,λr hr=>?_,wm.hi (by lia),bc (by lia) gp,?_,bb (by lia) ly,rfl⟩)
   ·rw[ABQ,hrs,ABk,hx];rfl
   ·rcases AAl.mp hr with hr | hr
    ·exact hmem r hr
    ·rw[AAY.mp hr];exact⟨m0,ms1⟩
   ·rw[eA gr]
    simp[bh]
  walk_at "dl"
  refine⟨_,.inl gp,λ_=>?_⟩
  refine cz (λzs acc S M3=>∃(j:Nat) (ms:List Str) (a b:Option D),zs=(ps.map aw).drop j/\acc=ms.map .str/\ms.Sublist (xs.take j)/\WM M n M3/\M3[M.length]?=some (.lst (ps.map aw))/\M3[rq]?=some (.lst (rs.map bh))/\al M3 wq (ys.map .str)/\S=[a,b,some (.ref n)]) ?_ ?_ _ _ _ _ ⟨0,[],_,_,rfl,rfl,List.nil_sublist _,wm,gp,gr,ly,rfl⟩
  ·rintro acc S M3 ⟨j,ms,a,b,_,rfl,hsub0,wm,gp,gr,ly,rfl⟩
   have hsub:ms.Sublist xs:=hsub0.trans (ADl _ _)
   refine⟨.inl gp,?_⟩
   have l4:al (M3++[MO.lst (ms.map .str)]) M3.length (ms.map .str):=af
   have gp4:=bM (a:=MO.lst (ms.map .str)) gp
   have gr4:=bM (a:=MO.lst (ms.map .str)) gr
   have ly4:=ly.more [MO.lst (ms.map .str)]
   have wm4:=wm.app [MO.lst (ms.map .str)]
   generalize M3++[MO.lst (ms.map .str)]=M4 at l4 gp4 gr4 ly4 wm4
   generalize M3.length=k at l4
   simp only[pK]
   walk_at "dl"
   obtain⟨okk,enil⟩:=ja (M:=M4) l4 λy hy=>by obtain⟨z,_,rfl⟩:=AAN.mp hy;exact az
   refine⟨AAT _,okk,?_⟩
   rw[enil]
   cases hms:(ms.map D.str).isEmpty with
   | false =>
    refine ba (fin _ _ k ms _ rfl (λz=>by rw[z]at hms;cases hms) hsub (wm4.app _) (bM gp4) (bM gr4) (ly4.more _) (l4.more _))
   | true =>
    refine aI ?_
    obtain⟨c5,hc5⟩:=(wm4.app [MO.lst []]).get hn
    refine⟨_,.inl (bM gp4),n,c5,_,rfl,hc5,by rw[AA6];lia,by rw[AA6];lia,λv c6 v0 v1=>⟨_,.inl (bc (by lia) (bM gp4)),?_⟩⟩
    obtain⟨j,hj,ej,_⟩:=dD (xs:=ps.map aw) v0 v1
    rw[ej,ACM]
    rw[AA6]at hj
    simp only[aw]
    walk_at "dl"
    have hxm:(ps[j]).1∈xs:=by rw[←hps];exact ACo (AAo hj)
    refine⟨am (by lia),?_⟩
    refine fin _ _ _ [(ps[j]).1] _ rfl (by simp) (List.singleton_sublist.mpr hxm) (((wm4.app _).set hn _).app _) (bM (bc (by lia) (bM gp4))) (bM (bc (by lia) (bM gr4))) ((bb (by lia) (ly4.more _)).more _) af
  ·rintro y zs acc S M3 ⟨j,ms,a,b,hz,rfl,hsub,wm,gp,gr,ly,rfl⟩ K hK
   have hj:j<(ps.map aw).length:=by
    refine AB4 λz=>?_
    rw[ADi (by lia)]at hz
    cases hz
   rw[List.drop_eq_getElem_cons hj]at hz
   injection hz with e1 e2
   subst e1
   refine⟨.inl gp,?_⟩
   rw[ACM]
   have hj2:j<ps.length:=by rw[AA6]at hj;exact hj
   have hjx:j<xs.length:=by lia
   have ex:(ps[j]).1=xs[j]:=by
    have e:(ps.map (·.1))[j]?=xs[j]?:=by rw[hps]
    rw[AAU,AA7 hj2,AA7 hjx]at e
    exact AAR e
   simp only[aw]
   obtain⟨c5,hc5⟩:=wm.get hn
   walk_at "dl"
   refine⟨trivial,n,c5,4,rfl,hc5,by decide,by decide,λv c6 v0 v4=>?_⟩
   have ml:=hsub.length_le
   rw[AAh]at ml
   dsimp only
   by_cases hv:0<v
   ·rw[decide_eq_true hv]
    refine aI ⟨by rw[AA6];exact small1000 (by lia),hK _ _ _ ⟨j+1,ms++[(ps[j]).1],_,_,e2,by simp,?_,wm.set hn _,bc (by lia) gp,bc (by lia) gr,bb (by lia) ly,rfl⟩⟩
    rw[ex,ABk,AA7 hjx]
    exact hsub.append (List.Sublist.refl _)
   ·rw[decide_eq_false hv]
    refine ba (hK _ _ _ ⟨j+1,ms,_,_,e2,rfl,?_,wm.set hn _,bc (by lia) gp,bc (by lia) gr,bb (by lia) ly,rfl⟩)
    rw[ABk]
    exact hsub.trans (List.sublist_append_left _ _)
theorem Ay:WpT jg 6 xr:=by
 rintro ds M R ⟨n,c,rfl,hn,h⟩
 have nM:n<M.length:=(AA2.mp hn).1
 simp only[xr,pM]
 walk_at "dl"
 have hn1:(M++[MO.lst []])[n]?=some (ah c):=by rw[AAJ nM];exact hn
 have wmA:WM M n (M++[MO.lst []]):=(WM.now hn).app _
 refine⟨AAT _,n,c,4,rfl,hn1,by decide,by decide,λi c1 i0 i4=>?_⟩
 obtain⟨m,hm⟩:∃k:Nat,(k:Int)=1+i:=⟨(1+i).toNat,by lia⟩
 have wm0:WM M n ((M++[MO.lst []]).set n (ah c1)):=wmA.set hn _
 have g0:((M++[MO.lst []]).set n (ah c1))[M.length]?=some (.lst []):=bc (by lia) aO
 generalize (M++[MO.lst []]).set n (ah c1)=B0 at wm0 g0
 obtain⟨c2,hc2⟩:=wm0.get hn
 show dq [D.ref n,D.int (1+i)] B0 _
 rw[←hm]
 refine⟨n,m,c2,rfl,by lia,by lia,hc2,λxs B1 x1 x4 xn ⟨xnd,xup⟩ w1=>?_⟩
 have wm1:WM M n (B1++[.lst (xs.map .str)]):=(wm0.trans hn w1).app _
 have g1:(B1++[.lst (xs.map .str)])[M.length]?=some (.lst []):=bM (w1.other (by lia) g0)
 have l1:al (B1++[.lst (xs.map .str)]) B1.length (xs.map .str):=af
 have wl:M.length<B1.length:=kL (w1.other (by lia) g0)
 generalize B1++[MO.lst (xs.map .str)]=C1 at wm1 g1 l1
 generalize B1.length=wq at l1 wl
 refine⟨_,l1,λ_=>?_⟩
 refine cy (λi S M'=>∃(ps:List (Str×Int)) (a:Option D),ps.map (·.1)=xs.take i/\(∀p∈ps,1<=p.2/\p.2<=3)/\WM M n M'/\M'[M.length]?=some (.lst (ps.map aw))/\al M' wq (xs.map .str)/\S=[some (.ref n),some (.ref M.length),a,none,none,none]) ?_ ?_ ⟨[],_,rfl,(λ_ z=>nomatch z),wm1,g1,l1,rfl⟩
 ·rintro S M' ⟨ps,a,hps,hmany,wm,gp,lx,rfl⟩
  rw[AA6,AC2]at hps
  refine⟨lx,?_⟩
  exact tE hn h wm gp hps hmany x1 x4 xn xnd xup
 ·rintro i y S M' hy ⟨ps,a,hps,hmany,wm,gp,lx,rfl⟩ G hG
  rw[AAU]at hy
  obtain⟨x,hx,rfl⟩:=ABo.mp hy
  refine⟨lx,?_⟩
  obtain⟨c3,hc3⟩:=wm.get hn
  walk_at "dl"
  refine⟨⟨_,.inl gp⟩,n,c3,3,rfl,hc3,by decide,by decide,λv c4 v0 v3=>⟨am (by lia),_,bc (by lia) gp,?_,?_⟩⟩
  ·have:=congrArg AD0 hps
   rw[AA6,AAh]at this
   rw[AA6];exact small1000 (by lia)
  ·refine Fgt.now (hG _ _ ⟨ps++[(x,1+v)],_,?_,λp hp=>?_,(wm.set hn _).hi (AAD _),?_,bb (by lia) (bb (by lia) lx),rfl⟩)
   ·rw[ABQ,hps,ABk,hx];rfl
   ·rcases AAl.mp hp with hp | hp
    ·exact hmany p hp
    ·rw[AAY.mp hp];dsimp only;lia
   ·rw[eA (bc (by lia) gp)]
    simp[aw]
theorem Bg(T:Tops P w K mg base):Cal P w K mg base 4 "_law_house" sD jg :=
 Cal.byD (N:=["_law_well_here","_law_people","_law_name","_law_rooms","_law_room","_law_members"]) T.b T.f_house (by walk_at "sc") yW (by have:=bZ T;have:=Be T;walk_at "dv") Ay
def cu(p:Str×Int):List D:=(oz 0 p.2.toNat).map λk=>.tup [.str p.1,k]
def au(ps:List (Str×Int)):List D:=ps.flatMap cu
def Few(ps:List (Str×Int)):Prop:=ps.length<=4/\∀p∈ps,0<=p.2/\p.2<=3
def gU:DSp:=λds M R=>∃(ps:List (Str×Int)) (r:List D),ds=[.tup (.tup (ps.map aw)::r)]/\Few ps/\R (.ref M.length) (M++[.lst (au ps)])
theorem yX:bY gU sE:=by rintro ds M R ⟨ps,r,rfl,_⟩;rfl
theorem fM:(cu p).length=p.2.toNat:=by simp[cu,oz]
theorem ci(h:∀p∈ps,0<=p.2/\p.2<=3):(au ps).length<=3*ps.length:=by
 induction ps with
 | nil=>simp[au]
 | cons p ps ih =>
  have:=ih λq hq=>h q (AA9 _ hq)
  have h1:=h p AAI
  have e:(au (p::ps)).length=p.2.toNat+(au ps).length:=by
   rw[au,List.flatMap_cons,AA8,fM];rfl
  rw[e,AAA]
  lia
theorem wz:Bels k (au ps):=Bels.of λd hd=>by
 unfold au at hd
 obtain⟨p,_,hp⟩:=List.mem_flatMap.mp hd
 unfold cu oz at hp
 simp only[AAi,AAN]at hp
 obtain⟨i,_,rfl⟩:=hp
 exact .tup (.cons (.str _) (.cons (.int _) .nil))
theorem uV(h:d∈au ps):∃p∈ps,∃k:Nat,d=.tup [.str p.1,.int (k:Int)]/\k<p.2.toNat:=by
 unfold au at h
 obtain⟨p,hp,hd⟩:=List.mem_flatMap.mp h
 unfold cu at hd
 obtain⟨q,hq,rfl⟩:=AAN.mp hd
 obtain⟨i,hi⟩:=AAv hq
 obtain⟨h1,rfl⟩:=gk.mp hi
 exact⟨p,hp,i,by rw[Int.zero_add],h1⟩
def pN:DTS:=aF (ab 1)
def pO:DTS:=aC (tN (bK (dOp qIx (ab 0) (dC (.int 0)))) (eY 2 (aR (ar 2) (aR (ar 3) eZ))) (rj (dMl ke (ab 1) (aa (dLC 1 [2] (cL (aa (ab 3) ac)) (ar 0) lh (dE (aa (ab 1) (aa (ab 0) ac)))) ac)))) (pN)
def xt:DTS:=aC (bT (dB ac) 1) (pO)
theorem Az:WpT gU 4 xt:=by
 rintro ds M R ⟨ps,r,rfl,⟨h4,h3⟩,h⟩
 simp only[xt,pO]
 walk_at "dl"
 refine⟨AAT _,λ_=>?_⟩
 have hb:∀qs:List (Str×Int),(∀p∈qs,p∈ps)->qs.length<=4->(au qs).length<=12:=λqs h1 h2=>by
  have:=ci (ps:=qs) λp hp=>h3 p (h1 p hp)
  lia
 refine gM (λys S M'=>∃qs rs a b L,ps=qs++rs/\ys=rs.map aw/\M'=M++(.lst (au qs)::L)/\S=[some (.tup (.tup (ps.map aw)::r)),some (.ref M.length),a,b]) ?_ ?_ _ _ _ ⟨[],ps,_,_,[],rfl,rfl,rfl,rfl⟩
 ·rintro S M' ⟨qs,rs,a,b,L,e,hq,rfl,rfl⟩
  have:rs=[]:=by cases rs<;>simp_all
  subst this
  rw[ACZ]at e
  subst e
  refine⟨trivial,?_⟩
  simp only[pN]
  walk_at "dl"
  exact aq.lst h (AAD _) (by simp) wz
 ·rintro x xs S M' ⟨qs,rs,a,b,L,e,hq,rfl,rfl⟩ G hG
  cases rs with
  | nil=>cases hq
  | cons p rs =>
   rw[AAM]at hq
   injection hq with e1 e2
   subst e1
   have hp:=h3 p (by rw[e];simp)
   refine⟨trivial,?_⟩
   unfold aw
   walk_at "dl"
   refine⟨trivial,⟨au qs,.inl (by simp)⟩,⟨by lia,by lia⟩,?_⟩
   refine bw (λk=>.tup [.str p.1,k]) (λS=>∃a,S=[a,some (.str p.1)]) trivial _ _ _ (λk hk S hS=>?_) ⟨_,rfl⟩ ?_ ?_
   ·obtain⟨a,rfl⟩:=hS
    refine⟨[some k,some (.str p.1)],⟨_,rfl⟩,λY hY=>?_⟩
    walk_at "dl"
    exact⟨am (by lia),hY⟩
   ·simp only[AAW,cx]
    exact am (by lia)
   ·have l0:ps.length=qs.length+(rs.length+1):=by rw[e];simp
    have l1:=hb qs (λq hq=>by rw[e];simp[hq]) (by lia)
    refine⟨au qs,cu p,by simp,by simp[cu],by simp,?_,?_⟩
    ·rw[fM];exact am (by lia)
    ·refine Fgt.now (hG _ _ ⟨qs++[p],rs,_,_,L++[.lst (cu p)],by rw[e];simp,e2,?_,rfl⟩)
     have:au (qs++[p])=au qs++cu p:=by simp[au]
     rw[this,ABS,AC4,xN]
     rfl
theorem uJ(T:Tops P w K mg base):Cal P w K mg base 1 "_law_hands" sE gU :=
 Cal.byD (N:=["_law_house_here","_law_hands_here","_law_name","_law_many"]) T.b T.f_hands (by walk_at "sc") yX (by walk_at "dv") Az
def eF:DSp:=λds M R=>∃(n:Nat) (c:Int) (p:Str×Int) (ps:List (Str×Int)) (r:List D),ds=[.ref n,.tup (.tup ((p::ps).map aw)::r)]/\M[n]?=some (ah c)/\Few (p::ps)/\(∀q∈p::ps,q.1.length<=8)/\∀(x:Str) (B:Mem),x.length<=100->WM M n B->R (.str x) B
theorem wn:bY eF nw:=by rintro ds M R ⟨n,c,p,ps,r,rfl,_⟩;rfl
theorem CI:∀xs:List Str,(∀x∈xs,x.length<=k)->(xs.map (λx=>x.length)).sum<=k*xs.length
 | [],_=>AAT _
 | x::r,h=>by
  have ih:=CI r λy hy=>h y (AA9 _ hy)
  have h0:=h x (by simp)
  rw[AAM,List.sum_cons,AAA,Nat.mul_succ]
  lia
theorem uC(z:Str):∀xs:List Str,(Str.join z xs).length<=(xs.map (λx=>x.length)).sum+xs.length*z.length
 | []=>AAT _
 | [x]=>by
  show x.length<=x.length+0+1*z.length
  lia
 | x::y::r=>by
  have ih:=uC z (y::r)
  show ((x++z)++Str.join z (y::r)).length<=_
  rw[aB,cv,cv,AA8,AA8,←aB,←aB,←aB,AAM,List.sum_cons,AAA,Nat.succ_mul]
  lia
theorem Fb(z:Str)(xs:List Str):(Txt.join z xs).length<=(xs.map (λx=>x.length)).sum+xs.length*z.length:=by
 unfold Txt.join
 rw[StrLaws.glued_eq_join]
 exact uC z xs
def lY:DTS:=aF (dSl (dMs sk (dOp qIx (ab 2) (dCB ao (aa (ab 0) (aa (dC (.int 12)) ac)))) (aa (ab 5) ac)) aU (cb (dC (.int 60))))
def lZ:DTS:=aC (ls 1 [4,0] (cL (aa (dOp aJ (dC (.int 1)) (dCB ao (aa (ab 0) (aa (dC (.int 4)) ac)))) ac)) (ar 0) lh (dOp qIx (ab 1) (dCB ao (aa (ab 2) (aa (dCB fj (aa (ab 1) ac)) ac)))) 5) (lY)
def gX:DTS:=aC (dIf (ak (dOp qEq (dCB ao (aa (ab 0) (aa (dC (.int 3)) ac))) (dC (.int 0)))) (aF (dMs sk (dC (.str "")) (aa (dLC 1 [3,0] (cL (aa (dOp aJ (dC (.int 1)) (dCB ao (aa (ab 0) (aa (dC (.int 60)) ac)))) ac)) (ar 0) lh (dOp qIx (ab 1) (dCB ao (aa (ab 2) (aa (dC (.int 94)) ac))))) ac))) aA) (lZ)
def md:DTS:=aC (bT (dOp aJ (dLC 2 [] (bK (dOp qIx (ab 1) (dC (.int 0)))) (eY 2 (aR (ar 0) (aR (ar 1) eZ))) lh (dOp aJ (dC (.str "@")) (ab 0))) (dB (aa (dC (.str "hi")) (aa (dC (.str "a")) (aa (dOp aJ (dOp aJ (dC (.str "@")) (dOp qIx (dOp qIx (dOp qIx (ab 1) (dC (.int 0))) (dC (.int 0))) (dC (.int 0)))) (dC (.str "x"))) ac))))) 4) (gX)
def me:DTS:=aC (bT (dC (.str " !\"#$&'()*+,-./0123456789:;<=>?@ABCDEFGHIJKLMNOPQRSTUVWXYZ[\\]^_`abcdefghijklmnopqrstuvwxyz{|}~")) 3) (md)
def ug:DTS:=aC (bT (dC (.str " @abz.,Z0~!-")) 2) (me)
theorem AL{M B:Mem}{R:DK}{n k:Nat}{c:Int}{sg ev:Str}{y1:Option D}{xs:List Str}(hn:M[n]?=some (ah c))(hs:sg.cps.toList.length=12)(he:ev.cps.toList.length=94)(hx:∀x∈xs,x.length<=10)(x1:1<=xs.length)(x9:xs.length<=9)(wm:WM M n B)(hk:B[k]?=some (.lst (xs.map .str)))(kn:k≠n)(h:∀(x:Str) (B:Mem),x.length<=100->WM M n B->R (.str x) B) :
  gX (EE M R) [some (.ref n),y1,some (.str sg),some (.str ev),some (.ref k),none] B:=by
 have sl:sg.length=12:=by rw[aB];exact hs
 have el:ev.length=94:=by rw[aB];exact he
 simp only[gX]
 walk_at "dl"
 obtain⟨c1,hc1⟩:=wm.get hn
 refine⟨n,c1,3,rfl,hc1,by decide,by decide,λi c2 i0 i3=>⟨⟨ae,ae⟩,?_⟩⟩
 have wm2:WM M n (B.set n (ah c2)):=wm.set hn _
 have hk2:(B.set n (ah c2))[k]?=some (.lst (xs.map .str)):=bc kn hk
 generalize B.set n (ah c2)=B2 at wm2 hk2
 obtain⟨c3,hc3⟩:=wm2.get hn
 cases eqD B2 eqN (.int i) (.int 0) with
 | true =>
  refine aI ⟨n,c3,60,rfl,hc3,by decide,by decide,λj c4 j0 j60=>⟨⟨by lia,by lia⟩,?_⟩⟩
  have wm4:WM M n (B2.set n (ah c4)):=wm2.set hn _
  refine cz (λys acc S M'=>∃(cs:List Nat) (a:Option D),acc=(cs.map one).map .str/\cs.length+ys.length=(1+j).toNat/\WM M n M'/\S=[a,some (.str ev),some (.ref n)]) ?_ ?_ _ _ _ _ ⟨[],_,rfl,by rw[cx];simp,wm4,rfl⟩
  ·rintro acc S M' ⟨cs,a,rfl,hl,wm,rfl⟩
   simp only[AAW,Nat.add_zero]at hl
   refine⟨trivial,cs.map one,af,?_,.inl (h _ _ (by rw[aB,gH];lia) (wm.app _))⟩
   rw[nb,AA6,show (AA1 "").length=0 by decide +kernel];lia
  ·rintro y ys acc S M' ⟨cs,a,rfl,hl,wm,rfl⟩ K hK
   refine⟨trivial,?_⟩
   obtain⟨w,hw⟩:=wm.get hn
   walk_at "dl"
   refine⟨n,w,94,rfl,hw,by decide,by decide,λv c5 v0 v94=>⟨am (by lia),?_⟩⟩
   obtain⟨jn,hj,ej,_⟩:=dD (xs:=ev.cps.toList) v0 (by rw[he];exact v94)
   rw[ej]
   rw[AAA]at hl
   exact⟨by rw[AA6,AA6];exact small1000 (by lia),hK _ _ _ ⟨cs++[ev.cps.toList[jn]],_,by simp[one],by rw[AA8,AAX];lia,wm.set hn _,rfl⟩⟩
 | false =>
  refine ba ?_
  simp only[lZ]
  walk_at "dl"
  refine⟨n,c3,4,rfl,hc3,by decide,by decide,λj c4 j0 j4=>⟨⟨by lia,by lia⟩,?_⟩⟩
  have wm4:WM M n (B2.set n (ah c4)):=wm2.set hn _
  have hk4:(B2.set n (ah c4))[k]?=some (.lst (xs.map .str)):=bc kn hk2
  refine cz (λys acc S M'=>∃(zs:List Str) (a:Option D),acc=zs.map .str/\(∀z∈zs,z.length<=10)/\zs.length+ys.length=(1+j).toNat/\WM M n M'/\M'[k]?=some (.lst (xs.map .str))/\S=[a,some (.ref k),some (.ref n)]) ?_ ?_ _ _ _ _ ⟨[],_,rfl,(λ_ z=>nomatch z),by rw[cx];simp,wm4,hk4,rfl⟩
  ·rintro acc S M' ⟨zs,a,rfl,hz,hl,wm,hk,rfl⟩
   simp only[AAW,Nat.add_zero]at hl
   refine⟨trivial,?_⟩
   simp only[lY]
   walk_at "dl"
   have wm5:=wm.app [MO.lst (zs.map D.str)]
   have l5:al (M'++[MO.lst (zs.map D.str)]) M'.length (zs.map D.str):=af
   have ml:=wm.len
   obtain⟨c5,hc5⟩:=wm5.get hn
   have nM:n<M.length:=(AA2.mp hn).1
   generalize M'++[MO.lst (zs.map D.str)]=B5 at wm5 l5 hc5
   generalize M'.length=q at l5 ml
   refine⟨n,c5,12,rfl,hc5,by decide,by decide,λv c6 v0 v12=>⟨am (by lia),?_⟩⟩
   obtain⟨jn,hj,ej,_⟩:=dD (xs:=sg.cps.toList) v0 (by rw[hs];exact v12)
   rw[ej]
   have s1:=CI zs hz
   have e1:({ cps:=#[sg.cps.toList[jn]] }:Str).length=1:=rfl
   have j1:=Fb { cps:=#[sg.cps.toList[jn]] } zs
   rw[e1]at j1
   refine⟨zs,bb (by lia) l5,by rw[e1];lia,am (by lia),.inl (h _ _ (ABT (Txt.slice_le _ _ _) (by lia)) (wm5.set hn _))⟩
  ·rintro y ys acc S M' ⟨zs,a,rfl,hz,hl,wm,hk,rfl⟩ K hK
   refine⟨trivial,?_⟩
   obtain⟨w,hw⟩:=wm.get hn
   walk_at "dl"
   refine⟨_,.inl hk,?_⟩
   rw[AA6]
   refine⟨n,w,xs.length,rfl,hw,by lia,by lia,λv c5 v0 v1=>⟨_,.inl (bc kn hk),?_⟩⟩
   obtain⟨jn,hj,ej,_⟩:=dD (xs:=xs.map D.str) v0 (by rw[AA6];exact v1)
   rw[ej]
   rw[AA6]at hj
   rw[AAA]at hl
   refine⟨by rw[AA6];exact small1000 (by lia),hK _ _ _ ⟨zs++[xs[jn]],_,by simp,λz hzm=>?_,by rw[AA8,AAX];lia,wm.set hn _,bc kn hk,rfl⟩⟩
   rcases AAl.mp hzm with hzm | hzm
   ·exact hz z hzm
   ·rw[AAY.mp hzm];exact hx _ (AAo hj)
theorem wS:WpT eF 6 ug:=by
 rintro ds M R ⟨n,c,⟨z,m⟩,ps,r,rfl,hn,few,h8,h⟩
 have nM:n<M.length:=(AA2.mp hn).1
 have f4:=few.1
 have z8:z.length<=8:=h8 (z,m) (by simp)
 rw[AAA]at f4
 rw[AAM,show aw (z,m)=.tup [.str z,.int m]from rfl]
 simp only[ug,me,md]
 walk_at "dl"
 intro _
 refine bw (λd=>match d with | .tup (.str x::_)=>.str (AA1 "@" ++ x) | _=>.non) (λS=>∃a b,S=[a,b]) trivial _ _ _ (λk hk S hS=>?_) ⟨_,_,rfl⟩ ?_ ?_
 ·obtain⟨a,b,rfl⟩:=hS
  have:∃q∈(z,m)::ps,k=.tup [.str q.1,.int q.2]:=by
   rcases AAH.mp hk with rfl | hk
   ·exact⟨(z,m),by simp,rfl⟩
   ·obtain⟨q,hq,rfl⟩:=AAN.mp hk
    exact⟨q,AA9 _ hq,rfl⟩
  obtain⟨q,hq,rfl⟩:=this
  have:=h8 q hq
  refine⟨[some (.str q.1),some (.int q.2)],⟨_,_,rfl⟩,λY hY=>?_⟩
  walk_at "dl"
  refine⟨trivial,?_,hY⟩
  rw[show (AA1 "@").length=1 by decide +kernel];exact am (by lia)
 ·rw[AAW,AAA,AA6];exact am (by lia)
 ·have e:∀q:List (Str×Int),(q.map aw).map (λd=>match d with | .tup (.str x::_)=>.str (AA1 "@" ++ x) | _=>.non)=(q.map λy=>AA1 "@" ++ y.1).map D.str:=λq=>by
   rw[AAi,AAi];rfl
  have a1:(AA1 "@").length=1:=by decide +kernel
  have x1:(AA1 "x").length=1:=by decide +kernel
  have zl:(AA1 "@" ++ z).length=1+z.length:=by rw[aB,cv,AA8,←aB,←aB,a1]
  have bl:∀y∈((z,m)::ps).map (λy=>AA1 "@" ++ y.1),y.length<=10:=λy hy=>by
   obtain⟨q,hq,rfl⟩:=AAN.mp hy
   have:=h8 q hq
   rw[aB,cv,AA8,←aB,←aB,a1];lia
  rw[show (D.tup [.str z,.int m])=aw (z,m)from rfl,←AAM,e ((z,m)::ps),AAr]
  have nl:(((z,m)::ps).map (λy=>AA1 "@" ++ y.1)).length=ps.length+1:=by rw[AA6,AAA]
  generalize ((z,m)::ps).map (λy=>AA1 "@" ++ y.1)=ns at bl nl
  generalize AA1 "@" ++ z=w at zl
  refine⟨am (by lia),am (by lia),am (by lia),_,_,aH aO,aO,?_,?_⟩
  ·rw[AA6];exact am (by simp only[AAA,AAW];lia)
  ·rw[show [D.str (AA1 "hi"),D.str (AA1 "a"),D.str (w++AA1 "x")]=[AA1 "hi",AA1 "a",w++AA1 "x"].map D.str from rfl,←ABQ]
   have b2:∀y∈ns++[AA1 "hi",AA1 "a",w++AA1 "x"],y.length<=10:=λy hy=>by
    rcases AAl.mp hy with hy | hy
    ·exact bl y hy
    ·simp only[AAH,AAf,or_false]at hy
     rcases hy with rfl | rfl | rfl
     ·decide +kernel
     ·decide +kernel
     ·rw[aB,cv,AA8,←aB,←aB,x1];lia
   have wl:(ns++[AA1 "hi",AA1 "a",w++AA1 "x"]).length=ps.length+4:=by rw[AA8,nl];rfl
   generalize ns++[AA1 "hi",AA1 "a",w++AA1 "x"]=all at b2 wl
   refine AL hn (by decide +kernel) (by decide +kernel) b2 (by lia) (by lia) ((((WM.now hn).app _).app _).app _) aO ?_ h
   simp only[AA8,AAX]
   lia
theorem yz(T:Tops P w K mg base):Cal P w K mg base 2 "_law_saying" nw eF :=
 Cal.byD (N:=["_law_well_here","_law_house_here","_law_signs","_law_every","_law_some","_law_parts"]) T.b T.f_saying (by walk_at "sc") wn (by have:=bZ T;walk_at "dv") wS
def dw:DSp:=λds M R=>∃(n q:Nat) (c:Int) (ps:List (Str×Int)) (r sts:List D),ds=[.ref n,.tup (.tup (ps.map aw)::r),.ref q]/\M[n]?=some (ah c)/\al M q sts/\q≠n/\(∀x∈sts,∀B:Mem,okD B 29 x=true)/\sts.length<=1000/\Few ps/\1<=(au ps).length /\
 (∀(d:D) (B:Mem),d∈sts->WM M n B->R d B)/\∀(t:Int) (d:D) (B:Mem),1<=t->d∈au ps->WM M n B->R (.tup [.int t,d]) B
theorem yV:bY dw sC:=by rintro ds M R ⟨n,q,c,ps,r,sts,rfl,_⟩;rfl
def pq:DTS:=aF (dE (aa (dOp aJ (dC (.int 1)) (dCB ao (aa (ab 0) (aa (dOp qIx (dB (aa (dC (.int 4)) (aa (dOp CK (dC (.int 10)) (dC (.int 12))) ac))) (dCB ao (aa (ab 0) (aa (dC (.int 2)) ac)))) ac)))) (aa (dOp qIx (ab 3) (dCB ao (aa (ab 0) (aa (dCB fj (aa (ab 3) ac)) ac)))) ac)))
def jk:DTS:=aC (bT (dCB gU (aa (ab 1) ac)) 3) (pq)
def xj:DTS:=aC (dIf (zS (ak (dOp qNe (ab 2) (dB ac))) (ak (dOp qGt (dCB ao (aa (ab 0) (aa (dC (.int 8)) ac))) (dC (.int 0))))) (aF (dOp qIx (ab 2) (dCB ao (aa (ab 0) (aa (dCB fj (aa (ab 2) ac)) ac))))) aA) (jk)
theorem xH{M B:Mem}{R:DK}{n:Nat}{c:Int}{ps:List (Str×Int)}{r:List D}{y2:Option D}(hn:M[n]?=some (ah c))(few:Few ps)(h1:1<=(au ps).length)(wm:WM M n B)(h:∀(t:Int) (d:D) (B:Mem),1<=t->d∈au ps->WM M n B->R (.tup [.int t,d]) B) :
  jk (EE M R) [some (.ref n),some (.tup (.tup (ps.map aw)::r)),y2,none] B:=by
 have nM:n<M.length:=(AA2.mp hn).1
 have hl:=ci few.2
 have f4:=few.1
 simp only[jk]
 walk_at "dl"
 refine⟨ps,r,rfl,few,?_⟩
 have wm1:=wm.app [MO.lst (au ps)]
 have l1:(B++[MO.lst (au ps)])[B.length]?=some (.lst (au ps)):=aO
 have bl:=wm.len
 generalize B++[MO.lst (au ps)]=B1 at wm1 l1
 generalize B.length=k at l1 bl
 simp only[pq]
 walk_at "dl"
 have wm2:=wm1.app [MO.lst [D.int 4,D.int (10 ^ ACF 12)]]
 have l2:(B1++[MO.lst [D.int 4,D.int (10 ^ ACF 12)]])[k]?=some (.lst (au ps)):=bM l1
 have t2:al (B1++[MO.lst [D.int 4,D.int (10 ^ ACF 12)]]) B1.length [D.int 4,D.int (10 ^ ACF 12)]:=af
 have b1:=wm1.len
 obtain⟨c2,hc2⟩:=wm2.get hn
 generalize B1++[MO.lst [D.int 4,D.int (10 ^ ACF 12)]]=B2 at wm2 l2 t2 hc2
 generalize B1.length=k2 at t2 b1
 refine⟨by unfold Gq;decide,am (by lia),n,c2,2,rfl,hc2,by decide,by decide,λi c3 i0 i2=>⟨_,bb (by lia) t2,?_⟩⟩
 have wm3:WM M n (B2.set n (ah c3)):=wm2.set hn _
 have l3:(B2.set n (ah c3))[k]?=some (.lst (au ps)):=bc (by lia) l2
 obtain⟨c4,hc4⟩:=wm3.get hn
 generalize B2.set n (ah c3)=B3 at wm3 l3 hc4
 obtain⟨w,hw,w0,w15⟩:∃w:Int,atI [D.int 4,D.int (10 ^ ACF 12)] i=some (.int w)/\0<w/\w<1000000000000000:=by
  have:i=0\/i=1:=by lia
  rcases this with rfl | rfl
  ·exact⟨4,aZ (j:=0) rfl,by decide,by decide⟩
  ·exact⟨10 ^ ACF 12,aZ (j:=1) rfl,by decide,by decide⟩
 rw[hw]
 refine⟨n,c4,w,rfl,hc4,w0,w15,λv c5 v0 v1=>?_⟩
 have wm4:WM M n (B3.set n (ah c5)):=wm3.set hn _
 have l4:(B3.set n (ah c5))[k]?=some (.lst (au ps)):=bc (by lia) l3
 obtain⟨c6,hc6⟩:=wm4.get hn
 generalize B3.set n (ah c5)=B4 at wm4 l4 hc6
 refine⟨_,.inl l4,n,c6,_,rfl,hc6,by lia,by lia,λj c7 j0 j1=>⟨_,.inl (bc (by lia) l4),?_⟩⟩
 obtain⟨jn,hj,ej,_⟩:=dD j0 j1
 rw[ej]
 exact⟨am (by lia),.inl (h _ _ _ (by lia) (AAo hj) (wm4.set hn _))⟩
theorem Ax:WpT dw 4 xj:=by
 rintro ds M R ⟨n,q,c,ps,r,sts,rfl,hn,hq,qn,ok,l1000,few,h1,h0,h⟩
 simp only[xj]
 walk_at "dl"
 obtain⟨okk,enil⟩:=ja hq λx hx=>ok x hx _
 refine⟨AAT _,okk,?_⟩
 rw[enil]
 have wm1:WM M n (M++[MO.lst []]):=(WM.now hn).app _
 obtain⟨c1,hc1⟩:=wm1.get hn
 cases hs:sts.isEmpty with
 | true =>
  exact ba (xH hn few h1 wm1 h)
 | false =>
  refine aI ⟨n,c1,8,rfl,hc1,by decide,by decide,λv c2 v0 v8=>?_⟩
  have wm2:WM M n ((M++[MO.lst []]).set n (ah c2)):=wm1.set hn _
  have lq:al ((M++[MO.lst []]).set n (ah c2)) q sts:=bb qn (hq.more _)
  generalize (M++[MO.lst []]).set n (ah c2)=B2 at wm2 lq
  dsimp only
  by_cases hv:0<v
  ·rw[decide_eq_true hv]
   have sl:1<=sts.length:=by cases sts<;>simp_all
   obtain⟨c3,hc3⟩:=wm2.get hn
   refine aI ⟨sts,lq,n,c3,_,rfl,hc3,by lia,by lia,λi c4 i0 i1=>⟨sts,bb qn lq,?_⟩⟩
   obtain⟨j,hj,ej,_⟩:=dD i0 i1
   rw[ej]
   exact .inl (h0 _ _ (AAo hj) (wm2.set hn _))
  ·rw[decide_eq_false hv]
   exact ba (xH hn few h1 wm2 h)
theorem nB(T:Tops P w K mg base):Cal P w K mg base 2 "_law_stamp" sC dw :=
 Cal.byD (N:=["_law_well_here","_law_house_here","_law_stamps","_law_hands_here"]) T.b T.f_stamp (by walk_at "sc") yV (by have:=bZ T;have:=uJ T;walk_at "dv") Ax
def JX(ps:List (Str×Int))(vs:List D):Prop:=∃hs:List (D×Int),vs=hs.map (λp=>.tup [p.1,.int p.2])/\(hs.map (·.1)).Sublist (au ps)/\∀p∈hs,1<=p.2
def cP:DSp:=λds M R=>∃(n:Nat) (c:Int) (ps:List (Str×Int)) (r:List D),ds=[.ref n,.tup (.tup (ps.map aw)::r)]/\M[n]?=some (ah c)/\Few ps/\∀(vs:List D) (B:Mem),JX ps vs->WM M n B->R (.tup vs) B
theorem wk:bY cP nv:=by rintro ds M R ⟨n,c,ps,r,rfl,_⟩;rfl
def lV:DTS:=aF (dCB fh (aa (ab 2) ac))
def lW:DTS:=aC (tN (bK (dCB gU (aa (ab 1) ac))) (ar 3) (dIf (ak (dOp qGt (dCB ao (aa (ab 0) (aa (dC (.int 3)) ac))) (dC (.int 0)))) (rj (dMl dY (ab 2) (aa (dE (aa (ab 3) (aa (dOp aJ (dC (.int 1)) (dCB ao (aa (ab 0) (aa (dOp qIx (dB (aa (dC (.int 4)) (aa (dC (.int 200)) ac))) (dCB ao (aa (ab 0) (aa (dC (.int 2)) ac)))) ac)))) ac))) ac))) aA)) (lV)
def ud:DTS:=aC (bT (dB ac) 2) (lW)
theorem wR:WpT cP 4 ud:=by
 rintro ds M R ⟨n,c,ps,r,rfl,hn,few,h⟩
 have nM:n<M.length:=(AA2.mp hn).1
 have hl:=ci few.2
 have f4:=few.1
 simp only[ud,lW]
 walk_at "dl"
 refine⟨AAT _,ps,r,rfl,few,?_⟩
 dsimp only
 have wm1:WM M n (M++[MO.lst []]++[MO.lst (au ps)]):=((WM.now hn).app _).app _
 have l1:al (M++[MO.lst []]++[MO.lst (au ps)]) (M++[MO.lst []]).length (au ps):=af
 have g1:(M++[MO.lst []]++[MO.lst (au ps)])[M.length]?=some (.lst ([]:List D)):=bM aO
 have kq:M.length<(M++[MO.lst []]).length:=by simp
 generalize M++[MO.lst []]++[MO.lst (au ps)]=C1 at wm1 l1 g1
 generalize (M++[MO.lst []]).length=k at l1 kq
 refine⟨_,l1,λ_=>?_⟩
 refine cy (λi S M'=>∃(hs:List (D×Int)) (a:Option D),(hs.map (·.1)).Sublist ((au ps).take i)/\(∀p∈hs,1<=p.2)/\WM M n M'/\M'[M.length]?=some (.lst (hs.map λp=>.tup [p.1,.int p.2]))/\al M' k (au ps)/\S=[some (.ref n),some (.tup (.tup (ps.map aw)::r)),some (.ref M.length),a]) ?_ ?_ ⟨[],_,List.nil_sublist _,(λ_ z=>nomatch z),wm1,g1,l1,rfl⟩
 ·rintro S M' ⟨hs,a,hsub,hpos,wm,g,l,rfl⟩
  refine⟨l,?_⟩
  simp only[lV]
  walk_at "dl"
  exact⟨_,.inl g,.inl (h _ _ ⟨hs,rfl,hsub.trans (ADl _ _),hpos⟩ wm)⟩
 ·rintro i y S M' hy ⟨hs,a,hsub,hpos,wm,g,l,rfl⟩ G hG
  refine⟨l,?_⟩
  have hil:=(AA2.mp hy).1
  have hsl:=hsub.length_le
  rw[AA6,AAh]at hsl
  have skip:(hs.map (·.1)).Sublist ((au ps).take (i+1)):=by
   rw[ABk]
   exact hsub.trans (List.sublist_append_left _ _)
  obtain⟨c2,hc2⟩:=wm.get hn
  walk_at "dl"
  refine⟨n,c2,3,rfl,hc2,by decide,by decide,λv c3 v0 v3=>?_⟩
  have wm2:WM M n (M'.set n (ah c3)):=wm.set hn _
  have g2:(M'.set n (ah c3))[M.length]?=some (.lst (hs.map λp=>.tup [p.1,.int p.2])):=bc (by lia) g
  have l2:al (M'.set n (ah c3)) k (au ps):=bb (by lia) l
  generalize M'.set n (ah c3)=B2 at wm2 g2 l2
  dsimp only
  by_cases hv:0<v
  ·rw[decide_eq_true hv]
   refine aI ⟨⟨_,.inl g2⟩,am (by lia),?_⟩
   have wm3:=wm2.app [MO.lst [D.int 4,D.int 200]]
   have g3:=bM (a:=MO.lst [D.int 4,D.int 200]) g2
   have l3:=l2.more [MO.lst [D.int 4,D.int 200]]
   have t3:al (B2++[MO.lst [D.int 4,D.int 200]]) B2.length [D.int 4,D.int 200]:=af
   have b2:=wm2.len
   obtain⟨c4,hc4⟩:=wm3.get hn
   generalize B2++[MO.lst [D.int 4,D.int 200]]=B3 at wm3 g3 l3 t3 hc4
   generalize B2.length=k3 at t3 b2
   refine⟨n,c4,2,rfl,hc4,by decide,by decide,λw c5 w0 w2=>⟨_,bb (by lia) t3,?_⟩⟩
   obtain⟨z,hz,z0,z15⟩:∃z:Int,atI [D.int 4,D.int 200] w=some (.int z)/\0<z/\z<1000000000000000:=by
    have:w=0\/w=1:=by lia
    rcases this with rfl | rfl
    ·exact⟨4,aZ (j:=0) rfl,by decide,by decide⟩
    ·exact⟨200,aZ (j:=1) rfl,by decide,by decide⟩
   rw[hz]
   have wm4:WM M n (B3.set n (ah c5)):=wm3.set hn _
   have g4:(B3.set n (ah c5))[M.length]?=some (.lst (hs.map λp=>.tup [p.1,.int p.2])):=bc (by lia) g3
   have l4:al (B3.set n (ah c5)) k (au ps):=bb (by lia) l3
   obtain⟨c6,hc6⟩:=wm4.get hn
   generalize B3.set n (ah c5)=B4 at wm4 g4 l4 hc6
   refine⟨n,c6,z,rfl,hc6,z0,z15,λu c7 u0 u1=>⟨am (by lia),_,bc (by lia) g4,by rw[AA6];exact small1000 (by lia),?_⟩⟩
   refine Fgt.now (hG _ _ ⟨hs++[(y,1+u)],_,?_,λp hp=>?_,(wm4.set hn _).hi (AAD _),?_,bb (by lia) (bb (by lia) l4),rfl⟩)
   ·rw[ABQ,ABk,hy]
    exact hsub.append (List.Sublist.refl _)
   ·rcases AAl.mp hp with hp | hp
    ·exact hpos p hp
    ·rw[AAY.mp hp];dsimp only;lia
   ·rw[eA (bc (by lia) g4)]
    simp
  ·rw[decide_eq_false hv]
   exact ba (Fgt.now (hG _ _ ⟨hs,_,skip,hpos,wm2,g2,l2,rfl⟩))
theorem kH(T:Tops P w K mg base):Cal P w K mg base 2 "_law_vector" nv cP :=
 Cal.byD (N:=["_law_well_here","_law_house_here","_law_vector_here","_law_hand"]) T.b T.f_vector (by walk_at "sc") wk (by have:=bZ T;have:=uJ T;walk_at "dv") wR
def smD:Nat->D->Bool
 | n+1,.tup xs=>decide (xs.length<=12)&&xs.all (smD n)
 | 0,.tup _=>false
 | _,_=>true
theorem DB(h:smD n (.tup xs)=true):xs.length<=12/\∃m,n=m+1/\∀x∈xs,smD m x=true:=by
 cases n with
 | zero=>cases h
 | succ n =>
  have h':(decide (xs.length<=12)&&xs.all (smD n))=true:=h
  rw[AAC,AAK,decide_eq_true_eq]at h'
  exact⟨h'.1,n,rfl,h'.2⟩
structure GoodP(n:Nat)(d:D):Prop where
 gd:∀M:Mem,Gdn M n d
 sm:smD n d=true
 ln:∀x,d=.str x->x.length<=100
theorem cN(h:x.length<=100)(hn:n<=30:=by decide):GoodP n (.str x):=⟨λM=>mL (by lia) hn,by cases n<;>rfl,λy e=>by injection e with e;subst e;exact h⟩
theorem Ja(hn:n<=30:=by decide):GoodP n .non:=⟨λM=>Dd hn,by cases n<;>rfl,λy e=>by cases e⟩
theorem Jb(hn:n<=30:=by decide):GoodP n (.bl b):=⟨λM=>Fu hn,by cases n<;>rfl,λy e=>by cases e⟩
theorem qS(hn:n<=30:=by decide):GoodP n (.int b):=⟨λM=>qT hn,by cases n<;>rfl,λy e=>by cases e⟩
theorem uW(h:∀x∈xs,GoodP n x)(l:xs.length<=12)(hn:n+1<=30):GoodP (n+1) (.tup xs):=by
 refine⟨λM=>Gdn.mk (by lia) hn λx hx=>(h x hx).gd M,?_,λy e=>by cases e⟩
 show (decide (xs.length<=12)&&xs.all (smD n))=true
 rw[decide_eq_true l,AAx,AAK]
 exact λx hx=>(h x hx).sm
theorem kT(ha:GoodP n a)(hb:GoodP n b)(hn:n+1<=30:=by decide):GoodP (n+1) (.tup [a,b]):=uW (λx hx=>by
 simp only[AAH,AAf,or_false]at hx
 rcases hx with rfl | rfl
 ·exact ha
 ·exact hb) (by simp) hn
theorem tF(h8:∀p∈ps,p.1.length<=8)(h:d∈au ps)(hn:n+1<=30):GoodP (n+1) d:=by
 obtain⟨p,hp,k,rfl,_⟩:=uV h
 have:=h8 p hp
 exact kT (cN (by lia) (by lia)) (qS (by lia)) hn
theorem nT(h8:∀p∈ps,p.1.length<=8)(h:d∈au ps)(hn:n+2<=30):GoodP (n+2) (.tup [.int t,d]):=kT (qS (by lia)) (tF h8 h (by lia)) hn
def oo:DSp:=λds M R=>∃(n q:Nat) (c:Int) (ps:List (Str×Int)) (rs:List (Str×List Str)) (r sts:List D),ds=[.ref n,.tup (.tup (ps.map aw)::.tup (rs.map bh)::r),.ref q]/\M[n]?=some (ah c)/\al M q sts/\q≠n/\(∀x∈sts,∀B:Mem,okD B 29 x=true)/\(∀x∈sts,∀k,k<=20->GoodP (k+2) x)/\(∀p∈ps,p.1.length<=8)/\(∀p∈rs,p.1.length<=8)/\sts.length<=1000/\Few ps/\1<=(au ps).length/\1<=ps.length/\1<=rs.length/\rs.length<=4 /\
 ∀(d:D) (B:Mem),GoodP 3 d->WM M n B->R d B
theorem Bs:bY oo yo:=by rintro ds M R ⟨n,q,c,ps,rs,r,sts,rfl,_⟩;rfl
theorem qR(h:d∈au ps):Hd d:=by
 obtain⟨p,_,k,rfl,_⟩:=uV h
 exact⟨_,_,rfl⟩
def tZ:DTS:=aF (dE (aa (dC (.str "under")) (aa (dCB dw (aa (ab 0) (aa (ab 1) (aa (ab 2) ac)))) ac)))
def ua:DTS:=aC (dIf (ak (dOp qEq (ab 3) (dC (.int 1)))) (aF (dE (aa (dC (.str "person")) (aa (dOp qIx (dOp qIx (dOp qIx (ab 1) (dC (.int 0))) (dCB ao (aa (ab 0) (aa (dCB fj (aa (dOp qIx (ab 1) (dC (.int 0))) ac)) ac)))) (dC (.int 0))) ac)))) aA) (tZ)
def ub:DTS:=aC (dIf (ak (dOp qEq (ab 3) (dC (.int 0)))) (aF (dE (aa (dC (.str "room")) (aa (dOp qIx (dOp qIx (dOp qIx (ab 1) (dC (.int 1))) (dCB ao (aa (ab 0) (aa (dCB fj (aa (dOp qIx (ab 1) (dC (.int 1))) ac)) ac)))) (dC (.int 0))) ac)))) aA) (ua)
def CC:DTS:=aC (bT (dCB ao (aa (ab 0) (aa (dC (.int 3)) ac))) 3) (ub)
theorem Do:WpT oo 4 CC:=by
 rintro ds M R ⟨n,q,c,ps,rs,r,sts,rfl,hn,hq,qn,ok,bel,h8,r8,l1000,few,h1,p1,r1,r4,h⟩
 have f4:=few.1
 simp only[CC,ub]
 walk_at "dl"
 refine⟨n,c,3,rfl,hn,by decide,by decide,λi c1 i0 i3=>⟨⟨ae,ae⟩,?_⟩⟩
 have wm1:WM M n (M.set n (ah c1)):=WM.drawn
 have q1:=bb (x:=ah c1) qn hq
 generalize M.set n (ah c1)=B1 at wm1 q1
 obtain⟨c2,hc2⟩:=wm1.get hn
 cases eqD B1 eqN (.int i) (.int 0) with
 | true =>
  refine aI ?_
  rw[AA6]
  refine⟨n,c2,rs.length,rfl,hc2,by lia,by lia,λj c3 j0 j1=>?_⟩
  obtain⟨jn,hj,ej,_⟩:=dD (xs:=rs.map bh) j0 (by rw[AA6];exact j1)
  dsimp only
  rw[ej,ACM]
  unfold bh
  walk_at "dl"
  exact⟨am (by lia),.inl (h _ _ (kT (cN (by decide +kernel)) (cN (by have:=r8 _ (AAo (l:=rs) (by rw[AA6]at hj;exact hj));lia))) (wm1.set hn _))⟩
 | false =>
  refine ba ?_
  simp only[ua]
  walk_at "dl"
  refine⟨⟨ae,ae⟩,?_⟩
  cases eqD B1 eqN (.int i) (.int 1) with
  | true =>
   refine aI ?_
   rw[AA6]
   refine⟨n,c2,ps.length,rfl,hc2,by lia,by lia,λj c3 j0 j1=>?_⟩
   obtain⟨jn,hj,ej,_⟩:=dD (xs:=ps.map aw) j0 (by rw[AA6];exact j1)
   dsimp only
   rw[ej,ACM]
   unfold aw
   walk_at "dl"
   exact⟨am (by lia),.inl (h _ _ (kT (cN (by decide +kernel)) (cN (by have:=h8 _ (AAo (l:=ps) (by rw[AA6]at hj;exact hj));lia))) (wm1.set hn _))⟩
  | false =>
   refine ba ?_
   simp only[tZ]
   walk_at "dl"
   refine⟨n,q,c2,ps,_,sts,rfl,hc2,q1,qn,ok,l1000,few,h1,λd B hd w=>⟨am (by lia),.inl (h _ _ ?_ (wm1.trans hn w))⟩,λt d B t1 hd w=>⟨am (by lia),.inl (h _ _ ?_ (wm1.trans hn w))⟩⟩
   ·exact kT (cN (by decide +kernel)) (bel d hd 0 (by decide))
   ·exact kT (cN (by decide +kernel)) (nT (n:=0) h8 hd (by decide))
theorem Em(T:Tops P w K mg base):Cal P w K mg base 3 "_law_what" yo oo :=
 Cal.byD (N:=["_law_well_here","_law_house_here","_law_stamps","_law_way"]) T.b T.f_what (by walk_at "sc") Bs (by have:=bZ T;have:=nB T;walk_at "dv") Do
def Gr(ds:List D):Prop:=(1<=ds.length/\ds.length<=3)/\∀d∈ds,GoodP 3 d
def vm:DSp:=λds M R=>∃(n q:Nat) (c:Int) (p:Str×Int) (ps:List (Str×Int)) (rs:List (Str×List Str)) (r sts:List D),ds=[.ref n,.tup (.tup ((p::ps).map aw)::.tup (rs.map bh)::r),.ref q]/\M[n]?=some (ah c)/\al M q sts/\q≠n/\(∀x∈sts,∀B:Mem,okD B 29 x=true)/\(∀x∈sts,∀k,k<=20->GoodP (k+2) x)/\sts.length<=1000/\Few (p::ps)/\1<=(au (p::ps)).length/\(∀q∈p::ps,q.1.length<=8)/\(∀q∈rs,q.1.length<=8)/\1<=rs.length/\rs.length<=4 /\
 ∀(x:Str) (ds:List D) (B:Mem),x.length<=10->Gr ds->WM M n B->R (.tup (.str x::ds)) B
theorem ED:bY vm Ek:=by rintro ds M R ⟨n,q,c,p,ps,rs,r,sts,rfl,_⟩;rfl
theorem IZ(h8:∀p∈ps,p.1.length<=8)(few:Few ps)(h:JX ps vs):GoodP 3 (.tup vs):=by
 obtain⟨hs,rfl,hsub,_⟩:=h
 have hl:=ci few.2
 have f4:=few.1
 have hsl:=hsub.length_le
 rw[AA6]at hsl
 refine uW (n:=2) (λx hx=>?_) (by rw[AA6];lia) (by decide)
 obtain⟨p,hp,rfl⟩:=AAN.mp hx
 exact kT (n:=1) (tF (n:=0) h8 (hsub.subset (AAN.mpr ⟨p,hp,rfl⟩)) (by decide)) qS
theorem actP1(ha:GoodP 3 a):Gr [a]:=⟨⟨by simp,by simp⟩,λx hx=>by rw[AAY.mp hx];exact ha⟩
theorem Gf(ha:GoodP 3 a)(hb:GoodP 3 b):Gr [a,b]:=⟨⟨by simp,by simp⟩,λx hx=>by
 simp only[AAH,AAf,or_false]at hx
 rcases hx with rfl | rfl
 ·exact ha
 ·exact hb⟩
theorem JW(ha:GoodP 3 a)(hb:GoodP 3 b)(hc:GoodP 3 c):Gr [a,b,c]:=⟨⟨by simp,by simp⟩,λx hx=>by
 simp only[AAH,AAf,or_false]at hx
 rcases hx with rfl | rfl | rfl
 ·exact ha
 ·exact hb
 ·exact hc⟩
def uy:DTS:=aF (dE (aa (dOp qIx (dB (aa (dC (.str "back")) (aa (dC (.str "seen")) (aa (dC (.str "rung")) ac)))) (dMl jZ (dB (aa (dC (.int 7)) (aa (dC (.int 8)) (aa (dC (.int 11)) ac)))) (aa (ab 3) ac))) (aa (ab 6) ac)))
def xw:DTS:=aC (dIf (dOr (ak (dOp qEq (ab 3) (dC (.int 5)))) (ak (dOp qEq (ab 3) (dC (.int 6))))) (aF (dE (aa (dC (.str "like")) (aa (ab 6) (aa (dOp qIx (dB (aa (dC (.str "a")) (aa (dC (.str "ab")) (aa (dCB iq (aa (ab 0) ac)) ac)))) (dCB ao (aa (ab 0) (aa (dC (.int 3)) ac)))) (aa (dOp qGt (dCB ao (aa (ab 0) (aa (dC (.int 3)) ac))) (dC (.int 0))) ac)))))) aA) (uy)
def rX:DTS:=aC (dIf (ak (dOp qEq (ab 3) (dC (.int 4)))) (aF (dE (aa (dC (.str "change")) (aa (ab 6) (aa (dCB eF (aa (ab 0) (aa (ab 1) ac))) ac))))) aA) (xw)
def rY:DTS:=aC (bT (dCB dw (aa (ab 0) (aa (ab 1) (aa (ab 2) ac)))) 6) (rX)
def xx:DTS:=aC (dIf (ak (dOp qEq (ab 3) (dC (.int 10)))) (aF (dE (aa (dC (.str "hush")) (aa (dCB oo (aa (ab 0) (aa (ab 1) (aa (ab 2) ac)))) (aa (dOp qEq (dCB ao (aa (ab 0) (aa (dC (.int 2)) ac))) (dC (.int 1))) ac))))) aA) (rY)
def rZ:DTS:=aC (dIf (ak (dOp qEq (ab 3) (dC (.int 9)))) (aF (dE (aa (dC (.str "read")) (aa (ab 4) (aa (dCB cP (aa (ab 0) (aa (ab 1) ac))) ac))))) aA) (xx)
def sd:DTS:=aF (dE (aa (dC (.str "say")) (aa (ab 4) (aa (ab 5) (aa (dCB eF (aa (ab 0) (aa (ab 1) ac))) ac)))))
def xy:DTS:=aC (dIf (ak (dOp qEq (dCB ao (aa (ab 0) (aa (dC (.int 2)) ac))) (dC (.int 1)))) (bT (dCB dw (aa (ab 0) (aa (ab 1) (aa (ab 2) ac)))) 5) aA) (sd)
def xz:DTS:=aC (dIf (ak (dOp qLt (ab 3) (dC (.int 4)))) (aC (bT (dC .non) 5) (xy)) aA) (rZ)
def xA:DTS:=aC (bT (dOp qIx (dOp qIx (dOp qIx (ab 1) (dC (.int 1))) (dCB ao (aa (ab 0) (aa (dCB fj (aa (dOp qIx (ab 1) (dC (.int 1))) ac)) ac)))) (dC (.int 0))) 4) (xz)
def GC:DTS:=aC (bT (dCB ao (aa (ab 0) (aa (dC (.int 12)) ac))) 3) (xA)
theorem act_7{M B:Mem}{R:DK}{n q:Nat}{c way:Int}{p:Str×Int}{ps:List (Str×Int)}{rs:List (Str×List Str)}{r sts:List D}{y4 y5:Option D}(hn:M[n]?=some (ah c))(wm:WM M n B)(hq:al B q sts)(qn:q≠n)(ok:∀x∈sts,∀B:Mem,okD B 29 x=true)(bel:∀x∈sts,∀k,k<=20->GoodP (k+2) x)(l1000:sts.length<=1000)(few:Few (p::ps))(h1:1<=(au (p::ps)).length)(h8:∀q∈p::ps,q.1.length<=8)
  (hw:way=4\/way=5\/way=6\/way=7\/way=8\/way=11) (h:∀(x:Str) (ds:List D) (B:Mem),x.length<=10->Gr ds->WM M n B->R (.tup (.str x::ds)) B) :
  rY (EE M R) [some (.ref n),some (.tup (.tup ((p::ps).map aw)::.tup (rs.map bh)::r)),some (.ref q),some (.int way),y4,y5,none] B:=by
 have nM:n<M.length:=(AA2.mp hn).1
 obtain⟨c1,hc1⟩:=wm.get hn
 have go:∀(d:D) (B1:Mem),GoodP 3 d->WM B n B1->rX (EE M R) [some (.ref n),some (.tup (.tup ((p::ps).map aw)::.tup (rs.map bh)::r)),some (.ref q),some (.int way),y4,y5,some d] B1:=λd B1 bd w1=>by
  have wm1:=wm.trans hn w1
  obtain⟨c2,hc2⟩:=wm1.get hn
  simp only[rX]
  walk_at "dl"
  refine⟨⟨ae,ae⟩,?_⟩
  rw[bi]
  by_cases e4:way=4
  ·rw[beq_iff_eq.mpr e4]
   exact aI ⟨n,c2,p,ps,_,rfl,hc2,few,h8,λx B2 hx w2=>⟨am (by lia),.inl (h _ _ _ (by decide +kernel) (Gf bd (cN hx)) (wm1.trans hn w2))⟩⟩
  rw[beq_eq_false_iff_ne.mpr e4]
  refine ba ?_
  simp only[xw]
  walk_at "dl"
  refine⟨⟨ae,ae⟩,?_⟩
  rw[bi,bi]
  by_cases e56:way=5\/way=6
  ·have like:∀z B2 (v:Int),z.length<=100->WM M n B2->aq M R (.tup [.str (AA1 "like"),d,.str z,.bl (decide (0<v))]) B2:=λz B2 v hz wm2=>.inl (h _ _ _ (by decide +kernel) (JW bd (cN hz) Jb) wm2)
   have gets:∀(z:Str) (v:Int),z.length<=8->0<=v->v<3->∃y:Str,atI [D.str (AA1 "a"),D.str (AA1 "ab"),D.str z] v=some (.str y)/\y.length<=100:=λz v z8 v0 v3=>by
    have:v=0\/v=1\/v=2:=by lia
    rcases this with rfl | rfl | rfl
    ·exact⟨_,aZ (j:=0) rfl,by decide +kernel⟩
    ·exact⟨_,aZ (j:=1) rfl,by decide +kernel⟩
    ·exact⟨_,aZ (j:=2) rfl,by lia⟩
   rcases e56 with e5 | e6
   ·rw[beq_iff_eq.mpr e5]
    refine aI ⟨n,c2,rfl,hc2,λz B2 nz w2=>⟨am (by lia),?_⟩⟩
    have wm2:=wm1.trans hn w2
    have b2:=wm2.len
    have wm3:=wm2.app [MO.lst [D.str (AA1 "a"),D.str (AA1 "ab"),D.str z]]
    have t3:al (B2++[MO.lst [D.str (AA1 "a"),D.str (AA1 "ab"),D.str z]]) B2.length [D.str (AA1 "a"),D.str (AA1 "ab"),D.str z]:=af
    generalize B2++[MO.lst [D.str (AA1 "a"),D.str (AA1 "ab"),D.str z]]=B3 at wm3 t3
    generalize B2.length=k at t3 b2
    obtain⟨c3,hc3⟩:=wm3.get hn
    refine⟨n,c3,3,rfl,hc3,by decide,by decide,λv c4 v0 v3=>⟨_,bb (by lia) t3,?_⟩⟩
    obtain⟨y,ey,hy⟩:=gets z v nz.2.1 v0 v3
    rw[ey]
    have wm4:WM M n (B3.set n (ah c4)):=wm3.set hn _
    obtain⟨c5,hc5⟩:=wm4.get hn
    exact⟨n,c5,3,rfl,hc5,by decide,by decide,λu c6 u0 u3=>⟨am (by lia),like _ _ _ hy (wm4.set hn _)⟩⟩
   ·rw[beq_eq_false_iff_ne.mpr (show way≠5 by lia),beq_iff_eq.mpr e6]
    refine ba ⟨⟨ae,ae⟩,aI ⟨n,c2,rfl,hc2,λz B2 nz w2=>⟨am (by lia),?_⟩⟩⟩
    have wm2:=wm1.trans hn w2
    have b2:=wm2.len
    have wm3:=wm2.app [MO.lst [D.str (AA1 "a"),D.str (AA1 "ab"),D.str z]]
    have t3:al (B2++[MO.lst [D.str (AA1 "a"),D.str (AA1 "ab"),D.str z]]) B2.length [D.str (AA1 "a"),D.str (AA1 "ab"),D.str z]:=af
    generalize B2++[MO.lst [D.str (AA1 "a"),D.str (AA1 "ab"),D.str z]]=B3 at wm3 t3
    generalize B2.length=k at t3 b2
    obtain⟨c3,hc3⟩:=wm3.get hn
    refine⟨n,c3,3,rfl,hc3,by decide,by decide,λv c4 v0 v3=>⟨_,bb (by lia) t3,?_⟩⟩
    obtain⟨y,ey,hy⟩:=gets z v nz.2.1 v0 v3
    rw[ey]
    have wm4:WM M n (B3.set n (ah c4)):=wm3.set hn _
    obtain⟨c5,hc5⟩:=wm4.get hn
    exact⟨n,c5,3,rfl,hc5,by decide,by decide,λu c6 u0 u3=>⟨am (by lia),like _ _ _ hy (wm4.set hn _)⟩⟩
  ·rw[beq_eq_false_iff_ne.mpr (show way≠5 by lia),beq_eq_false_iff_ne.mpr (show way≠6 by lia)]
   refine ba ⟨⟨ae,ae⟩,ba ?_⟩
   simp only[uy]
   walk_at "dl"
   obtain⟨j,x,ej,nj,ex,x10⟩:∃(j:Nat) (x:Str),[(7:Int),8,11][j]?=some way/\(∀m,m<j->[(7:Int),8,11][m]?≠some way)/\atI [D.str (AA1 "back"),D.str (AA1 "seen"),D.str (AA1 "rung")] (j:Int)=some (.str x)/\x.length<=10:=by
    have:way=7\/way=8\/way=11:=by lia
    rcases this with rfl | rfl | rfl
    ·exact⟨0,_,rfl,by decide,aZ rfl,by decide +kernel⟩
    ·exact⟨1,_,rfl,by decide,aZ rfl,by decide +kernel⟩
    ·exact⟨2,_,rfl,by decide,aZ rfl,by decide +kernel⟩
   refine⟨am (by lia),am (by lia),⟨_,af⟩,[7,8,11],j,af,by decide,ej,nj,_,.inl (bM aO),?_⟩
   rw[ex]
   exact⟨am (by lia),.inl (h _ _ _ x10 (actP1 bd) ((wm1.app _).app _))⟩
 simp only[rY]
 walk_at "dl"
 refine⟨n,q,c1,p::ps,_,sts,rfl,hc1,hq,qn,ok,l1000,few,h1,λd B1 hd w=>go _ _ (bel d hd 1 (by decide)) w,λt d B1 t1 hd w=>go _ _ (nT (n:=1) h8 hd (by decide)) w⟩
theorem Gv:WpT vm 7 GC:=by
 rintro ds M R ⟨n,q,c,p,ps,rs,r,sts,rfl,hn,hq,qn,ok,bel,l1000,few,h1,h8,r8,r1,r4,h⟩
 simp only[GC,xA]
 walk_at "dl"
 refine⟨n,c,12,rfl,hn,by decide,by decide,λway c1 w0 w12=>?_⟩
 have wm1:WM M n (M.set n (ah c1)):=WM.drawn
 have q1:=bb (x:=ah c1) qn hq
 generalize M.set n (ah c1)=B1 at wm1 q1
 obtain⟨c2,hc2⟩:=wm1.get hn
 rw[AA6]
 refine⟨n,c2,rs.length,rfl,hc2,by lia,by lia,λj c3 j0 j1=>?_⟩
 obtain⟨jn,hj,ej,_⟩:=dD (xs:=rs.map bh) j0 (by rw[AA6];exact j1)
 have wm2:WM M n (B1.set n (ah c3)):=wm1.set hn _
 have q2:=bb (x:=ah c3) qn q1
 generalize B1.set n (ah c3)=B2 at wm2 q2
 dsimp only
 rw[ej,ACM]
 have rm8:=r8 _ (AAo (l:=rs) (by rw[AA6]at hj;exact hj))
 generalize rs[jn]'(by rw[AA6]at hj;exact hj)=rm at rm8
 rw[show bh rm=.tup [.str rm.1,.tup (rm.2.map .str)]from rfl]
 walk_at "dl"
 generalize rm.1=room at rm8
 simp only[xz]
 walk_at "dl"
 by_cases w4:way<4
 ·rw[decide_eq_true w4]
  refine aI ?_
  have fin:∀(d:D) (B3:Mem),GoodP 3 d->WM M n B3->sd ⟨λS' M'=>rZ (EE M R) S' M',aq M R,λ_ _=>False,λ_ _=>False⟩ [some (.ref n),some (.tup (aw p::ps.map aw)::.tup (rs.map bh)::r |> .tup),some (.ref q),some (.int way),some (.str room),some d,none] B3:=λd B3 bd wm3=>by
   obtain⟨c4,hc4⟩:=wm3.get hn
   simp only[sd]
   walk_at "dl"
   exact⟨n,c4,p,ps,_,rfl,hc4,few,h8,λx B4 hx w4=>⟨am (by lia),.inl (h _ _ _ (by decide +kernel) (JW (cN (by lia)) bd (cN hx)) (wm3.trans hn w4))⟩⟩
  obtain⟨c4,hc4⟩:=wm2.get hn
  simp only[xy]
  walk_at "dl"
  refine⟨n,c4,2,rfl,hc4,by decide,by decide,λv c5 v0 v2=>⟨⟨ae,ae⟩,?_⟩⟩
  have wm3:WM M n (B2.set n (ah c5)):=wm2.set hn _
  have q3:=bb (x:=ah c5) qn q2
  generalize B2.set n (ah c5)=B3 at wm3 q3
  obtain⟨c6,hc6⟩:=wm3.get hn
  cases eqD B3 eqN (.int v) (.int 1) with
  | true=>exact aI ⟨n,q,c6,p::ps,_,sts,rfl,hc6,q3,qn,ok,l1000,few,h1,λd B4 hd w=>fin _ _ (bel d hd 1 (by decide)) (wm3.trans hn w),λt d B4 t1 hd w=>fin _ _ (nT (n:=1) h8 hd (by decide)) (wm3.trans hn w)⟩
  | false=>exact ba (fin _ _ Ja wm3)
 rw[decide_eq_false w4]
 refine ba ?_
 obtain⟨c4,hc4⟩:=wm2.get hn
 simp only[rZ]
 walk_at "dl"
 refine⟨⟨ae,ae⟩,?_⟩
 rw[bi]
 by_cases e9:way=9
 ·rw[beq_iff_eq.mpr e9]
  refine aI ⟨n,c4,p::ps,_,rfl,hc4,few,λvs B3 vok w3=>⟨am (by lia),.inl (h _ _ _ (by decide +kernel) (Gf (cN (by lia)) (IZ h8 few vok)) (wm2.trans hn w3))⟩⟩
 rw[beq_eq_false_iff_ne.mpr e9]
 refine ba ?_
 simp only[xx]
 walk_at "dl"
 refine⟨⟨ae,ae⟩,?_⟩
 rw[bi]
 by_cases e10:way=10
 ·rw[beq_iff_eq.mpr e10]
  refine aI ⟨n,q,c4,p::ps,rs,r,sts,rfl,hc4,q2,qn,ok,bel,h8,r8,l1000,few,h1,by simp,r1,r4,λd B3 bd w3=>?_⟩
  have wm3:=wm2.trans hn w3
  obtain⟨c5,hc5⟩:=wm3.get hn
  exact⟨n,c5,2,rfl,hc5,by decide,by decide,λv c6 v0 v2=>⟨⟨ae,ae⟩,am (by lia),.inl (h _ _ _ (by decide +kernel) (Gf bd Jb) (wm3.set hn _))⟩⟩
 rw[beq_eq_false_iff_ne.mpr e10]
 refine ba ?_
 exact act_7 hn wm2 q2 qn ok bel l1000 few h1 h8 (by lia) h
theorem HK(T:Tops P w K mg base):Cal P w K mg base 4 "_law_act" Ek vm :=
 Cal.byD (N:=["_law_well_here","_law_house_here","_law_stamps","_law_way","_law_room","_law_under","_law_message"]) T.b T.f_act (by walk_at "sc") ED (by have:=bZ T;have:=yy T;have:=yz T;have:=nB T;have:=kH T;have:=Em T;walk_at "dv") Gv
theorem Jc{M:Mem}{n:Nat}{c c':Int}(h:M[n]?=some (ah c)):∀(k:Nat) (d:D),gdD M k d=true->gdD (M.set n (ah c')) k d=true:=by
 intro k
 induction k with
 | zero=>intro d hd;cases d<;>first | exact hd | cases hd
 | succ k ih =>
  intro d hd
  cases d with
  | tup xs =>
   have h':(decide (xs.length<=40)&&xs.all (gdD M k))=true:=hd
   rw[AAC,AAK]at h'
   show (decide (xs.length<=40)&&xs.all (gdD (M.set n (ah c')) k))=true
   rw[AAC,AAK]
   exact⟨h'.1,λx hx=>ih x (h'.2 x hx)⟩
  | ref i =>
   simp only[gdD]at hd ⊢
   by_cases e:n=i
   ·subst e
    rw[eA h]
    show (true&&([D.int c'].all (gdD (M.set n (ah c')) k)))=true
    cases k<;>rfl
   ·rw[AAt e]
    cases e2:M[i]? with
    | none=>rw[e2]at hd;cases hd
    | some a =>
     rw[e2]at hd
     simp only[AAC,AAK]at hd ⊢
     exact⟨hd.1,λx hx=>ih x (hd.2 x hx)⟩
  | _=>exact hd
theorem Gdn.wm(g:Gdn M k d)(h:M[n]?=some (ah c))(w:WM M n B):Gdn B k d:=by
 obtain⟨c',L,rfl⟩:=w
 exact⟨g.1,zD (ABJ _ _) _ _ (Jc h _ _ g.2)⟩
def Ap(d:D):Prop:=∀xs,d=.tup xs->xs.length<=40
theorem bN(h:∀xs,d≠.tup xs):Ap d:=λxs e=>absurd e (h xs)
theorem Gdn.few(g:Gdn M n d):Ap d:=λxs e=>by subst e;exact g.tup.1
def bz:Nat->DSp:=λf ds M R=>∃(n:Nat) (c k:Int),ds=[.ref n,.int k]/\M[n]?=some (ah c)/\0<=k/\k<f/\k<=5/\∀(d:D) (B:Mem),WM M n B->Gdn B k.toNat d->Ap d->R d B
theorem yU:∀n ds M R,bz n ds M R->ds.length=["_law_well_here","_law_depth"].length:=by rintro n ds M R ⟨n,c,k,rfl,_⟩;rfl
theorem yE:∀ds M R,¬bz 0 ds M R:=by
 rintro ds M R ⟨n,c,k,rfl,_,h0,h1,_⟩
 lia
def pj(n:Nat):DTS:=aF (dOp qIx (ab 3) (dCB ao (aa (ab 0) (aa (dC (.int 11)) ac))))
def jh(n:Nat):DTS:=aC (bT (dB (aa (dC .non) (aa (dC (.bl true)) (aa (dC (.bl false)) (aa (dC (.int 0)) (aa (dC (.int 1)) (aa (dUn GR (dC (.int 1))) (aa (dOp An (dCB ao (aa (ab 0) (aa (dOp CK (dC (.int 10)) (dC (.int 12))) ac))) (dOp CK (dC (.int 10)) (dC (.int 6)))) (aa (dC (.str "")) (aa (dC (.str "a")) (aa (dC (.str "room")) (aa (dC (.str "say")) ac)))))))))))) 3) (pj n)
def ji(n:Nat):DTS:=aF (dOp qIx (dB (aa (dCB fh (aa (ab 3) ac)) (aa (ab 3) ac))) (dCB ao (aa (ab 0) (aa (dC (.int 2)) ac))))
def pk(n:Nat):DTS:=aC (dIf (zS (ak (dOp qLt (ab 2) (dC (.int 2)))) (ak (dOp qGt (ab 1) (dC (.int 0))))) (aC (ls 1 [0,1] (cL (aa (dCB ao (aa (ab 0) (aa (dC (.int 4)) ac))) ac)) (ar 0) lh (dCB (bz n) (aa (ab 1) (aa (dOp An (ab 2) (dC (.int 1))) ac))) 3) (ji n)) aA) (jh n)
def rW(n:Nat):DTS:=aC (bT (dCB ao (aa (ab 0) (aa (dC (.int 8)) ac))) 2) (pk n)
theorem xf(hn:M[n]?=some (ah c))(k5:k<=5)(wm:WM M n B)(h:∀(d:D) (B:Mem),WM M n B->Gdn B k.toNat d->Ap d->R d B) :
  jh f (EE M R) [some (.ref n),some (.int k),y2,y3] B:=by
 obtain⟨c1,hc1⟩:=wm.get hn
 simp only[jh]
 walk_at "dl"
 refine⟨by unfold Gq;decide,n,c1,_,rfl,hc1,by decide,by decide,λi c2 i0 i1=>⟨by unfold Gq;decide,am (by lia),?_⟩⟩
 have wm2:WM M n (B.set n (ah c2)):=wm.set hn _
 have bl:=wm2.len
 generalize B.set n (ah c2)=B2 at wm2 bl
 have kk:k.toNat<=30:=by lia
 have all:∀C:Mem,∀x∈[D.non,D.bl true,D.bl false,D.int 0,D.int 1,D.int (-1),D.int (i-10 ^ ACF 6),D.str (AA1 ""),D.str (AA1 "a"),D.str (AA1 "room"),D.str (AA1 "say")],Gdn C k.toNat x/\Ap x:=λC x hx=>by
  simp only[AAH,AAf,or_false]at hx
  rcases hx with rfl | rfl | rfl | rfl | rfl | rfl | rfl | rfl | rfl | rfl | rfl
  ·exact⟨Dd kk,bN λ_ z=>by cases z⟩
  ·exact⟨Fu kk,bN λ_ z=>by cases z⟩
  ·exact⟨Fu kk,bN λ_ z=>by cases z⟩
  ·exact⟨qT kk,bN λ_ z=>by cases z⟩
  ·exact⟨qT kk,bN λ_ z=>by cases z⟩
  ·exact⟨qT kk,bN λ_ z=>by cases z⟩
  ·exact⟨qT kk,bN λ_ z=>by cases z⟩
  ·exact⟨mL (by decide +kernel) kk,bN λ_ z=>by cases z⟩
  ·exact⟨mL (by decide +kernel) kk,bN λ_ z=>by cases z⟩
  ·exact⟨mL (by decide +kernel) kk,bN λ_ z=>by cases z⟩
  ·exact⟨mL (by decide +kernel) kk,bN λ_ z=>by cases z⟩
 have len:([D.non,D.bl true,D.bl false,D.int 0,D.int 1,D.int (-1),D.int (i-10 ^ ACF 6),D.str (AA1 ""),D.str (AA1 "a"),D.str (AA1 "room"),D.str (AA1 "say")]).length=11:=rfl
 generalize [D.non,D.bl true,D.bl false,D.int 0,D.int 1,D.int (-1),D.int (i-10 ^ ACF 6),D.str (AA1 ""),D.str (AA1 "a"),D.str (AA1 "room"),D.str (AA1 "say")]=some at all len
 have wm3:=wm2.app [MO.lst some]
 have l3:al (B2++[MO.lst some]) B2.length some:=af
 have nM:n<M.length:=(AA2.mp hn).1
 generalize B2++[MO.lst some]=B3 at wm3 l3
 generalize B2.length=q at l3 bl
 obtain⟨c3,hc3⟩:=wm3.get hn
 simp only[pj]
 walk_at "dl"
 refine⟨n,c3,11,rfl,hc3,by decide,by decide,λj c4 j0 j1=>⟨some,bb (by lia) l3,?_⟩⟩
 obtain⟨jn,hj,ej,_⟩:=dD (xs:=some) j0 (by lia)
 rw[ej]
 have:=all (B3.set n (ah c4)) _ (AAo hj)
 exact .inl (h _ _ (wm3.set hn _) this.1 this.2)
theorem Dv{M B:Mem}{R:DK}{E:DEnds}{n f q:Nat}{c k:Int}{acc:List D}{y2:Option D}(hn:M[n]?=some (ah c))(k1:1<=k)(k5:k<=5)(wm:WM M n B)(hq:B[q]?=some (.lst acc))(qM:M.length<=q)(a3:acc.length<=3)(ga:∀x∈acc,Gdn B (k-1).toNat x)(hE:E.rt=aq M R)(h:∀(d:D) (B:Mem),WM M n B->Gdn B k.toNat d->Ap d->R d B) :
  ji f E [some (.ref n),some (.int k),y2,some (.ref q)] B:=by
 have nM:n<M.length:=(AA2.mp hn).1
 have ek:k.toNat=(k-1).toNat+1:=by lia
 have bl:=wm.len
 have qB:q<B.length:=(AA2.mp hq).1
 simp only[ji]
 walk_at "dl"
 refine⟨acc,.inl hq,am (by lia),?_⟩
 have wm2:=wm.app [MO.lst [D.tup acc,D.ref q]]
 have hq2:=aH (a:=MO.lst [D.tup acc,D.ref q]) hq
 have l2:al (B++[MO.lst [D.tup acc,D.ref q]]) B.length [D.tup acc,D.ref q]:=af
 have ga2:∀x∈acc,Gdn (B++[MO.lst [D.tup acc,D.ref q]]) (k-1).toNat x:=λx hx=>(ga x hx).grow nr
 generalize B++[MO.lst [D.tup acc,D.ref q]]=B2 at wm2 hq2 l2 ga2
 generalize B.length=p at l2 bl qB
 obtain⟨c2,hc2⟩:=wm2.get hn
 refine⟨n,c2,2,rfl,hc2,by decide,by decide,λi c3 i0 i2=>⟨_,bb (by lia) l2,?_⟩⟩
 have wm3:WM M n (B2.set n (ah c3)):=wm2.set hn _
 have ga3:∀x∈acc,Gdn (B2.set n (ah c3)) (k-1).toNat x:=λx hx=>(ga2 x hx).wm hc2 WM.drawn
 have hq3:(B2.set n (ah c3))[q]?=some (.lst acc):=bc (by lia) hq2
 rw[hE]
 have:i=0\/i=1:=by lia
 rcases this with rfl | rfl
 ·rw[at0]
  refine .inl (h _ _ wm3 ?_ λxs e=>?_)
  ·rw[ek];exact Gdn.mk (by lia) (by lia) ga3
  ·injection e with e;subst e;lia
 ·rw[at1]
  refine .inl (h _ _ wm3 ?_ (bN λ_ z=>by cases z))
  rw[ek];exact Gdn.mkr (.inl hq3) (by lia) ga3
theorem Aw:∀n ds M R,bz (n+1) ds M R->rW n (EE M R) (bC ["_law_well_here","_law_depth","_law_way","_law_some"] ds) M:=by
 rintro f ds M R ⟨n,c,k,rfl,hn,k0,kf,k5,h⟩
 have nM:n<M.length:=(AA2.mp hn).1
 simp only[rW,pk]
 walk_at "dl"
 refine⟨n,c,8,rfl,hn,by decide,by decide,λi c2 i0 i8=>?_⟩
 have wm2:WM M n (M.set n (ah c2)):=WM.drawn
 generalize M.set n (ah c2)=B2 at wm2
 dsimp only
 cases decide (i<2) with
 | false=>exact ba (xf hn k5 wm2 h)
 | true =>
  refine aI ?_
  by_cases hk:0<k
  ·rw[decide_eq_true hk]
   obtain⟨c3,hc3⟩:=wm2.get hn
   refine aI ⟨n,c3,4,rfl,hc3,by decide,by decide,λj c4 j0 j4=>⟨⟨by lia,by lia⟩,?_⟩⟩
   have wm4:WM M n (B2.set n (ah c4)):=wm2.set hn _
   generalize B2.set n (ah c4)=B4 at wm4
   refine cz (λxs acc S M'=>∃a,S=[a,some (.ref n),some (.int k)]/\WM M n M'/\acc.length+xs.length<=3/\∀x∈acc,Gdn M' (k-1).toNat x) ?_ ?_ _ _ _ _ ⟨_,rfl,wm4,by rw[cx,AAW];lia,λ_ z=>nomatch z⟩
   ·rintro acc S M' ⟨a,rfl,wm,hl,ga⟩
    exact⟨trivial,Dv hn (by lia) k5 (wm.app _) aO wm.len (by simpa using hl) (λx hx=>(ga x hx).grow nr) rfl h⟩
   ·rintro y xs acc S M' ⟨a,rfl,wm,hl,ga⟩ K hK
    obtain⟨c5,hc5⟩:=wm.get hn
    refine⟨trivial,?_⟩
    walk_at "dl"
    rw[AAA]at hl
    refine⟨n,c5,k-1,rfl,hc5,by lia,by lia,by lia,λd B w g fw=>⟨small1000 (by lia),hK _ _ _ ⟨_,rfl,wm.trans hn w,by rw[AA8,AAX];lia,λx hx=>?_⟩⟩⟩
    rcases AAl.mp hx with hx | hx
    ·exact(ga x hx).wm hc5 w
    ·rw[AAY.mp hx];exact g
  ·rw[decide_eq_false hk]
   exact ba (xf hn k5 wm2 h)
theorem zP(T:Tops P w K mg base)(n:Nat)(C:Cal P w K mg base (1+n) "_law_thing" sB (bz n)):TopB mg B_ C_->List.Nodup (["_law_well_here","_law_depth","_law_way","_law_some"]:List Str)->DerT P w K mg base (1+n) "_law_thing" ["_law_well_here","_law_depth","_law_way","_law_some"] (top 47) (rW n):=by have:=bZ T;walk_at "dv"
theorem nA(T:Tops P w K mg base):∀n,Cal P w K mg base (1+n) "_law_thing" sB (bz n)
 | 0=>Cal.never T.f_thing yE
 | n+1=>Cal.byD (N:=["_law_well_here","_law_depth","_law_way","_law_some"]) T.b T.f_thing (by walk_at "sc") (yU (n+1)) (zP T n (nA T n)) (Aw n)
def fP:Nat->DSp:=λf ds M R=>∃(n m q:Nat) (c k:Int) (d:D),ds=[d,.ref n,.int k]/\M[n]?=some (ah c)/\0<=k/\k<f/\k+3<=m/\Gdn M m d/\smD q d=true/\∀(d:D) (B:Mem),WM M n B->Gdn B m d->Ap d->R d B
theorem Bx:∀n ds M R,fP n ds M R->ds.length=["_law_thing_here","_law_well_here","_law_depth"].length:=by rintro n ds M R ⟨n,m,q,c,k,d,rfl,_⟩;rfl
theorem Bl:∀ds M R,¬fP 0 ds M R:=by
 rintro ds M R ⟨n,m,q,c,k,d,rfl,_,h0,h1,_⟩
 lia
theorem BX(hm:m+1<=30)(h:∀x∈xs,Gdn M m x)(hl:xs.length<=40):Gdn M (m+1) (.tup xs)/\Ap (.tup xs):=⟨Gdn.mk (by lia) hm h,λys e=>by injection e with e;subst e;exact hl⟩
theorem gJ(h:∀x∈xs,Gdn M m x):∀x∈cutD xs lo hi,Gdn M m x:=λx hx=>h x (FT hx)
theorem tG{M B:Mem}{n m:Nat}{c:Int}{xs:List D}(h:∀x∈xs,Gdn M m x)(hn:M[n]?=some (ah c))(w:WM M n B):∀x∈xs,Gdn B m x:=λx hx=>(h x hx).wm hn w
def uo(n:Nat):DTS:=aF (dOp aJ (dOp aJ (dSl (ab 0) aU (cb (ab 3))) (dE (aa (dCB (fP n) (aa (dOp qIx (ab 0) (ab 3)) (aa (ab 1) (aa (dOp An (ab 2) (dC (.int 1))) ac)))) ac))) (dSl (ab 0) (cb (dOp aJ (ab 3) (dC (.int 1)))) aU))
def ur(n:Nat):DTS:=aC (dIf (ak (dOp qEq (ab 2) (dC (.int 0)))) (aF (dOp aJ (dOp aJ (dSl (ab 0) aU (cb (ab 3))) (dE (aa (dCB (bz 5) (aa (ab 1) (aa (dC (.int 1)) ac))) ac))) (dSl (ab 0) (cb (dOp aJ (ab 3) (dC (.int 1)))) aU))) aA) (uo n)
def ut(n:Nat):DTS:=aC (dIf (ak (dOp qEq (ab 4) (dC (.int 3)))) (aF (dOp aJ (dOp aJ (dSl (ab 0) aU (cb (ab 3))) (dSl (ab 0) (cb (ab 3)) (cb (dOp aJ (ab 3) (dC (.int 1)))))) (dSl (ab 0) (cb (ab 3)) aU))) aA) (ur n)
def uu(n:Nat):DTS:=aC (dIf (ak (dOp qEq (ab 4) (dC (.int 2)))) (aF (dCB xV (aa (ab 0) ac))) aA) (ut n)
def uv(n:Nat):DTS:=aC (dIf (ak (dOp qEq (ab 4) (dC (.int 1)))) (aF (dOp aJ (dOp aJ (dSl (ab 0) aU (cb (ab 3))) (dE (aa (dCB (bz 5) (aa (ab 1) (aa (dC (.int 1)) ac))) ac))) (dSl (ab 0) (cb (ab 3)) aU))) aA) (uu n)
def na(n:Nat):DTS:=aC (dIf (ak (dOp qEq (ab 4) (dC (.int 0)))) (aF (dOp aJ (dSl (ab 0) aU (cb (ab 3))) (dSl (ab 0) (cb (dOp aJ (ab 3) (dC (.int 1)))) aU))) aA) (uv n)
def uw(n:Nat):DTS:=aC (bT (dCB ao (aa (ab 1) (aa (dC (.int 6)) ac))) 4) (na n)
def ux(n:Nat):DTS:=aC (bT (dCB ao (aa (ab 1) (aa (dCB fj (aa (ab 0) ac)) ac))) 3) (uw n)
def xv(n:Nat):DTS:=aC (dIf (dOr (dF (ak (dCB eK (aa (ab 0) (aa (dC (.ty "tuple")) ac))))) (dOr (ak (dOp qEq (ab 0) (dE ac))) (ak (dOp qEq (dCB ao (aa (ab 1) (aa (dC (.int 5)) ac))) (dC (.int 0)))))) (aF (dCB (bz 5) (aa (ab 1) (aa (dC (.int 2)) ac)))) aA) (ux n)
theorem JM{M B:Mem}{R:DK}{n m q f:Nat}{c k i j:Int}{xs:List D}(hn:M[n]?=some (ah c))(k0:0<=k)(kf:k<f+1)(km:k+3<=m)(m30:m<=30)(x12:xs.length<=12)(gx:∀x∈xs,Gdn B (m-1) x)(sx:∀x∈xs,smD q x=true)(j0:0<=j)(jl:j<xs.length)(wm:WM M n B)(h:∀(d:D) (B:Mem),WM M n B->Gdn B m d->Ap d->R d B) :
  na f (EE M R) [some (.tup xs),some (.ref n),some (.int k),some (.int j),some (.int i)] B:=by
 obtain⟨c1,hc1⟩:=wm.get hn
 have em:m=(m-1)+1:=by lia
 have fin:∀(ys:List D) (C:Mem),WM M n C->(∀y∈ys,Gdn C (m-1) y)->ys.length<=40->R (.tup ys) C:=λys C w g l=>by
  have:=BX (m:=m-1) (by lia) g l
  rw[←em]at this
  exact h _ _ w this.1 this.2
 have cl:∀lo hi,(cutD xs lo hi).length<=12:=λlo hi=>by have:=FU (xs:=xs) (lo:=lo) (hi:=hi);lia
 have put:∀(e:Int),bz 5 [.ref n,.int 1] B λd M1=>1<=sizeLine/\(cutD xs none (some j)).length+1<=sizeLine/\(cutD xs none (some j)++[d]).length+(cutD xs (some e) none).length<=sizeLine/\aq M R (.tup (cutD xs none (some j)++[d]++cutD xs (some e) none)) M1:=λe=>by
  have l1:=cl none (some j)
  have l2:=cl (some e) none
  exact⟨n,c1,1,rfl,hc1,by decide,by decide,by decide,λd C w gd fw=>⟨am (by lia),am (by lia),am (by rw[AA8,AAX];lia),.inl (fin _ _ (wm.trans hn w) (kU (kU (gJ (tG gx hc1 w)) λy hy=>by rw[AAY.mp hy];exact gd.mono (show 1<=m-1 by lia) (by lia)) (gJ (tG gx hc1 w))) (by rw[AA8,AA8,AAX];lia))⟩⟩
 simp only[na]
 walk_at "dl"
 refine⟨⟨ae,ae⟩,?_⟩
 cases eqD B eqN (.int i) (.int 0) with
 | true =>
  have l1:=cl none (some j)
  have l2:=cl (some (j+1)) none
  exact aI ⟨am (by lia),.inl (fin _ _ wm (kU (gJ gx) (gJ gx)) (by rw[AA8];lia))⟩
 | false =>
  refine ba ?_
  simp only[uv]
  walk_at "dl"
  refine⟨⟨ae,ae⟩,?_⟩
  cases eqD B eqN (.int i) (.int 1) with
  | true=>exact aI (put j)
  | false =>
   refine ba ?_
   simp only[uu]
   walk_at "dl"
   refine⟨⟨ae,ae⟩,?_⟩
   cases eqD B eqN (.int i) (.int 2) with
   | true =>
    refine aI (.inl (h _ _ (wm.app _) ?_ (bN λ_ z=>by cases z)))
    rw[em]
    exact Gdn.mkr (xs:=xs) af (by lia) λx hx=>(gx x hx).grow nr
   | false =>
    refine ba ?_
    simp only[ut]
    walk_at "dl"
    refine⟨⟨ae,ae⟩,?_⟩
    cases eqD B eqN (.int i) (.int 3) with
    | true =>
     have l1:=cl none (some j)
     have l2:=cl (some j) (some (j+1))
     have l3:=cl (some j) none
     exact aI ⟨am (by lia),am (by rw[AA8];lia),.inl (fin _ _ wm (kU (kU (gJ gx) (gJ gx)) (gJ gx)) (by rw[AA8,AA8];lia))⟩
    | false =>
     refine ba ?_
     simp only[ur]
     walk_at "dl"
     refine⟨⟨ae,ae⟩,?_⟩
     rw[bi]
     cases hk:(k==0) with
     | true=>exact aI (put (j+1))
     | false =>
      refine ba ?_
      have k1:k≠0:=by simpa using hk
      simp only[uo]
      walk_at "dl"
      obtain⟨jn,hj,ej,_⟩:=dD (xs:=xs) j0 jl
      rw[ej]
      have l1:=cl none (some j)
      have l2:=cl (some (j+1)) none
      refine⟨n,m-1,q,c1,k-1,_,rfl,hc1,by lia,by lia,by lia,gx _ (AAo hj),sx _ (AAo hj),λd C w gd fw=>⟨am (by lia),am (by lia),am (by rw[AA8,AAX];lia),.inl (fin _ _ (wm.trans hn w) (kU (kU (gJ (tG gx hc1 w)) λy hy=>by rw[AAY.mp hy];exact gd) (gJ (tG gx hc1 w))) (by rw[AA8,AA8,AAX];lia))⟩⟩
theorem Dt:∀n ds M R,fP (n+1) ds M R->xv n (EE M R) (bC ["_law_thing_here","_law_well_here","_law_depth","_law_at","_law_way"] ds) M:=by
 rintro f ds M R ⟨n,m,q,c,k,d,rfl,hn,k0,kf,km,g,sm,h⟩
 have m30:=g.1
 have any:∀(C:Mem),WM M n C->bz 5 [.ref n,.int 2] C (aq M R):=λC wm=>by
  obtain⟨c1,hc1⟩:=wm.get hn
  exact⟨n,c1,2,rfl,hc1,by decide,by decide,by decide,λd B w gd fw=>.inl (h _ _ (wm.trans hn w) (gd.mono (show 2<=m by lia) g.1) fw)⟩
 simp only[xv]
 rcases ff M g with⟨xs,rfl⟩|⟨e1,e2⟩
 ·obtain⟨x12,q1,rfl,sx⟩:=DB sm
  obtain⟨_,m1,rfl,gx⟩:=g.tup
  walk_at "dl"
  refine⟨by decide,?_⟩
  rw[show eM "tuple" "tuple" = true from rfl]
  walk_at "ifs"
  refine⟨AAT _,⟨g.ok,rfl⟩,?_⟩
  cases xs with
  | nil=>exact aI (any _ (WM.now hn))
  | cons x xs =>
   refine ba ⟨n,c,5,rfl,hn,by decide,by decide,λv c2 v0 v5=>⟨⟨ae,ae⟩,?_⟩⟩
   have wm2:WM M n (M.set n (ah c2)):=WM.drawn
   have gx2:=tG gx hn wm2
   generalize M.set n (ah c2)=B2 at wm2 gx2
   generalize hX:x::xs=X at gx2 sx x12
   have x1:1<=X.length:=by rw[←hX];simp
   cases eqD B2 eqN (.int v) (.int 0) with
   | true=>exact aI (any _ wm2)
   | false =>
    refine ba ?_
    obtain⟨c3,hc3⟩:=wm2.get hn
    simp only[ux]
    walk_at "dl"
    refine⟨n,c3,_,rfl,hc3,by lia,by lia,λj c4 j0 j1=>?_⟩
    have wm4:WM M n (B2.set n (ah c4)):=wm2.set hn _
    have gx4:=tG gx2 hc3 (WM.drawn (c:=c4))
    generalize B2.set n (ah c4)=B4 at wm4 gx4
    obtain⟨c5,hc5⟩:=wm4.get hn
    simp only[uw]
    walk_at "dl"
    refine⟨n,c5,6,rfl,hc5,by decide,by decide,λi c6 i0 i6=>?_⟩
    have wm6:WM M n (B4.set n (ah c6)):=wm4.set hn _
    have gx6:=tG gx4 hc5 (WM.drawn (c:=c6))
    exact JM hn k0 (by lia) km m30 x12 gx6 sx j0 j1 wm6 h
 ·walk_at "dl"
  refine⟨⟨g.thing.1,by decide⟩,?_⟩
  simp only[tyD]at e1
  rw[e1]
  walk_at "ifs"
  exact any _ (WM.now hn)
theorem Ch(T:Tops P w K mg base)(n:Nat)(C:Cal P w K mg base (6+n) "_law_bent" yu (fP n)):TopB mg B_ C_->List.Nodup (["_law_thing_here","_law_well_here","_law_depth","_law_at","_law_way"]:List Str)->DerT P w K mg base (6+n) "_law_bent" ["_law_thing_here","_law_well_here","_law_depth","_law_at","_law_way"] (top 48) (xv n):=by have:=bZ T;have:=nA T 5;walk_at "dv"
theorem yC(T:Tops P w K mg base):∀n,Cal P w K mg base (6+n) "_law_bent" yu (fP n)
 | 0=>Cal.never T.f_bent Bl
 | n+1=>Cal.byD (N:=["_law_thing_here","_law_well_here","_law_depth","_law_at","_law_way"]) T.b T.f_bent (by walk_at "sc") (Bx (n+1)) (Ch T n (yC T n)) (Dt n)
def bg:DSp:=λds M R=>∃(k:Int) (d:D),ds=[d,.int k]/\tyD M d∈lG/\R (.bl (aG k d)) M
theorem lO:bY bg ef:=by rintro ds M R ⟨k,d,rfl,_⟩;rfl
def iw:DTS:=aF (bj (dCB eK (aa (ab 0) (aa (dC (.ty "int")) ac))) (bj (zR (dCB eK (aa (ab 0) (aa (dC (.ty "bool")) ac)))) (dOp qGe (ab 0) (ab 1))))
theorem mP:WpT bg 2 iw:=by
 rintro ds M R ⟨k,d,rfl,ht,h⟩
 unfold iw
 cases d with
 | ref n =>
  have e:=bm ht
  simp only[tyD]at e
  walk_at "dl"
  simp only[e]
  exact⟨by decide,ba (aq.now h)⟩
 | ty n=>simp only[tyD]at ht;exact absurd ht (by decide)
 | int i=>walk_at "dl";exact⟨by decide,aI ⟨by decide,aI (aq.now h)⟩⟩
 | bl i=>walk_at "dl";exact⟨by decide,aI ⟨by decide,ba (aq.now h)⟩⟩
 | _=>walk_at "dl";exact⟨by decide,ba (aq.now h)⟩
theorem cg(T:Tops P w K mg base):Cal P w K mg base 1 "_law_is_whole" ef bg :=
 Cal.byD (N:=["_law_thing_here","_law_low"]) T.b T.f_l_is_whole (by walk_at "sc") lO (by walk_at "dv") mP
theorem Cu(nd:(ps.map (·.1)).Nodup)(x:Str)(k:Int)(h0:0<=k):(ps.any λp=>(p.1==x)&&decide (k<p.2))=decide (k<eu ps (.str x)):=by
 induction ps with
 | nil =>
  show false=decide (k<0)
  rw[decide_eq_false (by lia)]
 | cons p ps ih =>
  rw[AAM,AB6]at nd
  rw[ABe,ih nd.2,kK p ps (.str x) []]
  show ((p.1==x)&&decide (k<p.2)||_)=decide (k<if (p.1==x)=true then p.2 else eu ps (.str x))
  by_cases e:p.1=x
  ·subst e
   have e0:eu ps (.str p.1)=0:=by
    show ((ps.find? λq=>decide (q.1=p.1)).map (·.2)).getD 0=0
    rw[List.find?_eq_none.mpr λq hq z=>nd.1 (AAN.mpr ⟨q,hq,by simpa using z⟩)]
    rfl
   rw[e0,beq_self_eq_true,decide_eq_false (show ¬k<0 by lia)]
   simp
  ·rw[show (p.1==x)=false by simpa using e]
   simp
def bV:DSp:=λds M R=>∃(n:Nat) (ps:List (Str×Int)) (r:List D) (d:D),ds=[.tup (.tup (ps.map aw)::r),d]/\(ps.map (·.1)).Nodup/\Gdn M n d/\R (.bl (bf ps d)) M
theorem nI:bY bV fy:=by rintro ds M R ⟨n,ps,r,d,rfl,_⟩;rfl
theorem mK(h:∀a b,d≠.tup [a,b]):bf ps d=false:=by
 unfold bf
 split
 ·exact absurd rfl (h _ _)
 ·rfl
theorem cr(h:∀x,a≠.str x):bf ps (.tup [a,b])=false:=by
 rw[Bool.eq_false_iff]
 intro z
 obtain⟨x,k,e⟩:=nS z
 simp at e
 exact h x e.1
theorem qV{α:Type}(p:α->Bool)(l:List α):(l.filter p).isEmpty = !l.any p:=by
 induction l with
 | nil=>rfl
 | cons a l ih =>
  rw[List.filter_cons,ABe]
  cases e:p a with
  | true=>simp
  | false=>simpa using ih
def Hc(x:Str)(k:Int):D->Bool
 | .tup [.str y,.int m]=>(y==x)&&decide (k<m)
 | _=>false
def fW:DTS:=aF (dOp qNe (dLC 2 [1] (bK (dOp qIx (ab 0) (dC (.int 0)))) (eY 2 (aR (ar 0) (aR (ar 1) eZ))) (zS (ak (dOp qEq (ab 0) (dOp qIx (ab 2) (dC (.int 0))))) (ak (dOp qLt (dOp qIx (ab 2) (dC (.int 1))) (ab 1)))) (ab 0)) (dB ac))
def fX:DTS:=aC (dIf (dF (ak (dCB bg (aa (dOp qIx (ab 1) (dC (.int 1))) (aa (dC (.int 0)) ac))))) (aF (dC (.bl false))) aA) (fW)
def jv:DTS:=aC (dIf (dOr (dF (ak (dCB eK (aa (ab 1) (aa (dC (.ty "tuple")) ac))))) (dOr (ak (dOp qNe (dCB fj (aa (ab 1) ac)) (dC (.int 2)))) (dF (ak (dCB eK (aa (dOp qIx (ab 1) (dC (.int 0))) (aa (dC (.ty "str")) ac))))))) (aF (dC (.bl false))) aA) (fX)
theorem oG:WpT bV 2 jv:=by
 rintro ds M R ⟨n,ps,r,d,rfl,nd,g,h⟩
 simp only[jv]
 rcases ff M g with⟨xs,rfl⟩|⟨e1,e2⟩
 ·obtain⟨hl,m,rfl,gx⟩:=g.tup
  walk_at "dl"
  refine⟨by decide,?_⟩
  rw[show eM "tuple" "tuple" = true from rfl]
  walk_at "ifs"
  refine⟨⟨ae,ae⟩,?_⟩
  rw[bi]
  rcases ir (.tup xs)with⟨a,b,e⟩|⟨e1,e2⟩
  ·injection e with e
   subst e
   rw[show ((([a,b]:List D).length:Int)==2)=true from rfl]
   walk_at "ifs"
   have ga:=gx a (by simp)
   have gb:=gx b (by simp)
   cases a with
   | str x =>
    walk_at "dl"
    refine⟨by decide,?_⟩
    rw[show eM "str" "str" = true from rfl]
    walk_at "ifs"
    simp only[fX]
    walk_at "dl"
    refine⟨0,b,rfl,gb.thing.1,?_⟩
    cases b with
    | int k =>
     simp only[bf]at h
     by_cases h0:0<=k
     ·rw[decide_eq_true h0,AAx]at h
      rw[show aG 0 (.int k)=true from decide_eq_true h0]
      walk_at "ifs"
      simp only[fW]
      walk_at "dl"
      intro hz
      refine bO (Hc x k) bv (λS=>∃a b,S=[a,b,some (.tup [.str x,.int k])]) trivial _ _ _ ?_ ⟨_,_,rfl⟩ (by simpa using hz) ?_
      ·rintro y hy S ⟨a,b,rfl⟩
       obtain⟨p,hp,rfl⟩:=AAN.mp hy
       refine⟨[some (.str p.1),some (.int p.2),some (.tup [.str x,.int k])],⟨_,_,rfl⟩,λY Z hYZ=>?_⟩
       have hYZ':if ((p.1==x)&&decide (k<p.2))=true then Y (.str p.1) [some (.str p.1),some (.int p.2),some (.tup [.str x,.int k])] M else Z [some (.str p.1),some (.int p.2),some (.tup [.str x,.int k])] M:=hYZ
       simp only[aw]
       walk_at "dl"
       refine⟨trivial,⟨az,az⟩,?_⟩
       rw[bB]
       cases e:(p.1==x) with
       | false=>rw[e]at hYZ';exact hYZ'
       | true=>rw[e]at hYZ';exact hYZ'
      ·rw[AAr]
       obtain⟨okk,enil⟩:=ja (M:=M++[MO.lst (((ps.map aw).filter (Hc x k)).map bv)]) (n:=M.length) af λy hy=>by
        obtain⟨z,hz,rfl⟩:=AAN.mp hy
        obtain⟨p,_,rfl⟩:=AAN.mp (AE8.mp hz).1
        exact az
       refine⟨AAT _,okk,?_⟩
       rw[enil,List.isEmpty_map,qV,Bool.not_not,List.any_map]
       refine aq.bl ?_ (by rw[ABS];exact ABJ _ _)
       rw[←Cu nd x k h0]at h
       exact h
     ·rw[decide_eq_false h0]at h
      rw[show aG 0 (.int k)=false from decide_eq_false h0]
      walk_at "ifs"
      exact aq.now h
    | non=>rw[show aG 0 .non=false from rfl];walk_at "ifs";exact aq.now h
    | bl z=>rw[show aG 0 (.bl z)=false from rfl];walk_at "ifs";exact aq.now h
    | str z=>rw[show aG 0 (.str z)=false from rfl];walk_at "ifs";exact aq.now h
    | ty z=>rw[show aG 0 (.ty z)=false from rfl];walk_at "ifs";exact aq.now h
    | tup z=>rw[show aG 0 (.tup z)=false from rfl];walk_at "ifs";exact aq.now h
    | ref z=>rw[show aG 0 (.ref z)=false from rfl];walk_at "ifs";exact aq.now h
   | ref i =>
    have e:=bm ga.thing.1
    simp only[tyD]at e
    rw[cr λ_ z=>by cases z]at h
    walk_at "dl"
    simp only[e]
    exact⟨by decide,aI (aq.now h)⟩
   | ty t=>exact absurd ga.thing.1 (by simp only[tyD];decide)
   | non =>
    walk_at "dl"
    exact⟨by decide,aI (aq.now (by rw[cr λ_ z=>by cases z]at h;exact h))⟩
   | bl t =>
    walk_at "dl"
    exact⟨by decide,aI (aq.now (by rw[cr λ_ z=>by cases z]at h;exact h))⟩
   | int t =>
    walk_at "dl"
    exact⟨by decide,aI (aq.now (by rw[cr λ_ z=>by cases z]at h;exact h))⟩
   | tup t =>
    walk_at "dl"
    exact⟨by decide,aI (aq.now (by rw[cr λ_ z=>by cases z]at h;exact h))⟩
  ·have e3:((xs.length:Int)==2)=false:=e1
   rw[e3]
   walk_at "ifs"
   rw[mK e2]at h
   exact aq.now h
 ·rw[mK λa b=>e2 _]at h
  walk_at "dl"
  refine⟨⟨g.thing.1,by decide⟩,?_⟩
  simp only[tyD]at e1
  rw[e1]
  walk_at "ifs"
  exact aq.now h
theorem iL(T:Tops P w K mg base):Cal P w K mg base 2 "_law_is_hand" fy bV :=
 Cal.byD (N:=["_law_house_here","_law_thing_here"]) T.b T.f_l_is_hand (by walk_at "sc") nI (by have:=cg T;walk_at "dv") oG
def aL:DSp:=λds M R=>∃(n:Nat) (ps:List (Str×Int)) (r:List D) (d:D),ds=[.tup (.tup (ps.map aw)::r),d]/\(ps.map (·.1)).Nodup/\Gdn M n d/\R (.bl (bL ps d)) M
theorem lP:bY aL er:=by rintro ds M R ⟨n,ps,r,d,rfl,_⟩;rfl
def fg:DTS:=aF (bj (dCB bg (aa (dOp qIx (ab 1) (dC (.int 0))) (aa (dC (.int 1)) ac))) (dCB bV (aa (ab 0) (aa (dOp qIx (ab 1) (dC (.int 1))) ac))))
def iz:DTS:=aC (dIf (dOr (dF (ak (dCB eK (aa (ab 1) (aa (dC (.ty "tuple")) ac))))) (ak (dOp qNe (dCB fj (aa (ab 1) ac)) (dC (.int 2))))) (aF (dC (.bl false))) aA) (fg)
theorem mQ:WpT aL 2 iz:=by
 rintro ds M R ⟨n,ps,r,d,rfl,nd,g,h⟩
 simp only[iz]
 rcases ff M g with⟨xs,rfl⟩|⟨e1,e2⟩
 ·obtain⟨hl,m,rfl,gx⟩:=g.tup
  walk_at "dl"
  refine⟨by decide,?_⟩
  rw[show eM "tuple" "tuple" = true from rfl]
  walk_at "ifs"
  refine⟨⟨ae,ae⟩,?_⟩
  rw[bi]
  rcases ir (.tup xs)with⟨a,b,e⟩|⟨e1,e2⟩
  ·injection e with e
   subst e
   rw[show ((([a,b]:List D).length:Int)==2)=true from rfl]
   walk_at "ifs"
   have ga:=gx a (by simp)
   have gb:=gx b (by simp)
   simp only[fg]
   walk_at "dl"
   refine⟨1,a,rfl,ga.thing.1,?_⟩
   simp only[bL]at h
   cases ea:aG 1 a with
   | false =>
    rw[ea]at h
    walk_at "ifs"
    exact aq.now h
   | true =>
    rw[ea]at h
    walk_at "ifs"
    exact⟨m,ps,r,b,rfl,nd,gb,aq.now h⟩
  ·have e3:((xs.length:Int)==2)=false:=e1
   rw[e3]
   walk_at "ifs"
   rw[jV e2]at h
   exact aq.now h
 ·rw[jV λa b=>e2 _]at h
  walk_at "dl"
  refine⟨⟨g.thing.1,by decide⟩,?_⟩
  simp only[tyD]at e1
  rw[e1]
  walk_at "ifs"
  exact aq.now h
theorem de(T:Tops P w K mg base):Cal P w K mg base 3 "_law_is_stamp" er aL :=
 Cal.byD (N:=["_law_house_here","_law_thing_here"]) T.b T.f_l_is_stamp (by walk_at "sc") lP (by have:=cg T;have:=iL T;walk_at "dv") mQ
theorem AH(h1:bt a b=true)(h2:bt b c=true):bt a c=true:=by
 unfold bt at *
 rw[decide_eq_true_eq]at *
 exact List.lt_trans h1 h2
theorem xF:bt a a=false:=by
 unfold bt
 exact decide_eq_false (ADG _)
theorem xE(a b:Str):bt a b=true\/a=b\/bt b a=true:=by
 unfold bt
 rw[decide_eq_true_eq,decide_eq_true_eq]
 by_cases h1:a.cps.toList<b.cps.toList
 ·exact .inl h1
 ·by_cases h2:b.cps.toList<a.cps.toList
  ·exact .inr (.inr h2)
  ·exact .inr (.inl (xD (List.le_antisymm (List.not_lt.mp h2) (List.not_lt.mp h1))))
theorem jb:ltD M eqN (.tup [.str x,.int k]) (.tup [.str y,.int l])=if x=y then decide (k<l)else bt x y:=by
 show (if eqD M 29 (.str x) (.str y)=true then(if eqD M 29 (.int k) (.int l)=true then false else decide (k<l))else bt x y)=_
 rw[bB,bi]
 by_cases e:x=y
 ·subst e
  rw[if_pos (by simp),if_pos rfl]
  by_cases e2:k=l
  ·subst e2
   rw[if_pos (by simp)]
   exact(decide_eq_false (by lia)).symm
  ·rw[if_neg (by simpa using e2)]
 ·rw[if_neg (by simpa using e),if_neg e]
theorem IM(ha:Hd a)(hb:Hd b):ltD M eqN a b=true\/a=b\/ltD M eqN b a=true:=by
 obtain⟨x,k,rfl⟩:=ha
 obtain⟨y,l,rfl⟩:=hb
 rw[jb,jb]
 by_cases e:x=y
 ·subst e
  rw[if_pos rfl,if_pos rfl,decide_eq_true_eq,decide_eq_true_eq]
  have:k<l\/k=l\/l<k:=by lia
  rcases this with h | h | h
  ·exact .inl h
  ·subst h;exact .inr (.inl rfl)
  ·exact .inr (.inr h)
 ·rw[if_neg e,if_neg (AAz e)]
  rcases xE x y with h | h | h
  ·exact .inl h
  ·exact absurd h e
  ·exact .inr (.inr h)
theorem IN(ha:Hd a)(hb:Hd b)(hc:Hd c)(h1:ltD M eqN a b=true)(h2:ltD M eqN b c=true):ltD M eqN a c=true:=by
 obtain⟨x,k,rfl⟩:=ha
 obtain⟨y,l,rfl⟩:=hb
 obtain⟨z,m,rfl⟩:=hc
 rw[jb]at *
 by_cases e:x=y
 ·subst e
  rw[if_pos rfl,decide_eq_true_eq]at h1
  by_cases e2:x=z
  ·subst e2
   rw[if_pos rfl,decide_eq_true_eq]at h2 ⊢
   lia
  ·rw[if_neg e2]at h2 ⊢;exact h2
 ·rw[if_neg e]at h1
  by_cases e2:y=z
  ·subst e2
   rw[if_neg e];exact h1
  ·rw[if_neg e2]at h2
   have h3:=AH h1 h2
   by_cases e3:x=z
   ·subst e3;rw[xF]at h3;cases h3
   ·rw[if_neg e3];exact h3
theorem IS(ha:Hd a):ltD M eqN a a=false:=by
 obtain⟨x,k,rfl⟩:=ha
 rw[jb,if_pos rfl]
 exact decide_eq_false (by lia)
theorem uD:∀{xs:List D},(∀x∈xs,Hd x)->cc M xs=true->xs.Pairwise λa b=>ltD M eqN a b=true
 | [],_,_=>.nil
 | [_],_,_=>ADa _ _
 | a::b::r,hd,h=>by
  have h':(ltD M eqN a b&&cc M (b::r))=true:=h
  rw[AAC]at h'
  have ih:=uD (λx hx=>hd x (AA9 _ hx)) h'.2
  rw[List.pairwise_cons]
  refine⟨λx hx=>?_,ih⟩
  rcases AAH.mp hx with rfl | hx
  ·exact h'.1
  ·exact IN (hd a (by simp)) (hd b (by simp)) (hd x (by simp[hx])) h'.1 ((List.pairwise_cons.mp ih).1 x hx)
theorem uG:∀{xs:List D},(xs.Pairwise λa b=>ltD M eqN a b=true)->cc M xs=true
 | [],_=>rfl
 | [_],_=>rfl
 | a::b::r,h=>by
  rw[List.pairwise_cons]at h
  show (ltD M eqN a b&&cc M (b::r))=true
  rw[h.1 b (by simp),uG h.2];rfl
theorem qi{α:Type}{lt:α->α->Prop}:∀{xs ys:List α},(∀a∈xs,∀b∈xs,lt a b->¬lt b a)->xs.Pairwise lt->ys.Pairwise lt->(∀x,x∈ys↔x∈xs)->xs=ys
 | [],[],_,_,_,_=>rfl
 | [],y::ys,_,_,_,h=>absurd ((h y).mp AAI) (by simp)
 | x::xs,[],_,_,_,h=>absurd ((h x).mpr AAI) (by simp)
 | x::xs,y::ys,as,hx,hy,h=>by
  rw[List.pairwise_cons]at hx hy
  have e:x=y:=by
   rcases AAH.mp ((h x).mpr AAI)with e | m1
   ·exact e
   ·rcases AAH.mp ((h y).mp AAI)with e | m2
    ·exact e.symm
    ·exact absurd (hx.1 y m2) (as _ (AA9 _ m2) _ AAI (hy.1 x m1))
  subst e
  rw[qi (λa ha b hb=>as a (AA9 _ ha) b (AA9 _ hb)) hx.2 hy.2 λz=>⟨λm=>by
   rcases AAH.mp ((h z).mp (AA9 _ m))with e | m'
   ·subst e;exact absurd (hy.1 z m) (λq=>as z AAI z AAI q q)
   ·exact m',λm=>by
   rcases AAH.mp ((h z).mpr (AA9 _ m))with e | m'
   ·subst e;exact absurd (hx.1 z m) (λq=>as z AAI z AAI q q)
   ·exact m'⟩]
theorem Da:∀{xs ys:List D},(∀x∈xs,Hd x)->(∀y∈ys,Hd y)->(eqL (eqD M (n+1)) xs ys=true↔xs=ys)
 | [],[],_,_=>⟨λ_=>rfl,λ_=>rfl⟩
 | [],_::_,_,_=>⟨(λz=>nomatch z),(λz=>nomatch z)⟩
 | _::_,[],_,_=>⟨(λz=>nomatch z),(λz=>nomatch z)⟩
 | x::xs,y::ys,hx,hy=>by
  show (eqD M (n+1) x y&&eqL (eqD M (n+1)) xs ys)=true↔_
  rw[AAC,zx (hx x (by simp)) (hy y (by simp)),Da (λz m=>hx z (AA9 _ m)) (λz m=>hy z (AA9 _ m)),AED]
theorem qQ(hd:∀x∈hs,Hd x)(nd:ys.Nodup)(mem:∀x,x∈ys↔x∈hs)(up:wN M1 ys):eqL (eqD B (n+1)) hs ys=cc M hs:=by
 have hy:∀y∈ys,Hd y:=λy m=>hd y ((mem y).mp m)
 have pw:ys.Pairwise λa b=>ltD M eqN a b=true:=by
  have h2:=List.Pairwise.and_mem.mp (List.Pairwise.and nd up)
  refine h2.imp λ{a b} ⟨ma,mb,ne,lt⟩=>?_
  rw[IP (M':=M) (hy b mb) (hy a ma)]at lt
  rcases IM (M:=M) (hy a ma) (hy b mb)with h | h | h
  ·exact h
  ·exact absurd h ne
  ·rw[h]at lt;cases lt
 rw[ABm,Da hd hy]
 constructor
 ·rintro rfl
  exact uG pw
 ·intro h
  refine qi (λa ha b hb h1 h2=>?_) (uD hd h) pw mem
  have:=IN (hd a ha) (hd b hb) (hd a ha) h1 h2
  rw[IS (hd a ha)]at this
  cases this
def bQ:DSp:=λds M R=>∃(n:Nat) (ps:List (Str×Int)) (r:List D) (d:D),ds=[.tup (.tup (ps.map aw)::r),d]/\(ps.map (·.1)).Nodup/\Gdn M n d/\Ap d/\R (.bl (cj M ps d)) M
theorem kN:bY bQ da:=by rintro ds M R ⟨n,ps,r,d,rfl,_⟩;rfl
theorem rT(m:x∈xs)(h:bI ps x=false):cj M ps (.tup xs)=false:=by
 have:xs.all (bI ps)=false:=by
  rw[List.all_eq_false]
  exact⟨x,m,by rw[h];decide⟩
 simp only[cj,this,AAw]
def dH:DTS:=aF (dOp qEq (ab 2) (gL (ab 2)))
def dI:DTS:=rj (dMl dY (ab 2) (aa (dOp qIx (ab 3) (dC (.int 0))) ac))
def dJ:DTS:=aC (dIf (dF (ak (dCB bg (aa (dOp qIx (ab 3) (dC (.int 1))) (aa (dC (.int 1)) ac))))) (aF (dC (.bl false))) aA) (dI)
def dL:DTS:=aC (tN (bK (ab 1)) (ar 3) (aC (dIf (dOr (dF (ak (dCB eK (aa (ab 3) (aa (dC (.ty "tuple")) ac))))) (dOr (ak (dOp qNe (dCB fj (aa (ab 3) ac)) (dC (.int 2)))) (dF (ak (dCB bV (aa (ab 0) (aa (dOp qIx (ab 3) (dC (.int 0))) ac))))))) (aF (dC (.bl false))) aA) (dJ))) (dH)
def dM:DTS:=aC (bT (dB ac) 2) (dL)
def fT:DTS:=aC (dIf (dF (ak (dCB eK (aa (ab 1) (aa (dC (.ty "tuple")) ac))))) (aF (dC (.bl false))) aA) (dM)
theorem lH:WpT bQ 4 fT:=by
 rintro ds M R ⟨n,ps,r,d,rfl,nd,g,few,h⟩
 simp only[fT]
 rcases ff M g with⟨xs,rfl⟩|⟨e1,e2⟩
 ·obtain⟨hl,m,rfl,gx⟩:=g.tup
  have x40:=few xs rfl
  walk_at "dl"
  refine⟨by decide,?_⟩
  rw[show eM "tuple" "tuple" = true from rfl]
  walk_at "ifs"
  simp only[dM,dL]
  walk_at "dl"
  refine⟨AAT _,λ_=>?_⟩
  refine cy (λi S M'=>(∀x∈xs.take i,bI ps x=true)/\M'=M++[.lst ((xs.take i).map bv)]/\∃a,S=[some (.tup (.tup (ps.map aw)::r)),some (.tup xs),some (.ref M.length),a]) ?_ ?_ ⟨(λ_ z=>nomatch z),rfl,_,rfl⟩
  ·rintro S M' ⟨hc,rfl,a,rfl⟩
   rw[AC2]at hc ⊢
   refine⟨trivial,?_⟩
   simp only[dH]
   walk_at "dl"
   have hh:∀x∈xs.map bv,Hd x:=λx hx=>by
    obtain⟨y,hy,rfl⟩:=AAN.mp hx
    obtain⟨a,b,rfl,ha',_⟩:=uZ (hc y hy)
    exact nS ha'
   have len:(xs.map bv).length<64:=by rw[AA6];lia
   refine⟨1,_,by decide,.inl ⟨_,rfl,af⟩,len,λx hx=>?_,⟨len,λx hx=>?_,λx hx y hy=>(Db (hh x hx) (hh y hy)).2.2,.inr (.inr (.inl λx hx=>?_))⟩,λys nd' mem up=>⟨⟨ig (n:=29) (af.more _) λx hx=>?_,ig (n:=29) af λx hx=>?_⟩,?_⟩⟩
   ·obtain⟨z,k,rfl⟩:=hh x hx;exact⟨rfl,rfl⟩
   ·obtain⟨z,k,rfl⟩:=hh x hx;rfl
   ·obtain⟨z,k,rfl⟩:=hh x hx;exact⟨_,_,rfl⟩
   ·obtain⟨z,k,rfl⟩:=hh x hx;rfl
   ·obtain⟨z,k,rfl⟩:=hh x ((mem x).mp hx);rfl
   ·have e:eqD (M++[MO.lst (xs.map bv)]++[MO.lst ys]) eqN (.ref M.length) (.ref (M++[MO.lst (xs.map bv)]).length)=cc M (xs.map bv):=(nW (n:=29) (af.more _) af).trans (qQ (n:=28) hh nd' mem up)
    rw[e]
    have:cj M ps (.tup xs)=cc M (xs.map bv):=by
     simp only[cj]
     rw[AAK.mpr hc,AAx]
    rw[this]at h
    exact aq.bl h (nr.trans nr)
  ·rintro i y S M' hy ⟨hc,rfl,a,rfl⟩ G hG
   refine⟨trivial,?_⟩
   have ym:=AAu hy
   have gy:=(gx y ym).grow (nr (mo:=MO.lst ((xs.take i).map bv)))
   have no:bI ps y=false->aq M R (.bl false) (M++[MO.lst ((xs.take i).map bv)]):=λe=>by
    rw[rT ym e]at h
    exact aq.bl h nr
   have hil:(xs.take i).length<=40:=by rw[AAh];lia
   rcases ff _ gy with⟨zs,rfl⟩|⟨e1,e2⟩
   ·walk_at "dl"
    refine⟨by decide,?_⟩
    rw[show eM "tuple" "tuple" = true from rfl]
    walk_at "ifs"
    refine⟨⟨ae,ae⟩,?_⟩
    rw[bi]
    rcases ir (.tup zs)with⟨a,b,e⟩|⟨e1,e2⟩
    ·injection e with e
     subst e
     rw[show ((([a,b]:List D).length:Int)==2)=true from rfl]
     obtain⟨_,m2,rfl,gz⟩:=gy.tup
     walk_at "ifs"
     walk_at "dl"
     refine⟨m2,ps,r,a,rfl,nd,gz a (by simp),?_⟩
     cases ea:bf ps a with
     | false =>
      walk_at "ifs"
      exact no (by simp only[bI,ea,AAw])
     | true =>
      walk_at "ifs"
      simp only[dJ]
      walk_at "dl"
      refine⟨1,b,rfl,(gz b (by simp)).thing.1,?_⟩
      cases eb:aG 1 b with
      | false =>
       walk_at "ifs"
       exact no (by simp only[bI,ea,eb,ADw])
      | true =>
       walk_at "ifs"
       simp only[dI]
       walk_at "dl"
       refine⟨⟨_,af⟩,_,aO,by rw[AA6];exact small1000 (by lia),Fgt.now (hG _ _ ⟨λx hx=>?_,?_,_,rfl⟩)⟩
       ·rw[ABk,hy]at hx
        rcases AAl.mp hx with hx | hx
        ·exact hc x hx
        ·rw[Option.toList_some,List.mem_singleton]at hx
         subst hx
         simp only[bI,ea,eb,AE7]
       ·rw[xN,ABk,hy,ABQ]
        rfl
    ·have e3:((zs.length:Int)==2)=false:=e1
     rw[e3]
     walk_at "ifs"
     exact no (gO e2)
   ·walk_at "dl"
    refine⟨⟨gy.thing.1,by decide⟩,?_⟩
    simp only[tyD]at e1
    rw[e1]
    walk_at "ifs"
    exact no (gO λa b=>e2 _)
 ·rw[lT e2]at h
  walk_at "dl"
  refine⟨⟨g.thing.1,by decide⟩,?_⟩
  simp only[tyD]at e1
  rw[e1]
  walk_at "ifs"
  exact aq.now h
theorem lK(T:Tops P w K mg base):Cal P w K mg base 3 "_law_is_vector" da bQ :=
 Cal.byD (N:=["_law_house_here","_law_thing_here","_law_hands_here","_law_pair"]) T.b T.f_l_is_vector (by walk_at "sc") kN (by have:=cg T;have:=iL T;walk_at "dv") lH
theorem wH:(AA1 "abcdefghijklmnopqrstuvwxyz").cps.toList=(AAe 26).map (· + 97):=by decide +kernel
theorem Ag(c:Nat):decide (c∈(AA1 "abcdefghijklmnopqrstuvwxyz").cps.toList)=bG c:=by
 rw[wH,ABm]
 unfold bG
 simp only[AAN,AAk,decide_eq_true_eq,AAC]
 constructor
 ·rintro⟨a,ha,rfl⟩;lia
 ·rintro⟨h1,h2⟩;exact⟨c-97,by lia,by lia⟩
def cC:DSp:=λds M R=>∃d,ds=[d]/\lC M d/\R (.bl (kQ d)) M
theorem nH:bY cC fx:=by rintro ds M R ⟨x,rfl,_⟩;rfl
theorem kY{α:Type}(p:α->Bool)(l:List α):(l.filter p).isEmpty=l.all λx=>!p x:=by
 induction l with
 | nil=>rfl
 | cons a l ih =>
  rw[List.filter_cons,ABF]
  cases e:p a with
  | true=>simp
  | false=>simpa using ih
theorem De(hL:al M n xs)(ok:∀x∈xs,okD (M++[MO.lst []]) 29 x=true)(q:Q (.bl xs.isEmpty) (M++[.lst []])):qEq (.ref n) (.ref M.length) (M++[.lst []]) Q:=by
 have h1:al (M++[MO.lst []]) n xs:=by
  obtain⟨hh⟩:=(⟨hL⟩:Nonempty _)
  rcases hL with h | h | h
  ·exact .inl (by rw[AAJ (AA2.mp h).1];exact h)
  ·exact .inr (.inl (by rw[AAJ (AA2.mp h).1];exact h))
  ·exact .inr (.inr (by rw[AAJ (AA2.mp h).1];exact h))
 have h2:al (M++[MO.lst []]) M.length []:=af
 refine⟨⟨ig h1 ok,ig h2 λ_ z=>nomatch z⟩,?_⟩
 rw[show eqN=29+1 from rfl,nW h1 h2,zH]
 exact q
def fV:DTS:=aF (dOp qEq (dLC 1 [] (bK (ab 0)) (ar 0) (ak (dOp xU (ab 0) (dC (.str "abcdefghijklmnopqrstuvwxyz")))) (ab 0)) (dB ac))
def ju:DTS:=aC (dIf (dOr (dF (ak (dCB eK (aa (ab 0) (aa (dC (.ty "str")) ac))))) (dF (ak (cA qLe qLe (dC (.int 1)) (dCB fj (aa (ab 0) ac)) (dC (.int 8)))))) (aF (dC (.bl false))) aA) (fV)
theorem oF:WpT cC 1 ju:=by
 rintro ds M R ⟨d,rfl,⟨hty,hl⟩,h⟩
 simp only[ju,fV]
 cases d with
 | str x =>
  have hx:=hl x rfl
  walk_at "dl"
  refine⟨by decide,?_⟩
  rw[show eM "str" "str" = true from rfl]
  walk_at "ifs"
  refine⟨hx,?_⟩
  simp only[kQ]at h
  by_cases h1:1<=x.length
  ·rw[decide_eq_true h1]at h
   rw[decide_eq_true (show (1:Int)<=(x.length:Int) by lia)]
   walk_at "ifs"
   by_cases h8:x.length<=8
   ·rw[decide_eq_true h8]at h
    rw[decide_eq_true (show (x.length:Int)<=8 by lia)]
    walk_at "ifs"
    refine bO (λd=>!bG (chD d)) id (λS=>∃a,S=[a]) trivial _ _ _ ?_ ⟨_,rfl⟩ ?_ ?_
    ·rintro y hy S ⟨a,rfl⟩
     obtain⟨c,hc,rfl⟩:=gj hy
     refine⟨[some (.str ⟨#[c]⟩)],⟨_,rfl⟩,λY Z hYZ=>?_⟩
     have f1:=StrLaws.found_one "abcdefghijklmnopqrstuvwxyz" c
     rw[Ag]at f1
     rw[zW]at hYZ
     show if ((!(AC6 "abcdefghijklmnopqrstuvwxyz" ⟨#[c]⟩ 0 (AA1 "abcdefghijklmnopqrstuvwxyz").length 1).isEmpty) != true)=true then Y (.str ⟨#[c]⟩) [some (.str ⟨#[c]⟩)] M else Z [some (.str ⟨#[c]⟩)] M
     rw[f1]
     cases e:bG c with
     | true=>rw[e]at hYZ;exact hYZ
     | false=>rw[e]at hYZ;exact hYZ
    ·simp only[qg,AAW]
     exact am (by lia)
    ·rw[AAr,List.map_id]
     refine⟨AAT _,De (Q:=aq M R) af (λy hy=>?_) ?_⟩
     ·obtain⟨c,_,rfl⟩:=gj (AE8.mp hy).1
      exact az
     ·rw[kY]
      have e:(signs x).all (λd=>!!bG (chD d))=x.cps.toList.all bG:=by
       unfold signs
       rw[ADU]
       congr 1
       funext c
       show (!!bG c)=bG c
       rw[Bool.not_not]
      rw[e]
      refine aq.bl ?_ (by rw[ABS];exact ABJ _ _)
      simpa using h
   ·rw[decide_eq_false h8]at h
    rw[decide_eq_false (show ¬(x.length:Int)<=8 by lia)]
    walk_at "ifs"
    exact aq.now (by simpa using h)
  ·rw[decide_eq_false h1]at h
   rw[decide_eq_false (show ¬(1:Int)<=(x.length:Int) by lia)]
   walk_at "ifs"
   exact aq.now (by simpa using h)
 | non=>walk_at "dl";exact⟨by decide,aI (aq.now h)⟩
 | bl b=>walk_at "dl";exact⟨by decide,aI (aq.now h)⟩
 | int b=>walk_at "dl";exact⟨by decide,aI (aq.now h)⟩
 | tup b=>walk_at "dl";exact⟨by decide,aI (aq.now h)⟩
 | ty b=>exact absurd hty (by simp only[tyD];decide)
 | ref n =>
  have e:=bm hty
  simp only[tyD]at e
  walk_at "dl"
  rw[e]
  exact⟨by decide,aI (aq.now h)⟩
theorem qr(T:Tops P w K mg base):Cal P w K mg base 1 "_law_is_name" fx cC :=
 Cal.byD (N:=["_law_thing_here"]) T.b T.f_l_is_name (by walk_at "sc") nH (by walk_at "dv") oF
def bx:DSp:=λds M R=>∃d,ds=[d]/\lC M d/\R (.bl (eN d)) M
theorem kO:bY bx db:=by rintro ds M R ⟨x,rfl,_⟩;rfl
theorem xM(c:Nat):gZ c=(decide ((31:Int)<(c:Int))&&decide ((c:Int)<127)):=by
 unfold gZ
 rw[ABm]
 simp only[AAC,decide_eq_true_eq]
 lia
def dN:DTS:=aF (dOp qEq (dLC 1 [] (bK (ab 0)) (ar 0) (dF (ak (cA qLt qLt (dC (.int 31)) (dCB Gh (aa (ab 0) ac)) (dC (.int 127))))) (ab 0)) (dB ac))
def fU:DTS:=aC (dIf (dOr (dF (ak (dCB eK (aa (ab 0) (aa (dC (.ty "str")) ac))))) (dF (ak (cA qLe qLe (dC (.int 1)) (dCB fj (aa (ab 0) ac)) (dC (.int 60)))))) (aF (dC (.bl false))) aA) (dN)
theorem lI:WpT bx 1 fU:=by
 rintro ds M R ⟨d,rfl,⟨hty,hl⟩,h⟩
 simp only[fU,dN]
 cases d with
 | str x =>
  have hx:=hl x rfl
  walk_at "dl"
  refine⟨by decide,?_⟩
  rw[show eM "str" "str" = true from rfl]
  walk_at "ifs"
  refine⟨hx,?_⟩
  simp only[eN]at h
  by_cases h1:1<=x.length
  ·rw[decide_eq_true h1]at h
   rw[decide_eq_true (show (1:Int)<=(x.length:Int) by lia)]
   walk_at "ifs"
   by_cases h8:x.length<=60
   ·rw[decide_eq_true h8]at h
    rw[decide_eq_true (show (x.length:Int)<=60 by lia)]
    walk_at "ifs"
    refine bO (λd=>!gZ (chD d)) id (λS=>∃a,S=[a]) trivial _ _ _ ?_ ⟨_,rfl⟩ ?_ ?_
    ·rintro y hy S ⟨a,rfl⟩
     obtain⟨c,hc,rfl⟩:=gj hy
     refine⟨[some (.str ⟨#[c]⟩)],⟨_,rfl⟩,λY Z hYZ=>?_⟩
     rw[zW,xM]at hYZ
     walk_at "dl"
     refine⟨rfl,?_⟩
     rw[show (#[c]:Array Nat).getD 0 0=c from rfl]
     cases q1:decide ((31:Int)<(c:Int)) with
     | false=>rw[q1]at hYZ;exact hYZ
     | true =>
      rw[q1]at hYZ
      cases q2:decide ((c:Int)<127) with
      | false=>rw[q2]at hYZ;exact hYZ
      | true=>rw[q2]at hYZ;exact hYZ
    ·simp only[qg,AAW]
     exact am (by lia)
    ·rw[AAr,List.map_id]
     refine⟨AAT _,De (Q:=aq M R) af (λy hy=>?_) ?_⟩
     ·obtain⟨c,_,rfl⟩:=gj (AE8.mp hy).1
      exact az
     ·rw[kY]
      have e:(signs x).all (λd=>!!gZ (chD d))=x.cps.toList.all gZ:=by
       unfold signs
       rw[ADU]
       congr 1
       funext c
       show (!!gZ c)=gZ c
       rw[Bool.not_not]
      rw[e]
      refine aq.bl ?_ (by rw[ABS];exact ABJ _ _)
      simpa using h
   ·rw[decide_eq_false h8]at h
    rw[decide_eq_false (show ¬(x.length:Int)<=60 by lia)]
    walk_at "ifs"
    exact aq.now (by simpa using h)
  ·rw[decide_eq_false h1]at h
   rw[decide_eq_false (show ¬(1:Int)<=(x.length:Int) by lia)]
   walk_at "ifs"
   exact aq.now (by simpa using h)
 | non=>walk_at "dl";exact⟨by decide,aI (aq.now h)⟩
 | bl b=>walk_at "dl";exact⟨by decide,aI (aq.now h)⟩
 | int b=>walk_at "dl";exact⟨by decide,aI (aq.now h)⟩
 | tup b=>walk_at "dl";exact⟨by decide,aI (aq.now h)⟩
 | ty b=>exact absurd hty (by simp only[tyD];decide)
 | ref n =>
  have e:=bm hty
  simp only[tyD]at e
  walk_at "dl"
  rw[e]
  exact⟨by decide,aI (aq.now h)⟩
theorem lM(T:Tops P w K mg base):Cal P w K mg base 1 "_law_is_saying" db bx :=
 Cal.byD (N:=["_law_thing_here"]) T.b T.f_l_is_saying (by walk_at "sc") kO (by walk_at "dv") lI
def bD:DSp:=λds M R=>∃(n:Nat) (p0:D) (rs:List (Str×List Str)) (r:List D) (d:D),ds=[.tup (p0::.tup (rs.map bh)::r),d]/\Gdn M n d/\R (.bl (wg (rs.map (·.1)) d)) M
theorem nG:bY bD fv:=by rintro ds M R ⟨n,p0,rs,r,d,rfl,_⟩;rfl
theorem CN(g:Gdn M n d)(k1:ok' M)(hx:xs.map bv=ss.map D.str)(two:∀x∈xs,∃a b,x=.tup [a,b])(l:xs.length<=sizeLine)(h:R (.bl (wg ss d)) M) :
  lz ok' (eY 2 (aR (ar 0) (aR (ar 1) eZ))) lh (ab 0) (λy M2=>qIn d y M2 (aq M R)) xs [] [none,none] M:=by
 refine bw bv (λS=>∃a b,S=[a,b]) k1 _ _ _ (λy hy S hS=>?_) ⟨_,_,rfl⟩ (by simpa using l) ?_
 ·obtain⟨a,b,rfl⟩:=hS
  obtain⟨u,v,rfl⟩:=two y hy
  refine⟨[some u,some v],⟨_,_,rfl⟩,λY hY=>?_⟩
  walk_at "dl"
  exact⟨trivial,hY⟩
 ·rw[AAr,hx]
  exact tD g (AE5 M) h
def jt:DTS:=aF (bj (dCB eK (aa (ab 1) (aa (dC (.ty "str")) ac))) (dOp qIn (ab 1) (dLC 2 [] (bK (dOp qIx (ab 0) (dC (.int 1)))) (eY 2 (aR (ar 0) (aR (ar 1) eZ))) lh (ab 0))))
theorem oE:WpT bD 2 jt:=by
 rintro ds M R ⟨n,p0,rs,r,d,rfl,g,h⟩
 simp only[jt]
 rcases uz M g with⟨z,rfl⟩|⟨e1,e2⟩
 ·walk_at "dl"
  refine⟨by decide,?_⟩
  rw[show eM "str" "str" = true from rfl]
  walk_at "ifs"
  intro hz
  exact CN g trivial (kW rs) (λx hx=>by obtain⟨q,_,rfl⟩:=AAN.mp hx;exact⟨_,_,rfl⟩) hz h
 ·rw[yJ e2]at h
  walk_at "dl"
  refine⟨⟨g.thing.1,by decide⟩,?_⟩
  simp only[tyD]at e1
  rw[e1]
  walk_at "ifs"
  exact aq.now h
theorem iK(T:Tops P w K mg base):Cal P w K mg base 1 "_law_is_room" fv bD :=
 Cal.byD (N:=["_law_house_here","_law_thing_here"]) T.b T.f_l_is_room (by walk_at "sc") nG (by walk_at "dv") oE
def cB:DSp:=λds M R=>∃(n:Nat) (ps:List (Str×Int)) (rs:List (Str×List Str)) (r:List D) (d:D),ds=[.tup (.tup (ps.map aw)::.tup (rs.map bh)::r),d]/\(ps.map (·.1)).Nodup/\Gdn M n d/\R (.bl (mS ps rs d)) M
theorem nF:bY cB fu:=by rintro ds M R ⟨n,ps,rs,r,d,rfl,_⟩;rfl
def cW:DTS:=aF (bj (dOp qEq (dOp qIx (ab 1) (dC (.int 0))) (dC (.str "under"))) (dCB aL (aa (ab 0) (aa (dOp qIx (ab 1) (dC (.int 1))) ac))))
def fR:DTS:=aC (dIf (ak (dOp qEq (dOp qIx (ab 1) (dC (.int 0))) (dC (.str "person")))) (aF (bj (dCB eK (aa (dOp qIx (ab 1) (dC (.int 1))) (aa (dC (.ty "str")) ac))) (dOp qIn (dOp qIx (ab 1) (dC (.int 1))) (dLC 2 [] (bK (dOp qIx (ab 0) (dC (.int 0)))) (eY 2 (aR (ar 0) (aR (ar 1) eZ))) lh (ab 0))))) aA) (cW)
def fS:DTS:=aC (dIf (ak (dOp qEq (dOp qIx (ab 1) (dC (.int 0))) (dC (.str "room")))) (aF (dCB bD (aa (ab 0) (aa (dOp qIx (ab 1) (dC (.int 1))) ac)))) aA) (fR)
def jr:DTS:=aC (dIf (dOr (dF (ak (dCB eK (aa (ab 1) (aa (dC (.ty "tuple")) ac))))) (ak (dOp qNe (dCB fj (aa (ab 1) ac)) (dC (.int 2))))) (aF (dC (.bl false))) aA) (fS)
theorem oB:WpT cB 2 jr:=by
 rintro ds M R ⟨n,ps,rs,r,d,rfl,nd,g,h⟩
 simp only[jr]
 rcases ff M g with⟨xs,rfl⟩|⟨e1,e2⟩
 ·obtain⟨hl,m,rfl,gx⟩:=g.tup
  walk_at "dl"
  refine⟨by decide,?_⟩
  rw[show eM "tuple" "tuple" = true from rfl]
  walk_at "ifs"
  refine⟨⟨ae,ae⟩,?_⟩
  rw[bi]
  rcases ir (.tup xs)with⟨a,b,e⟩|⟨e1,e2⟩
  ·injection e with e
   subst e
   rw[show ((([a,b]:List D).length:Int)==2)=true from rfl]
   walk_at "ifs"
   have ga:=gx a (by simp)
   have gb:=gx b (by simp)
   simp only[fS]
   walk_at "dl"
   refine⟨⟨ga.ok,az⟩,?_⟩
   rw[eD]
   simp only[mS]at h
   cases e1:isS (AA1 "room") a with
   | true =>
    rw[e1,if_pos rfl]at h
    exact aI ⟨m,_,rs,r,b,rfl,gb,aq.now h⟩
   | false =>
    rw[e1,if_neg AAb]at h
    refine ba ?_
    simp only[fR]
    rcases uz M gb with⟨z,rfl⟩|⟨f1,f2⟩
    ·walk_at "dl"
     refine⟨⟨ga.ok,az⟩,?_⟩
     rw[eD]
     cases e2:isS (AA1 "person") a with
     | true =>
      rw[e2,if_pos rfl]at h
      refine aI ⟨by decide,?_⟩
      rw[show eM "str" "str" = true from rfl]
      walk_at "ifs"
      intro hz
      exact CN gb trivial (kX ps) (λx hx=>by obtain⟨q,_,rfl⟩:=AAN.mp hx;exact⟨_,_,rfl⟩) hz h
     | false =>
      rw[e2,if_neg AAb]at h
      refine ba ?_
      simp only[cW]
      walk_at "dl"
      refine⟨⟨ga.ok,az⟩,?_⟩
      rw[eD]
      cases e3:isS (AA1 "under") a with
      | true =>
       rw[e3,AAx]at h
       walk_at "ifs"
       exact⟨m,ps,_,_,rfl,nd,gb,aq.now h⟩
      | false =>
       rw[e3,AAw]at h
       walk_at "ifs"
       exact aq.now h
    ·rw[yJ f2]at h
     walk_at "dl"
     refine⟨⟨ga.ok,az⟩,?_⟩
     rw[eD]
     cases e2:isS (AA1 "person") a with
     | true =>
      rw[e2,if_pos rfl]at h
      refine aI ⟨⟨gb.thing.1,by decide⟩,?_⟩
      simp only[tyD]at f1
      rw[f1]
      walk_at "ifs"
      exact aq.now h
     | false =>
      rw[e2,if_neg AAb]at h
      refine ba ?_
      simp only[cW]
      walk_at "dl"
      refine⟨⟨ga.ok,az⟩,?_⟩
      rw[eD]
      cases e3:isS (AA1 "under") a with
      | true =>
       rw[e3,AAx]at h
       walk_at "ifs"
       exact⟨m,ps,_,_,rfl,nd,gb,aq.now h⟩
      | false =>
       rw[e3,AAw]at h
       walk_at "ifs"
       exact aq.now h
  ·have e3:((xs.length:Int)==2)=false:=e1
   rw[e3]
   walk_at "ifs"
   rw[mR e2]at h
   exact aq.now h
 ·rw[mR λa b=>e2 _]at h
  walk_at "dl"
  refine⟨⟨g.thing.1,by decide⟩,?_⟩
  simp only[tyD]at e1
  rw[e1]
  walk_at "ifs"
  exact aq.now h
theorem qp(T:Tops P w K mg base):Cal P w K mg base 4 "_law_is_what" fu cB :=
 Cal.byD (N:=["_law_house_here","_law_thing_here"]) T.b T.f_l_is_what (by walk_at "sc") nF (by have:=de T;have:=iK T;walk_at "dv") oB
def dy:DSp:=λds M R=>∃(n:Nat) (ps:List (Str×Int)) (rs:List (Str×List Str)) (r:List D) (d:D),ds=[.tup (.tup (ps.map aw)::.tup (rs.map bh)::r),d]/\(ps.map (·.1)).Nodup/\Gdn M n d/\R (.bl (rK M ps rs d)) M
theorem qI:bY dy hZ:=by rintro ds M R ⟨n,ps,rs,r,d,rfl,_⟩;rfl
theorem bp:eqD M eqN (.tup [.str z,.int i]) (.tup [.str k,.int j])=((z==k)&&(i==j)):=by
 show (eqD M 29 (.str z) (.str k)&&(eqD M 29 (.int i) (.int j)&&true))=_
 rw[bB,bi,AE7]
theorem list1(h:xs.length=1):∃a,xs=[a]:=match xs,h with
 | [a],_=>⟨a,rfl⟩
theorem Ez(h:xs.length=2):∃a b,xs=[a,b]:=match xs,h with
 | [a,b],_=>⟨a,b,rfl⟩
theorem HY(h:xs.length=3):∃a b c,xs=[a,b,c]:=match xs,h with
 | [a,b,c],_=>⟨a,b,c,rfl⟩
section
variable{M:Mem}{ps:List (Str×Int)}{rs:List (Str×List Str)}{d a b c:D}
theorem qm:bo M ps rs (AA1 "room") d=wg (rs.map (·.1)) d:=by
 unfold bo;rw[if_pos (by decide +kernel)]
theorem vU:bo M ps rs (AA1 "under") d=(zn d||bL ps d):=by
 unfold bo;rw[if_neg (by decide +kernel),if_pos (by decide +kernel)]
theorem dZ:bo M ps rs (AA1 "message") d=bL ps d:=by
 unfold bo;rw[if_neg (by decide +kernel),if_neg (by decide +kernel),if_pos (by decide +kernel)]
theorem kj:bo M ps rs (AA1 "saying") d=eN d:=by
 unfold bo;rw[if_neg (by decide +kernel),if_neg (by decide +kernel),if_neg (by decide +kernel),if_pos (by decide +kernel)]
theorem yj:bo M ps rs (AA1 "sort") d=kQ d:=by
 unfold bo;rw[if_neg (by decide +kernel),if_neg (by decide +kernel),if_neg (by decide +kernel),if_neg (by decide +kernel),if_pos (by decide +kernel)]
theorem sv:bo M ps rs (AA1 "vector") d=cj M ps d:=by
 unfold bo;rw[if_neg (by decide +kernel),if_neg (by decide +kernel),if_neg (by decide +kernel),if_neg (by decide +kernel),if_neg (by decide +kernel),if_pos (by decide +kernel)]
theorem yi:bo M ps rs (AA1 "what") d=mS ps rs d:=by
 unfold bo;rw[if_neg (by decide +kernel),if_neg (by decide +kernel),if_neg (by decide +kernel),if_neg (by decide +kernel),if_neg (by decide +kernel),if_neg (by decide +kernel),if_pos (by decide +kernel)]
theorem yk:bo M ps rs (AA1 "on") d=isBl d:=by
 unfold bo
 rw[if_neg (by decide +kernel),if_neg (by decide +kernel),if_neg (by decide +kernel),if_neg (by decide +kernel),if_neg (by decide +kernel),if_neg (by decide +kernel),if_neg (by decide +kernel),show (AA1 "on" == AA1 "on")=true from by decide +kernel,AAx]
theorem act_1(h:aE.find? (λp=>p.1==z)=some (z,[k])):rK M ps rs (.tup [.str z,a])=bo M ps rs k a:=by
 rw[gP h]
 show (true&&(bo M ps rs k a&&true))=_
 rw[AAx,AE7]
theorem Ge(h:aE.find? (λp=>p.1==z)=some (z,[k,l])):rK M ps rs (.tup [.str z,a,b])=(bo M ps rs k a&&bo M ps rs l b):=by
 rw[gP h]
 show (true&&(bo M ps rs k a&&(bo M ps rs l b&&true)))=_
 rw[AAx,AE7]
theorem JV(h:aE.find? (λp=>p.1==z)=some (z,[k,l,m])):rK M ps rs (.tup [.str z,a,b,c])=(bo M ps rs k a&&(bo M ps rs l b&&bo M ps rs m c)):=by
 rw[gP h]
 show (true&&(bo M ps rs k a&&(bo M ps rs l b&&(bo M ps rs m c&&true))))=_
 rw[AAx,AE7]
theorem JT(h:∀p∈aE,¬(p.1=z/\(xs.length:Int)=p.2.length)):rK M ps rs (.tup (.str z::xs))=false:=by
 cases hf:aE.find? (λp=>p.1==z) with
 | none=>exact ve hf
 | some p =>
  rw[gP hf]
  have h1:=h p (List.mem_of_find?_eq_some hf)
  have h2:p.1=z:=by
   have:=List.find?_some hf
   exact eq_of_beq this
  rw[beq_eq_false_iff_ne.mpr λe=>h1 ⟨h2,by rw[e]⟩,AAw]
end
def dO:DTS:=aF (bj (dOp qIn (ab 3) (dB (aa (dE (aa (dC (.str "back")) (aa (dC (.int 1)) ac))) (aa (dE (aa (dC (.str "seen")) (aa (dC (.int 1)) ac))) (aa (dE (aa (dC (.str "rung")) (aa (dC (.int 1)) ac))) ac))))) (dCB aL (aa (ab 0) (aa (dOp qIx (ab 2) (dC (.int 0))) ac))))
def iA:DTS:=aC (dIf (ak (dOp qEq (ab 3) (dE (aa (dC (.str "hush")) (aa (dC (.int 2)) ac))))) (aF (bj (dCB cB (aa (ab 0) (aa (dOp qIx (ab 2) (dC (.int 0))) ac))) (dCB eK (aa (dOp qIx (ab 2) (dC (.int 1))) (aa (dC (.ty "bool")) ac))))) aA) (dO)
def iB:DTS:=aC (dIf (ak (dOp qEq (ab 3) (dE (aa (dC (.str "read")) (aa (dC (.int 2)) ac))))) (aF (bj (dCB bD (aa (ab 0) (aa (dOp qIx (ab 2) (dC (.int 0))) ac))) (dCB bQ (aa (ab 0) (aa (dOp qIx (ab 2) (dC (.int 1))) ac))))) aA) (iA)
def iC:DTS:=aC (dIf (ak (dOp qEq (ab 3) (dE (aa (dC (.str "like")) (aa (dC (.int 3)) ac))))) (aF (bj (dCB aL (aa (ab 0) (aa (dOp qIx (ab 2) (dC (.int 0))) ac))) (bj (dCB cC (aa (dOp qIx (ab 2) (dC (.int 1))) ac)) (dCB eK (aa (dOp qIx (ab 2) (dC (.int 2))) (aa (dC (.ty "bool")) ac)))))) aA) (iB)
def dP:DTS:=aC (dIf (ak (dOp qEq (ab 3) (dE (aa (dC (.str "change")) (aa (dC (.int 2)) ac))))) (aF (bj (dCB aL (aa (ab 0) (aa (dOp qIx (ab 2) (dC (.int 0))) ac))) (dCB bx (aa (dOp qIx (ab 2) (dC (.int 1))) ac)))) aA) (iC)
def dQ:DTS:=aF (bj (dCB bD (aa (ab 0) (aa (dOp qIx (ab 2) (dC (.int 0))) ac))) (bj (ab 4) (dCB bx (aa (dOp qIx (ab 2) (dC (.int 2))) ac))))
def iD:DTS:=aC (dIf (ak (dOp qEq (ab 3) (dE (aa (dC (.str "say")) (aa (dC (.int 3)) ac))))) (aC (bT (JF (dOp qIs (dOp qIx (ab 2) (dC (.int 1))) (dC .non)) (dCB aL (aa (ab 0) (aa (dOp qIx (ab 2) (dC (.int 1))) ac)))) 4) (dQ)) aA) (dP)
def iE:DTS:=aC (bT (dE (aa (dOp qIx (ab 1) (dC (.int 0))) (aa (dCB fj (aa (ab 2) ac)) ac))) 3) (iD)
def iF:DTS:=aC (bT (dSl (ab 1) (cb (dC (.int 1))) aU) 2) (iE)
def mf:DTS:=aC (dIf (dOr (dF (ak (dCB eK (aa (ab 1) (aa (dC (.ty "tuple")) ac))))) (dOr (ak (dOp qEq (ab 1) (dE ac))) (dF (ak (dCB eK (aa (dOp qIx (ab 1) (dC (.int 0))) (aa (dC (.ty "str")) ac))))))) (aF (dC (.bl false))) aA) (iF)
section
variable{M:Mem}{R:DK}{ps:List (Str×Int)}{rs:List (Str×List Str)}{r:List D}{m:Nat}{z:Str}{L:Int}{xs:List D}{y4:Option D}
theorem HZ(nd:(ps.map (·.1)).Nodup)(gx:∀x∈xs,Gdn M m x)(hL:(xs.length:Int)=L)(no:∀p∈aE,p.1=z->L=p.2.length->(z==AA1 "back" || z==AA1 "seen" || z==AA1 "rung")=true/\L=1)(h:R (.bl (rK M ps rs (.tup (.str z::xs)))) M) :
  dO (EE M R) [some (.tup (.tup (ps.map aw)::.tup (rs.map bh)::r)),some (.tup (.str z::xs)),some (.tup xs),some (.tup [.str z,.int L]),y4] M:=by
 simp only[dO]
 have kin:∀B:Mem,inD B (.tup [.str z,.int L]) [.tup [.str (AA1 "back"),.int 1],.tup [.str (AA1 "seen"),.int 1],.tup [.str (AA1 "rung"),.int 1]]=((z==AA1 "back" || z==AA1 "seen" || z==AA1 "rung")&&(L==1)):=λB=>by
  unfold inD
  rw[ABe,ABe,ABe,List.any_nil,bp,bp,bp,Bool.or_false,Bool.beq_comm (a:=AA1 "back"),Bool.beq_comm (a:=AA1 "seen"),Bool.beq_comm (a:=AA1 "rung"),Bool.beq_comm (a:=(1:Int))]
  cases (z==AA1 "back")<;>cases (z==AA1 "seen")<;>cases (z==AA1 "rung")<;>cases (L==1)<;>rfl
 cases hk:((z==AA1 "back" || z==AA1 "seen" || z==AA1 "rung")&&(L==1)) with
 | true =>
  rw[AAC,beq_iff_eq]at hk
  obtain⟨x,rfl⟩:=list1 (xs:=xs) (by lia)
  walk_at "dl"
  refine⟨am (by lia),am (by lia),am (by lia),am (by lia),?_⟩
  refine⟨_,af,⟨rfl,rfl⟩,?_⟩
  rw[kin,hk.1,hk.2]
  walk_at "ifs"
  have hf:∃k,k=AA1 "message"/\aE.find? (λp=>p.1==z)=some (z,[k]):=by
   have h1:=hk.1
   rw[ACc,ACc,beq_iff_eq,beq_iff_eq,beq_iff_eq]at h1
   rcases h1 with(rfl | rfl) | rfl<;>exact⟨_,rfl,by decide +kernel⟩
  obtain⟨k,rfl,hf⟩:=hf
  rw[act_1 hf,dZ]at h
  exact⟨m,ps,_,x,rfl,nd,(gx x (by simp)).grow nr,aq.bl h nr⟩
 | false =>
  have e:rK M ps rs (.tup (.str z::xs))=false:=JT λp hp ⟨h1,h2⟩=>by
   obtain⟨l1,l2⟩:=no p hp h1 (by lia)
   rw[l1,l2]at hk
   cases hk
  rw[e]at h
  walk_at "dl"
  refine⟨am (by lia),am (by lia),am (by lia),am (by lia),?_⟩
  refine⟨_,af,⟨rfl,rfl⟩,?_⟩
  rw[kin,hk]
  walk_at "ifs"
  exact aq.bl h nr
end
section
variable{M:Mem}{R:DK}{ps:List (Str×Int)}{rs:List (Str×List Str)}{r:List D}{m:Nat}{z:Str}{L:Int}{xs:List D}{y4:Option D}
theorem uP(g0:Gdn M m x0)(g2:Gdn M m x2)(h:R (.bl (rK M ps rs (.tup [.str (AA1 "say"),x0,x1,x2]))) M)(hE:E.rt=aq M R)(b:Bool)(hb:(zn x1||bL ps x1)=b) :
  dQ E [some (.tup (.tup (ps.map aw)::.tup (rs.map bh)::r)),some (.tup [.str (AA1 "say"),x0,x1,x2]),some (.tup [x0,x1,x2]),some (.tup [.str (AA1 "say"),.int L]),some (.bl b)] M:=by
 rw[JV (k:=AA1 "room") (l:=AA1 "under") (m:=AA1 "saying") (by decide +kernel),qm,vU,kj,hb]at h
 simp only[dQ]
 walk_at "dl"
 rw[hE]
 refine⟨m,_,rs,r,x0,rfl,g0,?_⟩
 cases e0:wg (rs.map (·.1)) x0 with
 | false=>rw[e0,AAw]at h;walk_at "ifs";exact aq.now h
 | true =>
  rw[e0,AAx]at h
  walk_at "ifs"
  cases b with
  | false=>rw[AAw]at h;exact ba (aq.now h)
  | true=>rw[AAx]at h;exact aI ⟨x2,rfl,g2.thing,aq.now h⟩
theorem Ia(nd:(ps.map (·.1)).Nodup)(gx:∀x∈xs,Gdn M m x)(hL:(xs.length:Int)=L)(n1:¬(z=AA1 "say"/\L=3))(h:R (.bl (rK M ps rs (.tup (.str z::xs)))) M) :
  dP (EE M R) [some (.tup (.tup (ps.map aw)::.tup (rs.map bh)::r)),some (.tup (.str z::xs)),some (.tup xs),some (.tup [.str z,.int L]),y4] M:=by
 have kk:∀(k:Str) (i:Int),¬(z=k/\L=i)->((z==k)&&(L==i))=false:=λk i h=>by
  cases e:((z==k)&&(L==i)) with
  | false=>rfl
  | true=>rw[AAC,beq_iff_eq,beq_iff_eq]at e;exact absurd e h
 have kt:∀(k:Str) (i:Int),(z=k/\L=i)->((z==k)&&(L==i))=true:=λk i h=>by rw[AAC,beq_iff_eq,beq_iff_eq];exact h
 simp only[dP]
 by_cases c2:z=AA1 "change"/\L=2
 ·obtain⟨x0,x1,rfl⟩:=Ez (xs:=xs) (by lia)
  walk_at "dl"
  refine⟨am (by lia),⟨rfl,rfl⟩,?_⟩
  rw[bp,kt _ _ c2]
  obtain⟨rfl,rfl⟩:=c2
  rw[Ge (k:=AA1 "message") (l:=AA1 "saying") (by decide +kernel),dZ,kj]at h
  refine aI ⟨m,ps,_,x0,rfl,nd,gx x0 (by simp),?_⟩
  cases e0:bL ps x0 with
  | false=>rw[e0,AAw]at h;walk_at "ifs";exact aq.now h
  | true=>rw[e0,AAx]at h;walk_at "ifs";exact⟨x1,rfl,(gx x1 (by simp)).thing,aq.now h⟩
 walk_at "dl"
 refine⟨am (by lia),⟨rfl,rfl⟩,?_⟩
 rw[bp,kk _ _ c2]
 refine ba ?_
 simp only[iC]
 by_cases c3:z=AA1 "like"/\L=3
 ·obtain⟨x0,x1,x2,rfl⟩:=HY (xs:=xs) (by lia)
  walk_at "dl"
  refine⟨am (by lia),⟨rfl,rfl⟩,?_⟩
  rw[bp,kt _ _ c3]
  obtain⟨rfl,rfl⟩:=c3
  rw[JV (k:=AA1 "message") (l:=AA1 "sort") (m:=AA1 "on") (by decide +kernel),dZ,yj,yk]at h
  refine aI ⟨m,ps,_,x0,rfl,nd,gx x0 (by simp),?_⟩
  cases e0:bL ps x0 with
  | false=>rw[e0,AAw]at h;walk_at "ifs";exact aq.now h
  | true =>
   rw[e0,AAx]at h
   walk_at "ifs"
   refine⟨x1,rfl,(gx x1 (by simp)).thing,?_⟩
   cases e1:kQ x1 with
   | false=>rw[e1,AAw]at h;walk_at "ifs";exact aq.now h
   | true =>
    rw[e1,AAx]at h
    walk_at "ifs"
    refine⟨⟨(gx x2 (by simp)).thing.1,by decide⟩,?_⟩
    have e:=zm (gx x2 (by simp))
    simp only[tyD]at e
    rw[e]
    exact aq.now h
 walk_at "dl"
 refine⟨am (by lia),⟨rfl,rfl⟩,?_⟩
 rw[bp,kk _ _ c3]
 refine ba ?_
 simp only[iB]
 by_cases c4:z=AA1 "read"/\L=2
 ·obtain⟨x0,x1,rfl⟩:=Ez (xs:=xs) (by lia)
  walk_at "dl"
  refine⟨am (by lia),⟨rfl,rfl⟩,?_⟩
  rw[bp,kt _ _ c4]
  obtain⟨rfl,rfl⟩:=c4
  rw[Ge (k:=AA1 "room") (l:=AA1 "vector") (by decide +kernel),qm,sv]at h
  refine aI ⟨m,_,rs,r,x0,rfl,gx x0 (by simp),?_⟩
  cases e0:wg (rs.map (·.1)) x0 with
  | false=>rw[e0,AAw]at h;walk_at "ifs";exact aq.now h
  | true=>rw[e0,AAx]at h;walk_at "ifs";exact⟨m,ps,_,x1,rfl,nd,gx x1 (by simp),(gx x1 (by simp)).few,aq.now h⟩
 walk_at "dl"
 refine⟨am (by lia),⟨rfl,rfl⟩,?_⟩
 rw[bp,kk _ _ c4]
 refine ba ?_
 simp only[iA]
 by_cases c5:z=AA1 "hush"/\L=2
 ·obtain⟨x0,x1,rfl⟩:=Ez (xs:=xs) (by lia)
  walk_at "dl"
  refine⟨am (by lia),⟨rfl,rfl⟩,?_⟩
  rw[bp,kt _ _ c5]
  obtain⟨rfl,rfl⟩:=c5
  rw[Ge (k:=AA1 "what") (l:=AA1 "on") (by decide +kernel),yi,yk]at h
  refine aI ⟨m,ps,rs,r,x0,rfl,nd,gx x0 (by simp),?_⟩
  cases e0:mS ps rs x0 with
  | false=>rw[e0,AAw]at h;walk_at "ifs";exact aq.now h
  | true =>
   rw[e0,AAx]at h
   walk_at "ifs"
   refine⟨⟨(gx x1 (by simp)).thing.1,by decide⟩,?_⟩
   have e:=zm (gx x1 (by simp))
   simp only[tyD]at e
   rw[e]
   exact aq.now h
 walk_at "dl"
 refine⟨am (by lia),⟨rfl,rfl⟩,?_⟩
 rw[bp,kk _ _ c5]
 refine ba ?_
 refine HZ nd gx hL (λp hp h1 h2=>?_) h
 simp only[aE,AAH,AAf,or_false]at hp
 rcases hp with rfl | rfl | rfl | rfl | rfl | rfl | rfl | rfl
 ·exact absurd ⟨h1.symm,by simpa using h2⟩ n1
 ·exact absurd ⟨h1.symm,by simpa using h2⟩ c2
 ·exact⟨by rw[←h1];decide +kernel,by simpa using h2⟩
 ·exact absurd ⟨h1.symm,by simpa using h2⟩ c3
 ·exact absurd ⟨h1.symm,by simpa using h2⟩ c4
 ·exact⟨by rw[←h1];decide +kernel,by simpa using h2⟩
 ·exact absurd ⟨h1.symm,by simpa using h2⟩ c5
 ·exact⟨by rw[←h1];decide +kernel,by simpa using h2⟩
theorem rP:WpT dy 5 mf:=by
 rintro ds M R ⟨n,ps,rs,r,d,rfl,nd,g,h⟩
 simp only[mf]
 rcases ff M g with⟨xs,rfl⟩|⟨e1,e2⟩
 ·obtain⟨hl,m,rfl,gx⟩:=g.tup
  cases xs with
  | nil =>
   walk_at "dl"
   refine⟨by decide,?_⟩
   rw[show eM "tuple" "tuple" = true from rfl]
   walk_at "ifs"
   refine⟨AAT _,⟨rfl,rfl⟩,?_⟩
   rw[show eqD M eqN (.tup []) (.tup [])=true from rfl]
   walk_at "ifs"
   exact aq.now h
  | cons a xs =>
   have ga:=gx a (by simp)
   rcases uz M ga with⟨z,rfl⟩|⟨f1,f2⟩
   ·walk_at "dl"
    refine⟨by decide,?_⟩
    rw[show eM "tuple" "tuple" = true from rfl]
    walk_at "ifs"
    refine⟨AAT _,⟨g.ok,rfl⟩,?_⟩
    rw[show eqD M eqN (.tup (.str z::xs)) (.tup [])=false from rfl]
    walk_at "ifs"
    refine⟨by decide,?_⟩
    rw[show eM "str" "str" = true from rfl]
    walk_at "ifs"
    simp only[iF]
    walk_at "dl"
    rw[uY]
    simp only[iE]
    walk_at "dl"
    refine⟨am (by lia),?_⟩
    obtain⟨L,hL⟩:∃L:Int,(xs.length:Int)=L:=⟨_,rfl⟩
    rw[hL]
    simp only[iD]
    by_cases c1:z=AA1 "say"/\L=3
    ·obtain⟨x0,x1,x2,rfl⟩:=HY (xs:=xs) (by lia)
     walk_at "dl"
     refine⟨am (by lia),⟨rfl,rfl⟩,?_⟩
     rw[bp,show ((z==AA1 "say")&&(L==3))=true from by rw[AAC,beq_iff_eq,beq_iff_eq];exact c1]
     obtain⟨rfl,rfl⟩:=c1
     refine aI ?_
     have g0:=gx x0 (by simp)
     have g1:=gx x1 (by simp)
     have g2:=gx x2 (by simp)
     cases x1<;>first
      | exact uP g0 g2 h rfl true rfl
      | exact⟨m,ps,_,_,rfl,nd,g1,uP g0 g2 h rfl _ rfl⟩
      | exact aI (uP g0 g2 h rfl true rfl)
      | exact ba ⟨m,ps,_,_,rfl,nd,g1,uP g0 g2 h rfl _ rfl⟩
    ·walk_at "dl"
     refine⟨am (by lia),⟨rfl,rfl⟩,?_⟩
     rw[bp,show ((z==AA1 "say")&&(L==3))=false from by
      cases e:((z==AA1 "say")&&(L==3)) with
      | false=>rfl
      | true=>rw[AAC,beq_iff_eq,beq_iff_eq]at e;exact absurd e c1]
     exact ba (Ia nd (λx hx=>gx x (AA9 _ hx)) hL c1 h)
   ·rw[vh f2]at h
    walk_at "dl"
    refine⟨by decide,?_⟩
    rw[show eM "tuple" "tuple" = true from rfl]
    walk_at "ifs"
    refine⟨AAT _,⟨g.ok,rfl⟩,?_⟩
    rw[show eqD M eqN (.tup (a::xs)) (.tup [])=false from rfl]
    walk_at "ifs"
    refine⟨⟨ga.thing.1,by decide⟩,?_⟩
    simp only[tyD]at f1
    rw[f1]
    walk_at "ifs"
    exact aq.now h
 ·rw[vj e2]at h
  walk_at "dl"
  refine⟨⟨g.thing.1,by decide⟩,?_⟩
  simp only[tyD]at e1
  rw[e1]
  walk_at "ifs"
  exact aq.now h
end
theorem sI(T:Tops P w K mg base):Cal P w K mg base 5 "_law_is_act" hZ dy :=
 Cal.byD (N:=["_law_house_here","_law_thing_here","_law_parts","_law_kind","_law_under"]) T.b T.f_l_is_act (by walk_at "sc") qI (by have:=de T;have:=lK T;have:=qr T;have:=lM T;have:=iK T;have:=qp T;walk_at "dv") rP
def bW:DSp:=λds M R=>∃(n:Nat) (ps:List (Str×Int)) (rs:List (Str×List Str)) (r:List D) (d:D),ds=[.tup (.tup (ps.map aw)::.tup (rs.map bh)::r),d]/\(ps.map (·.1)).Nodup/\Gdn M n d/\R (.bl (nZ M ps rs d)) M
theorem nJ:bY bW fA:=by rintro ds M R ⟨n,ps,rs,r,d,rfl,_⟩;rfl
def fY:DTS:=aF (bj (dCB bg (aa (dOp qIx (ab 1) (dC (.int 2))) (aa (dC (.int 0)) ac))) (dCB dy (aa (ab 0) (aa (dOp qIx (ab 1) (dC (.int 3))) ac))))
def jw:DTS:=aC (dIf (dOr (dF (ak (dCB eK (aa (ab 1) (aa (dC (.ty "tuple")) ac))))) (dOr (ak (dOp qNe (dCB fj (aa (ab 1) ac)) (dC (.int 4)))) (dF (ak (dCB aL (aa (ab 0) (aa (dSl (ab 1) aU (cb (dC (.int 2)))) ac))))))) (aF (dC (.bl false))) aA) (fY)
theorem oH:WpT bW 2 jw:=by
 rintro ds M R ⟨n,ps,rs,r,d,rfl,nd,g,h⟩
 simp only[jw]
 rcases ff M g with⟨xs,rfl⟩|⟨e1,e2⟩
 ·obtain⟨hl,m,rfl,gx⟩:=g.tup
  walk_at "dl"
  refine⟨by decide,?_⟩
  rw[show eM "tuple" "tuple" = true from rfl]
  walk_at "ifs"
  refine⟨⟨ae,ae⟩,?_⟩
  rw[bi]
  rcases tI (.tup xs)with⟨a,b,c,e,z⟩|⟨e1,e2⟩
  ·injection z with z
   subst z
   rw[show ((([a,b,c,e]:List D).length:Int)==4)=true from rfl]
   walk_at "ifs"
   have ga:=gx a (by simp)
   have gb:=gx b (by simp)
   have gc:=gx c (by simp)
   have ge:=gx e (by simp)
   refine⟨m+1,ps,_,_,rfl,nd,Dc g ga gb,?_⟩
   simp only[nZ]at h
   simp only[show cutD [a,b,c,e] none (some 2)=[a,b]from rfl]
   cases es:bL ps (.tup [a,b]) with
   | false =>
    rw[es]at h
    walk_at "ifs"
    exact aq.now h
   | true =>
    rw[es]at h
    walk_at "ifs"
    simp only[fY]
    walk_at "dl"
    refine⟨0,c,rfl,gc.thing.1,?_⟩
    cases ec:aG 0 c with
    | false =>
     rw[ec]at h
     walk_at "ifs"
     exact aq.now h
    | true =>
     rw[ec]at h
     walk_at "ifs"
     exact⟨m,ps,rs,r,e,rfl,nd,ge,aq.now h⟩
  ·have e3:((xs.length:Int)==4)=false:=e1
   rw[e3]
   walk_at "ifs"
   rw[je e2]at h
   exact aq.now h
 ·rw[je λa b c e=>e2 _]at h
  walk_at "dl"
  refine⟨⟨g.thing.1,by decide⟩,?_⟩
  simp only[tyD]at e1
  rw[e1]
  walk_at "ifs"
  exact aq.now h
theorem qt(T:Tops P w K mg base):Cal P w K mg base 6 "_law_is_deed" fA bW :=
 Cal.byD (N:=["_law_house_here","_law_thing_here"]) T.b T.f_l_is_deed (by walk_at "sc") nJ (by have:=cg T;have:=de T;have:=sI T;walk_at "dv") oH
def gQ:DSp:=λds M R=>∃a b:Bool,ds=[.bl a,.bl b]/\R (.bl (a==b)) M
theorem yT:bY gQ sA:=by rintro ds M R ⟨a,b,rfl,_⟩;rfl
def xi:DTS:=aF (bj (dCB eK (aa (ab 0) (aa (dC (.ty "bool")) ac))) (dOp qEq (ab 0) (ab 1)))
theorem Av:WpT gQ 2 xi:=by
 rintro ds M R ⟨a,b,rfl,h⟩
 unfold xi
 walk_at "dl"
 refine⟨by decide,aI ⟨⟨mF,mF⟩,?_⟩⟩
 rw[Jh]
 exact aq.now h
theorem uI(T:Tops P w K mg base):Cal P w K mg base 1 "_law_truth" sA gQ :=
 Cal.byD (N:=["_law_found","_law_due"]) T.b T.f_truth (by walk_at "sc") yT (by walk_at "dv") Av
def eX:DSp:=λds M R=>∃(n:Nat) (c:Int) (p:Str×Int) (ps:List (Str×Int)) (rs:List (Str×List Str)) (r:List D),ds=[.ref n,.tup (.tup ((p::ps).map aw)::.tup (rs.map bh)::r)]/\M[n]?=some (ah c)/\Few (p::ps)/\1<=(au (p::ps)).length/\(∀q∈p::ps,q.1.length<=8)/\(∀q∈rs,q.1.length<=8)/\1<=rs.length/\rs.length<=4/\∀(d:D) (B:Mem),WM M n B->Gdn B 6 d->R d B
theorem yY:bY eX sF:=by rintro ds M R ⟨n,c,p,ps,rs,r,rfl,_⟩;rfl
theorem JU(hx:x.length<=10)(h:Gr ds):GoodP 4 (.tup (.str x::ds)):=by
 obtain⟨⟨l1,l3⟩,hd⟩:=h
 refine uW (n:=3) (λy hy=>?_) (by rw[AAA];lia) (by decide)
 rcases AAH.mp hy with rfl | hy
 ·exact cN (by lia)
 ·exact hd y hy
theorem FL(h8:∀p∈ps,p.1.length<=8)(hd:d∈au ps)(ha:GoodP 4 a):GoodP 5 (.tup [.int t,d,.int k,a]):=by
 refine uW (n:=4) (λy hy=>?_) (by simp) (by decide)
 simp only[AAH,AAf,or_false]at hy
 rcases hy with rfl | rfl | rfl | rfl
 ·exact qS
 ·exact tF (n:=3) h8 hd (by decide)
 ·exact qS
 ·exact ha
def pP:DTS:=aF (dCB (fP 5) (aa (ab 4) (aa (ab 0) (aa (dC (.int 3)) ac))))
def pQ:DTS:=aC (dIf (ak (dOp qGt (dCB ao (aa (ab 0) (aa (dC (.int 3)) ac))) (dC (.int 0)))) (aF (ab 4)) aA) (pP)
def pR:DTS:=aC (bT (dOp aJ (ab 2) (dE (aa (ab 3) (aa (dCB vm (aa (ab 0) (aa (ab 1) (aa (dB ac) ac)))) ac)))) 4) (pQ)
def jS:DTS:=aC (bT (dCB ao (aa (ab 0) (aa (dOp qIx (dB (aa (dC (.int 3)) (aa (dC (.int 200)) (aa (dOp CK (dC (.int 10)) (dC (.int 9))) ac)))) (dCB ao (aa (ab 0) (aa (dC (.int 3)) ac)))) ac))) 3) (pR)
def pS:DTS:=aC (bT (dCB dw (aa (ab 0) (aa (ab 1) (aa (dB ac) ac)))) 2) (jS)
def xu:DTS:=aC (dIf (ak (dOp qEq (dCB ao (aa (ab 0) (aa (dC (.int 6)) ac))) (dC (.int 0)))) (aF (dCB (bz 5) (aa (ab 0) (aa (dC (.int 3)) ac)))) aA) (pS)
theorem FE{M B:Mem}{R:DK}{n:Nat}{c t:Int}{d:D}{p:Str×Int}{ps:List (Str×Int)}{rs:List (Str×List Str)}{r:List D}(hn:M[n]?=some (ah c))(wm:WM M n B)(few:Few (p::ps))(h1:1<=(au (p::ps)).length)(h8:∀q∈p::ps,q.1.length<=8)(r8:∀q∈rs,q.1.length<=8)(r1:1<=rs.length)(r4:rs.length<=4)(hd:d∈au (p::ps))(h:∀(d:D) (B:Mem),WM M n B->Gdn B 6 d->R d B) :
  jS (EE M R) [some (.ref n),some (.tup (.tup ((p::ps).map aw)::.tup (rs.map bh)::r)),some (.tup [.int t,d]),none,none] B:=by
 have nM:n<M.length:=(AA2.mp hn).1
 simp only[jS]
 walk_at "dl"
 have wm2:=wm.app [MO.lst [D.int 3,D.int 200,D.int (10 ^ ACF 9)]]
 have t2:al (B++[MO.lst [D.int 3,D.int 200,D.int (10 ^ ACF 9)]]) B.length [D.int 3,D.int 200,D.int (10 ^ ACF 9)]:=af
 have b1:=wm.len
 obtain⟨c2,hc2⟩:=wm2.get hn
 generalize B++[MO.lst [D.int 3,D.int 200,D.int (10 ^ ACF 9)]]=B2 at wm2 t2 hc2
 generalize B.length=k2 at t2 b1
 refine⟨by unfold Gq;decide,am (by lia),n,c2,3,rfl,hc2,by decide,by decide,λi c3 i0 i3=>⟨_,bb (by lia) t2,?_⟩⟩
 have wm3:WM M n (B2.set n (ah c3)):=wm2.set hn _
 obtain⟨c4,hc4⟩:=wm3.get hn
 generalize B2.set n (ah c3)=B3 at wm3 hc4
 obtain⟨w,hw,w0,w15⟩:∃w:Int,atI [D.int 3,D.int 200,D.int (10 ^ ACF 9)] i=some (.int w)/\0<w/\w<1000000000000000:=by
  have:i=0\/i=1\/i=2:=by lia
  rcases this with rfl | rfl | rfl
  ·exact⟨3,aZ (j:=0) rfl,by decide,by decide⟩
  ·exact⟨200,aZ (j:=1) rfl,by decide,by decide⟩
  ·exact⟨10 ^ ACF 9,aZ (j:=2) rfl,by decide,by decide⟩
 rw[hw]
 refine⟨n,c4,w,rfl,hc4,w0,w15,λv c5 v0 v1=>?_⟩
 have wm4:WM M n (B3.set n (ah c5)):=wm3.set hn _
 generalize B3.set n (ah c5)=B4 at wm4
 simp only[pR]
 walk_at "dl"
 have wm5:=wm4.app [MO.lst []]
 have l5:al (B4++[MO.lst []]) B4.length []:=af
 have b4:=wm4.len
 obtain⟨c6,hc6⟩:=wm5.get hn
 generalize B4++[MO.lst []]=B5 at wm5 l5 hc6
 generalize B4.length=q at l5 b4
 refine⟨AAT _,n,q,c6,p,ps,rs,r,[],rfl,hc6,l5,by lia,(λ_ z=>nomatch z),(λ_ z=>nomatch z),by simp,few,h1,h8,r8,r1,r4,λx ds B6 x10 ap w6=>?_⟩
 have wm6:=wm5.trans hn w6
 have gp:=FL (t:=t) (k:=v) h8 hd (JU x10 ap)
 obtain⟨c7,hc7⟩:=wm6.get hn
 refine⟨am (by lia),am (by first | lia | (simp only[AAA,AAW];lia)),?_⟩
 simp only[pQ]
 walk_at "dl"
 refine⟨n,c7,3,rfl,hc7,by decide,by decide,λj c8 j0 j3=>?_⟩
 have wm7:WM M n (B6.set n (ah c8)):=wm6.set hn _
 obtain⟨c9,hc9⟩:=wm7.get hn
 generalize B6.set n (ah c8)=B7 at wm7 hc9
 dsimp only
 by_cases hj:0<j
 ·rw[decide_eq_true hj]
  exact aI (.inl (h _ _ wm7 ((gp.gd _).mono (by decide) (by decide))))
 ·rw[decide_eq_false hj]
  refine ba ?_
  simp only[pP]
  walk_at "dl"
  exact⟨n,6,5,c9,3,_,rfl,hc9,by decide,by decide,by decide,(gp.gd _).mono (by decide) (by decide),gp.sm,λd B w g f=>.inl (h _ _ (wm7.trans hn w) g)⟩
theorem AA:WpT eX 5 xu:=by
 rintro ds M R ⟨n,c,p,ps,rs,r,rfl,hn,few,h1,h8,r8,r1,r4,h⟩
 have nM:n<M.length:=(AA2.mp hn).1
 simp only[xu]
 walk_at "dl"
 refine⟨n,c,6,rfl,hn,by decide,by decide,λi c1 i0 i5=>⟨⟨ae,ae⟩,?_⟩⟩
 have wm1:WM M n (M.set n (ah c1)):=WM.drawn
 generalize M.set n (ah c1)=B1 at wm1
 obtain⟨c2,hc2⟩:=wm1.get hn
 cases eqD B1 eqN (.int i) (.int 0) with
 | true =>
  exact aI ⟨n,c2,3,rfl,hc2,by decide,by decide,by decide,λd B w g f=>.inl (h _ _ (wm1.trans hn w) (g.mono (by decide) (by decide)))⟩
 | false =>
  refine ba ?_
  simp only[pS]
  walk_at "dl"
  have wm2:=wm1.app [MO.lst []]
  have l2:al (B1++[MO.lst []]) B1.length []:=af
  have b1:=wm1.len
  obtain⟨c3,hc3⟩:=wm2.get hn
  generalize B1++[MO.lst []]=B2 at wm2 l2 hc3
  generalize B1.length=q at l2 b1
  exact⟨AAT _,n,q,c3,p::ps,_,[],rfl,hc3,l2,by lia,(λ_ z=>nomatch z),by simp,few,h1,(λ_ _ z=>nomatch z),λt d B3 t1 hd w3=>FE hn (wm2.trans hn w3) few h1 h8 r8 r1 r4 hd h⟩
theorem Bh(T:Tops P w K mg base):Cal P w K mg base 12 "_law_drawn" sF eX :=
 Cal.byD (N:=["_law_well_here","_law_house_here","_law_stamp_here","_law_number","_law_deed"]) T.b T.f_drawn (by walk_at "sc") yY (by have:=bZ T;have:=nB T;have:=HK T;have:=nA T 5;have:=yC T 5;walk_at "dv") AA
theorem uT:∀(ps kvs:List (D×D)),HKv ps->HKv kvs->HKv (ps.foldl (λkvs p=>sn kvs p.1 p.2) kvs)
 | [],_,_,h=>h
 | p::ps,kvs,hp,h=>by
  obtain⟨h1,i,e⟩:=hp p (by simp)
  rw[AEG,e]
  exact uT ps _ (λq hq=>hp q (AA9 _ hq)) (zv h h1)
theorem yF:∀(ps kvs:List (D×D)),(kvs.map (·.1)).Nodup->((ps.foldl (λkvs p=>sn kvs p.1 p.2) kvs).map (·.1)).Nodup
 | [],_,h=>h
 | p::ps,kvs,h=>by
  rw[AEG]
  exact yF ps _ (np h)
def unD:D->D×Int
 | .tup [a,.int i]=>(a,i)
 | _=>(.non,0)
theorem AB(h:HKv kvs)(nd:(kvs.map (·.1)).Nodup)(p:ys.Perm (bR kvs)):∃hs:List (D×Int),ys=wL hs/\(∀q∈hs,Hd q.1)/\(hs.map (·.1)).Nodup/\hs.length=kvs.length:=by
 have at_:∀y∈ys,∃a i,y=.tup [a,.int i]/\Hd a:=λy hy=>by
  obtain⟨q,hq,rfl⟩:=AAN.mp (p.mem_iff.mp hy)
  obtain⟨h1,i,e⟩:=h q hq
  exact⟨q.1,i,by rw[e],h1⟩
 refine⟨ys.map unD,?_,λq hq=>?_,?_,?_⟩
 ·unfold wL
  rw[AAi]
  have:ys.map ((λp:D×Int=>D.tup [p.1,.int p.2]) ∘ unD)=ys.map id:=ACm λy hy=>by
   obtain⟨a,i,rfl,_⟩:=at_ y hy
   rfl
  rw[this,List.map_id]
 ·obtain⟨y,hy,rfl⟩:=AAN.mp hq
  obtain⟨a,i,rfl,h1⟩:=at_ y hy
  exact h1
 ·have e:(bR kvs).map (λy=>(unD y).1)=kvs.map (·.1):=by
   unfold bR
   rw[AAi]
   refine ACm λq hq=>?_
   obtain⟨h1,i,e⟩:=h q hq
   show (unD (.tup [q.1,q.2])).1=q.1
   rw[e]
   rfl
  rw[AAi]
  have pm:=p.map (λy=>(unD y).1)
  rw[e]at pm
  exact pm.nodup_iff.mpr nd
 ·rw[AA6,p.length_eq]
  unfold bR
  rw[AA6]
def lF:DSp:=λds M R=>∃(n:Nat) (c:Int) (ps:List (Str×Int)) (r:List D) (t hd:D) (num:Int) (r2:List D),ds=[.ref n,.tup (.tup (ps.map aw)::r),.tup (t::hd::.int num::r2)]/\M[n]?=some (ah c)/\Few ps/\Hd hd/\∀(hs:List (D×Int)) (B:Mem),(∀p∈hs,Hd p.1)->(hs.map (·.1)).Nodup->hs.length<=20->WM M n B->R (.tup (wL hs)) B
theorem Bw:bY lF yt:=by rintro ds M R ⟨n,c,ps,r,t,hd,num,r2,rfl,_⟩;rfl
def mY:DTS:=aF (dCB fh (aa (eO (ab 3)) ac))
def uj:DTS:=aC (dIf (ak (dOp qGt (ab 4) (dC (.int 0)))) (Ck (ab 3) (dOp qIx (ab 2) (dC (.int 1))) (ab 4)) aA) (mY)
def uk:DTS:=aC (bT (dOp aJ (dOp An (dOp qIx (ab 2) (dC (.int 2))) (dC (.int 1))) (dCB ao (aa (ab 0) (aa (dC (.int 4)) ac)))) 4) (uj)
def CH:DTS:=aC (bT (dCB qk (aa (dCB cP (aa (ab 0) (aa (ab 1) ac))) ac)) 3) (uk)
theorem CM(hk:HKv kvs)(nd:(kvs.map (·.1)).Nodup)(kl:kvs.length<=20)(g:B[k]?=some (.dkt kvs))(wm:WM M n B)(h:∀(hs:List (D×Int)) (B:Mem),(∀p∈hs,Hd p.1)->(hs.map (·.1)).Nodup->hs.length<=20->WM M n B->R (.tup (wL hs)) B) :
  mY (EE M R) [some (.ref n),y1,y2,some (.ref k),y4] B:=by
 simp only[mY]
 walk_at "dl"
 refine⟨kvs,g,Fm hk (by lia),λys hp up=>⟨ys,af,?_⟩⟩
 obtain⟨hs,rfl,q1,q2,q3⟩:=AB hk nd hp
 exact .inl (h hs _ q1 q2 (by lia) (wm.app _))
theorem Ds:WpT lF 5 CH:=by
 rintro ds M R ⟨n,c,ps,r,t,hd,num,r2,rfl,hn,few,hh,h⟩
 have nM:n<M.length:=(AA2.mp hn).1
 have hl:=ci few.2
 have f4:=few.1
 simp only[CH]
 walk_at "dl"
 refine⟨n,c,ps,r,rfl,hn,few,λvs B1 vok wm1=>?_⟩
 obtain⟨hs,rfl,hsub,hpos⟩:=vok
 have hsl:=hsub.length_le
 rw[AA6]at hsl
 have hh1:HKv (hs.map λp=>(p.1,D.int p.2)):=λp hp=>by
  obtain⟨q,hq,rfl⟩:=AAN.mp hp
  exact⟨qR (hsub.subset (AAN.mpr ⟨q,hq,rfl⟩)),_,rfl⟩
 refine⟨hs.map λp=>(p.1,.int p.2),by rw[AAi];rfl,λp hp=>?_,by rw[AA6];lia,?_⟩
 ·obtain⟨h1,_⟩:=hh1 p hp
  refine⟨IR h1,?_⟩
  obtain⟨z,i,e⟩:=h1
  rw[e]
  rfl
 have hk:HKv (dictOf (hs.map λp=>(p.1,D.int p.2))):=uT _ _ hh1 (λ_ z=>nomatch z)
 have nd:((dictOf (hs.map λp=>(p.1,D.int p.2))).map (·.1)).Nodup:=yF _ [] ACs
 have dl:=io (ps:=hs.map λp=>(p.1,D.int p.2))
 rw[AA6]at dl
 generalize dictOf (hs.map λp=>(p.1,D.int p.2))=kvs at hk nd dl ⊢
 have wm2:=wm1.app [MO.dkt kvs]
 have g2:(B1++[MO.dkt kvs])[B1.length]?=some (.dkt kvs):=aO
 have b1:=wm1.len
 obtain⟨c2,hc2⟩:=wm2.get hn
 generalize B1++[MO.dkt kvs]=B2 at wm2 g2 hc2 ⊢
 generalize B1.length=k at g2 b1 ⊢
 simp only[uk]
 walk_at "dl"
 refine⟨n,c2,4,rfl,hc2,by decide,by decide,λi c3 i0 i4=>?_⟩
 have wm3:WM M n (B2.set n (ah c3)):=wm2.set hn _
 have g3:(B2.set n (ah c3))[k]?=some (.dkt kvs):=bc (by lia) g2
 generalize B2.set n (ah c3)=B3 at wm3 g3
 simp only[uj]
 walk_at "dl"
 cases decide (0<num-1+i) with
 | true =>
  obtain⟨z,j,rfl⟩:=hh
  have pl:=nq (kvs:=kvs) (k:=.tup [.str z,.int j]) (d:=.int (num-1+i))
  exact aI ⟨kvs,g3,rfl,small1000 (by lia),CM (zv hk ⟨_,_,rfl⟩) (np nd) (by lia) (eA g3) (wm3.hi (by lia)) h⟩
 | false=>exact ba (CM hk nd (by lia) g3 wm3 h)
theorem Eo(T:Tops P w K mg base):Cal P w K mg base 3 "_law_near" yt lF :=
 Cal.byD (N:=["_law_well_here","_law_house_here","_law_deed","_law_near_here","_law_count"]) T.b T.f_near (by walk_at "sc") Bw (by have:=bZ T;have:=kH T;walk_at "dv") Ds
theorem uQ:∀{hs:List (D×Int)},(hs.map (·.1)).Nodup->(hs.filter λp=>decide (p.1=hd)&&decide (num<p.2)).isEmpty = !dG hs hd num
 | [],_=>rfl
 | p::hs,nd=>by
  rw[AAM,AB6]at nd
  unfold dG
  rw[List.filter_cons,AB7]
  by_cases e:p.1=hd
  ·rw[decide_eq_true e,AAx]
   have:(hs.filter λp=>decide (p.1=hd)&&decide (num<p.2))=[]:=List.filter_eq_nil_iff.mpr λq hq=>by
    have:q.1≠hd:=λz=>nd.1 (by rw[e,←z];exact ACo hq)
    rw[decide_eq_false this,AAw];decide
   rw[this]
   by_cases k:num<p.2
   ·show (if decide (num<p.2)=true then[p]else[]).isEmpty = !decide (num<p.2)
    rw[decide_eq_true k];rfl
   ·show (if decide (num<p.2)=true then[p]else[]).isEmpty = !decide (num<p.2)
    rw[decide_eq_false k];rfl
  ·rw[decide_eq_false e,AAw]
   exact uQ nd.2
noncomputable def hitD(hd:D)(num:Int):D->Bool
 | .tup (x::.int k::_)=>decide (x=hd)&&decide (num<k)
 | _=>false
def cntD:D->D
 | .tup (_::k::_)=>k
 | _=>.non
theorem Fo(hs:List (D×Int)):((wL hs).filter (hitD hd num)).map cntD=(hs.filter λp=>decide (p.1=hd)&&decide (num<p.2)).map λp=>.int p.2:=by
 unfold wL
 rw[List.filter_map,AAi]
 rfl
def VecN(y:D):Prop:=∃hs:List (D×Int),y=.tup (wL hs)/\(∀p∈hs,Hd p.1)/\(hs.map (·.1)).Nodup/\hs.length<=20
def eQ:DSp:=λds M R=>∃(n:Nat) (c:Int) (ps:List (Str×Int)) (r:List D) (t:Int) (hd:D) (num:Int) (act:D),ds=[.ref n,.tup (.tup (ps.map aw)::r),.tup [.int t,hd,.int num,act]]/\M[n]?=some (ah c)/\Few ps/\(au ps).Nodup/\Hd hd/\∀B:Mem,WM M n B->R (.bl true) B
theorem sP:bY eQ ko:=by rintro ds M R ⟨n,c,ps,r,t,hd,num,act,rfl,_⟩;rfl
theorem lst_wm(w:WM M n B)(hq:q≠n)(l:al M q xs):al B q xs:=by
 obtain⟨c,L,rfl⟩:=w
 exact(bb hq l).more L
def jm:DTS:=aF (dC (.bl true))
def cU:DTS:=dIf (dF (ak (dCB gQ (aa (dCB cD (aa (ab 2) (aa (ab 4) ac))) (aa (ab 5) ac))))) (aF (dC (.bl false))) aA
def jo:DTS:=aC (tN (bK (dB (aa (dE ac) (aa (dCB cP (aa (ab 0) (aa (ab 1) ac))) (aa (dCB lF (aa (ab 0) (aa (ab 1) (aa (ab 2) ac)))) (aa (dCB lF (aa (ab 0) (aa (ab 1) (aa (ab 2) ac)))) ac)))))) (ar 4) (aC (bT (dOp qNe (dLC 2 [2] (bK (ab 4)) (eY 2 (aR (ar 0) (aR (ar 1) eZ))) (zS (ak (dOp qEq (ab 0) (dOp qIx (ab 2) (dC (.int 1))))) (ak (dOp qGt (ab 1) (dOp qIx (ab 2) (dC (.int 2)))))) (ab 1)) (dB ac)) 5) (cU))) (jm)
def jp:DTS:=aC (dIf (dOr (dF (ak (dCB eK (aa (ab 3) (aa (dC (.ty "tuple")) ac))))) (dOr (ak (dOp qNe (ab 3) (dE (aa (dOp qIx (ab 2) (dC (.int 0))) (aa (dOp qIx (ab 2) (dC (.int 1))) ac))))) (ak (dCB eK (aa (dOp qIx (ab 3) (dC (.int 0))) (aa (dC (.ty "bool")) ac)))))) (aF (dC (.bl false))) aA) (jo)
def pz:DTS:=aC (bT (dCB du (aa (ab 2) ac)) 3) (jp)
theorem Ep(hy:VecN y)(hh:Hd hd)(hE:∀(a:Option D) (L:Mem),E.nx [y0,y1,some (.tup [.int t,hd,.int num,act]),y3,some y,a] (B++L)) :
  (aC (bT (dOp qNe (dLC 2 [2] (bK (ab 4)) (eY 2 (aR (ar 0) (aR (ar 1) eZ))) (zS (ak (dOp qEq (ab 0) (dOp qIx (ab 2) (dC (.int 1))))) (ak (dOp qGt (ab 1) (dOp qIx (ab 2) (dC (.int 2)))))) (ab 1)) (dB ac)) 5) (cU)) E [y0,y1,some (.tup [.int t,hd,.int num,act]),y3,some y,y5] B:=by
 obtain⟨hs,rfl,hv,nd,hl⟩:=hy
 walk_at "dl"
 intro hz
 refine bO (hitD hd num) cntD (λS=>∃a b,S=[a,b,some (.tup [.int t,hd,.int num,act])]) trivial _ _ _ ?_ ⟨_,_,rfl⟩ (by simpa using hz) ?_
 ·rintro y hy S ⟨a,b,rfl⟩
  obtain⟨p,hp,rfl⟩:=AAN.mp hy
  refine⟨[some p.1,some (.int p.2),some (.tup [.int t,hd,.int num,act])],⟨_,_,rfl⟩,λY Z hYZ=>?_⟩
  have hp1:=hv p hp
  walk_at "dl"
  refine⟨trivial,⟨BT hp1,BT hh⟩,?_⟩
  have e1:hitD hd num (.tup [p.1,.int p.2])=(decide (p.1=hd)&&decide (num<p.2)):=rfl
  rw[e1]at hYZ
  cases hb:eqD B eqN p.1 hd with
  | true =>
   rw[decide_eq_true ((zx (n:=29) hp1 hh).mp hb),AAx]at hYZ
   exact aI hYZ
  | false =>
   have e:p.1≠hd:=λz=>by
    have:=(zx (M:=B) (n:=29) hp1 hh).mpr z
    rw[show eqD B (29+1) p.1 hd=eqD B eqN p.1 hd from rfl,hb]at this
    cases this
   rw[decide_eq_false e,AAw]at hYZ
   exact ba hYZ
 ·rw[AAr,Fo]
  have ek:=uQ (hd:=hd) (num:=num) nd
  generalize (hs.filter λp=>decide (p.1=hd)&&decide (num<p.2))=fs at ek ⊢
  obtain⟨okk,enil⟩:=ja (M:=B++[MO.lst (fs.map λp=>.int p.2)]) (n:=B.length) (xs:=fs.map λp=>.int p.2) af λx hx=>by
   obtain⟨p,_,rfl⟩:=AAN.mp hx
   exact ae
  refine⟨AAT _,okk,?_⟩
  rw[enil]
  simp only[cU]
  walk_at "dl"
  refine⟨.int t,hd,num,[act],hs,rfl,hh,hv,by lia,dG hs hd num,_,rfl,?_⟩
  have e2:(dG hs hd num == !(fs.map λp=>D.int p.2).isEmpty)=true:=by
   rw[List.isEmpty_map,ek,Bool.not_not,beq_self_eq_true]
  first | rw[e2] | simp only[e2]
  walk_at "ifs"
  rw[ABS]
  exact hE _ _
theorem Er(hh:Hd hd)(hL:al C q L)(hv:∀y∈L,VecN y)(wm:WM M n C)(hE:∀S' M',WM M n M'->E.nx S' M') :
  lQ (λM=>al M q L) (ar 4) (aC (bT (dOp qNe (dLC 2 [2] (bK (ab 4)) (eY 2 (aR (ar 0) (aR (ar 1) eZ))) (zS (ak (dOp qEq (ab 0) (dOp qIx (ab 2) (dC (.int 1))))) (ak (dOp qGt (ab 1) (dOp qIx (ab 2) (dC (.int 2)))))) (ab 1)) (dB ac)) 5) (cU)) E C0 L [y0,y1,some (.tup [.int t,hd,.int num,act]),y3,y4,y5] C:=by
 refine cy (λi S M'=>al M' q L/\WM M n M'/\∃a b,S=[y0,y1,some (.tup [.int t,hd,.int num,act]),y3,a,b]) ?_ ?_ ⟨hL,wm,_,_,rfl⟩
 ·rintro S M' ⟨l,w,_⟩
  exact⟨l,hE S M' w⟩
 ·rintro i y S M' hy ⟨l,w,a,b,rfl⟩ G hG
  refine⟨l,?_⟩
  simp only[ar,ADf,List.set_cons_succ]
  exact Ep (hv y (AAu hy)) hh λa K=>Fgt.now (hG _ _ ⟨l.more K,w.app K,_,_,rfl⟩)
theorem vp:WpT eQ 6 pz:=by
 rintro ds M R ⟨n,c,ps,r,t,hd,num,act,rfl,hn,few,hnd,hh,h⟩
 have hl:=ci few.2
 have f4:=few.1
 have pl:Pln 2 (.tup [.int t,hd]):=.tup (.cons (.int _) (.cons (Fp hh) .nil))
 simp only[pz]
 walk_at "dl"
 refine⟨_,_,_,rfl,?_⟩
 simp only[jp]
 walk_at "dl"
 refine⟨by decide,?_⟩
 rw[show eM "tuple" "tuple" = true from rfl]
 walk_at "ifs"
 refine⟨am (by lia),⟨(ya 2 eqN _ (by decide) pl).1,(ya 2 eqN _ (by decide) pl).1⟩,?_⟩
 rw[(ya 2 eqN _ (by decide) pl).2]
 walk_at "ifs"
 refine⟨by decide,?_⟩
 show (if eM "int" "bool" = true then _ else _)
 rw[show eM "int" "bool" = false from rfl]
 walk_at "ifs"
 simp only[jo]
 walk_at "dl"
 refine⟨AAT _,n,c,ps,r,rfl,hn,few,λvs B1 vok wm1=>?_⟩
 obtain⟨hs,rfl,hsub,hpos⟩:=vok
 have hsl:=hsub.length_le
 rw[AA6]at hsl
 obtain⟨c1,hc1⟩:=wm1.get hn
 refine⟨n,c1,ps,r,.int t,hd,num,[act],rfl,hc1,few,hh,λh2 B2 p2 n2 l2 w2=>?_⟩
 have wm2:=wm1.trans hn w2
 obtain⟨c2,hc2⟩:=wm2.get hn
 refine⟨n,c2,ps,r,.int t,hd,num,[act],rfl,hc2,few,hh,λh3 B3 p3 n3 l3 w3=>?_⟩
 have wm3:=wm2.trans hn w3
 refine⟨am (by lia),_,af,λ_=>?_⟩
 refine Er hh af (λy hy=>?_) (wm3.app _) λS' M' w=>?_
 ·simp only[AAH,AAf,or_false]at hy
  rcases hy with rfl | rfl | rfl | rfl
  ·exact⟨[],rfl,(λ_ z=>nomatch z),ACs,by simp⟩
  ·exact⟨hs,rfl,λp hp=>qR (hsub.subset (AAN.mpr ⟨p,hp,rfl⟩)),List.Nodup.sublist hsub hnd,by lia⟩
  ·exact⟨h2,rfl,p2,n2,l2⟩
  ·exact⟨h3,rfl,p3,n3,l3⟩
 ·simp only[jm]
  walk_at "dl"
  exact .inl (h _ w)
theorem vW(T:Tops P w K mg base):Cal P w K mg base 4 "_law_of_deed" ko eQ :=
 Cal.byD (N:=["_law_well_here","_law_house_here","_law_deed","_law_found","_law_vector_here","_law_due"]) T.b T.f_of_deed (by walk_at "sc") sP (by have:=sH T;have:=qu T;have:=kH T;have:=uI T;have:=Eo T;walk_at "dv") vp
theorem EC:∀ds M R,EG ds M R->ds.length=["_law_script"].length:=by rintro ds M R ⟨ns,mo,_,_,rfl,_⟩;rfl
theorem WM.lst(w:WM M n B)(hq:q≠n)(l:al M q xs):al B q xs:=by
 obtain⟨c,L,rfl⟩:=w
 exact(bb hq l).more L
def Aj(M:Mem)(q:Nat)(ys:List D):Prop:=∀y∈ys,∃(w:Nat) (c:Int),y=.ref w/\w≠q/\M[w]?=some (ah c)
theorem Aj.wm(h:Aj M q ys)(hn:M[n]?=some (ah c))(w:WM M n B):Aj B q ys:=λy hy=>by
 obtain⟨v,c',e,ne,g⟩:=h y hy
 by_cases hv:v=n
 ·subst hv
  obtain⟨c2,h2⟩:=w.get hn
  exact⟨v,c2,e,ne,h2⟩
 ·exact⟨v,c',e,ne,w.other hv g⟩
theorem wy(h:1<=ps.length)(hm:∀p∈ps,1<=p.2/\p.2<=3):1<=(au ps).length:=by
 cases ps with
 | nil=>simp at h
 | cons p ps =>
  have:=(hm p (by simp)).1
  rw[au,List.flatMap_cons,AA8,fM]
  lia
theorem FK(h:nZ M ps rs d=true):∃(t:Int) (hd:D) (num:Int) (act:D),d=.tup [.int t,hd,.int num,act]/\Hd hd:=by
 rcases tI d with⟨a,b,c,e,rfl⟩|⟨_,e2⟩
 ·simp only[nZ,bL,AAC]at h
  obtain⟨⟨h1,h2⟩,h3,_⟩:=h
  cases a with
  | int t =>
   cases c with
   | int num=>exact⟨t,b,num,e,rfl,nS h2⟩
   | _=>cases h3
  | _=>cases h1
 ·rw[je e2]at h
  cases h
theorem uU:∀{ps:List (Str×Int)},(ps.map (·.1)).Nodup->(au ps).Nodup
 | [],_=>ACs
 | p::ps,nd=>by
  rw[AAM,AB6]at nd
  show (cu p++au ps).Nodup
  refine List.nodup_append.mpr ⟨?_,uU nd.2,λa ha b hb e=>?_⟩
  ·unfold cu oz
   rw[AAi]
   refine List.Pairwise.map _ (λa b hab z=>hab ?_) AE3
   simp only[Function.comp,D.tup.injEq,AED,D.int.injEq,true_and,and_true]at z
   lia
  ·subst e
   obtain⟨k,_,rfl⟩:=AAN.mp ha
   obtain⟨q,hq,hb⟩:=List.mem_flatMap.mp hb
   obtain⟨l,_,z⟩:=AAN.mp hb
   injection z with z
   injection z with z _
   injection z with z
   exact nd.1 (z ▸ ACo hq)
def xo:DTS:=aF (dC (.bl true))
def xp:DTS:=dIf (zS (ak (dCB bW (aa (ab 1) (aa (ab 3) ac)))) (dF (ak (dCB eQ (aa (ab 2) (aa (ab 1) (aa (ab 3) ac))))))) (aF (dC (.bl false))) aA
def mZ:DTS:=aC (dIf (dF (ak (dCB gQ (aa (dCB eW (aa (ab 1) (aa (ab 3) ac))) (aa (dCB bW (aa (ab 1) (aa (ab 3) ac))) ac))))) (aF (dC (.bl false))) aA) (xp)
def xq:DTS:=aC (tN (bK (dOp aJ (dCB jf (aa (ab 0) (aa (dC (.int 1)) (aa (dC (.int 30)) ac)))) (dB (aa (dB (aa (dC (.int 0)) ac)) (aa (dB (aa (dC (.int 1)) ac)) (aa (dB (aa (dC (.int 2)) ac)) ac)))))) (ar 2) (aC (bT (dCB eX (aa (ab 2) (aa (ab 1) ac))) 3) (mZ))) (xo)
def GB:DTS:=aC (bT (dCB jg (aa (dCB oq (aa (dCB cS (aa (ab 0) (aa (dC (.int 0)) ac))) (aa (dC (.int 1)) ac))) ac)) 1) (xq)
theorem By{B:Mem}{E:DEnds}{p:Str×Int}{ps:List (Str×Int)}{rs:List (Str×List Str)}{r:List D}{w:Nat}{c:Int}{y0 y3:Option D}(hw:B[w]?=some (ah c))(few:Few (p::ps))(h1:1<=(au (p::ps)).length)(h8:∀q∈p::ps,q.1.length<=8)(r8:∀q∈rs,q.1.length<=8)(r1:1<=rs.length)(r4:rs.length<=4)(nd:((p::ps).map (·.1)).Nodup)
  (hE:∀d C,WM B w C->E.nx [y0,some (.tup (.tup ((p::ps).map aw)::.tup (rs.map bh)::r)),some (.ref w),some d] C) :
  (aC (bT (dCB eX (aa (ab 2) (aa (ab 1) ac))) 3) (mZ)) E [y0,some (.tup (.tup ((p::ps).map aw)::.tup (rs.map bh)::r)),some (.ref w),y3] B:=by
 walk_at "dl"
 refine⟨w,c,p,ps,rs,r,rfl,hw,few,h1,h8,r8,r1,r4,λd C wm g=>?_⟩
 simp only[mZ]
 walk_at "dl"
 refine⟨6,p::ps,rs,r,d,rfl,g,6,p::ps,rs,r,d,rfl,nd,g,_,_,rfl,?_⟩
 rw[beq_self_eq_true]
 walk_at "ifs"
 simp only[xp]
 walk_at "dl"
 refine⟨6,p::ps,rs,r,d,rfl,nd,g,?_⟩
 cases e:nZ C (p::ps) rs d with
 | false =>
  walk_at "ifs"
  exact hE d C wm
 | true =>
  walk_at "ifs"
  obtain⟨t,hd,num,act,rfl,hh⟩:=FK e
  obtain⟨c2,hc2⟩:=wm.get hw
  refine⟨w,c2,p::ps,_,t,hd,num,act,rfl,hc2,few,uU nd,hh,λC2 w2=>?_⟩
  walk_at "ifs"
  exact hE _ C2 (wm.trans hw w2)
theorem Bz{C0 C:Mem}{E:DEnds}{p:Str×Int}{ps:List (Str×Int)}{rs:List (Str×List Str)}{r L:List D}{q:Nat}{y0 y2 y3:Option D}(few:Few (p::ps))(h1:1<=(au (p::ps)).length)(h8:∀q∈p::ps,q.1.length<=8)(r8:∀q∈rs,q.1.length<=8)(r1:1<=rs.length)(r4:rs.length<=4)(nd:((p::ps).map (·.1)).Nodup)(hL:al C q L)(hW:Aj C q L)
  (hE:∀S' M',(∃a b,S'=[y0,some (.tup (.tup ((p::ps).map aw)::.tup (rs.map bh)::r)),a,b])->E.nx S' M') :
  lQ (λM=>al M q L) (ar 2) (aC (bT (dCB eX (aa (ab 2) (aa (ab 1) ac))) 3) (mZ)) E C0 L [y0,some (.tup (.tup ((p::ps).map aw)::.tup (rs.map bh)::r)),y2,y3] C:=by
 refine cy (λi S M'=>al M' q L/\Aj M' q L/\∃a b,S=[y0,some (.tup (.tup ((p::ps).map aw)::.tup (rs.map bh)::r)),a,b]) ?_ ?_ ⟨hL,hW,_,_,rfl⟩
 ·rintro S M' ⟨l,_,hS⟩
  exact⟨l,hE S M' hS⟩
 ·rintro i y S M' hy ⟨l,ws,a,b,rfl⟩ G hG
  obtain⟨w,c,rfl,wq,hw⟩:=ws y (AAu hy)
  refine⟨l,?_⟩
  simp only[ar,ADf,List.set_cons_succ]
  exact By hw few h1 h8 r8 r1 r4 nd λd C wm=>Fgt.now (hG _ _ ⟨wm.lst (AAz wq) l,ws.wm hw wm,_,_,rfl⟩)
theorem Gu:∀ds M R,EG ds M R->GB (EE M R) (bC ["_law_script","_law_house_here","_law_well_here","_law_thing_here"] ds) M:=by
 rintro ds M R ⟨ns,mo,h63,⟨hmo,hml⟩,rfl,rfl,h⟩
 have hL0:∀L:Mem,al ([mo]++L) 0 (ns.map D.int):=λL=>by
  have:=kM (M:=[mo]++L) (n:=0) (mo:=mo) rfl hml
  rw[hmo]at this
  exact this
 simp only[GB]
 walk_at "dl"
 refine⟨0,ns,0,rfl,hL0 [],_,1,rfl,by decide,by decide,λi=>?_⟩
 refine⟨1,i,rfl,rfl,λps rs B hw wm=>?_⟩
 obtain⟨p,ps,rfl⟩:∃p qs,ps=p::qs:=by
  cases ps with
  | nil=>exact absurd hw.len.1 (by decide)
  | cons p qs=>exact⟨p,qs,rfl⟩
 simp only[xq]
 walk_at "dl"
 refine⟨0,ns,1,30,rfl,wm.lst (by decide) (hL0 [ah i]),by lia,by decide,by decide,λws C pC w100 hws=>?_⟩
 refine⟨am (by lia),am (by lia),am (by lia),am (by lia),?_⟩
 refine⟨ws.map .ref,_,aH (aH (aH (aH aO))),aO,?_,_,af,λ_=>?_⟩
 ·rw[AA6]
  exact am (by simp only[AAA,AAW];lia)
 refine Bz (r:=[]) ⟨hw.len.2,λp hp=>⟨by have:=hw.many p hp;lia,(hw.many p hp).2⟩⟩ (wy hw.len.1 hw.many) (λp hp=>(hw.nm p hp).2.1) (λp hp=>(hw.rn p hp).2.1) hw.rl.1 hw.rl.2 hw.nd af (λy hy=>?_) λS' M' hS=>?_
 ·rcases AAl.mp hy with hy | hy
  ·obtain⟨w,hm,rfl⟩:=AAN.mp hy
   obtain⟨_,c,hc⟩:=hws w hm
   refine⟨w,c,rfl,?_,aH (aH (aH (aH (aH (aH hc)))))⟩
   have:=(AA2.mp hc).1
   simp only[AA8,AAX]
   lia
  ·simp only[AAH,AAf,or_false]at hy
   rcases hy with rfl | rfl | rfl
   ·exact⟨_,0,rfl,by simp only[AA8,AAX];lia,aH (aH (aH (aH aO)))⟩
   ·exact⟨_,1,rfl,by simp only[AA8,AAX];lia,aH (aH (aH aO))⟩
   ·exact⟨_,2,rfl,by simp only[AA8,AAX];lia,aH (aH aO)⟩
 ·obtain⟨a,b,rfl⟩:=hS
  simp only[xo]
  walk_at "dl"
  exact .inl (h _)
theorem ok_law(T:Tops P w K mg base)(F:Fun K "law" "law" (top 63) f fd):FnOk P w K mg base CX0 13 f fd Hu (spL K EG) :=
 BZ (N:=["_law_script","_law_house_here","_law_well_here","_law_thing_here"]) T.b F (by walk_at "sc") EC (by have:=wc T;have:=mE T;have:=En T;have:=Bf T;have:=Bg T;have:=qt T;have:=uI T;have:=Bh T;have:=vW T;walk_at "dv") Gu
end
end LW
namespace PySem.W.Fast
def tw16386143267800995506:=0
def tw550393700781019:=0
def tw7427526160885513671:=0
def tw16535631655189577206:=0
def tw16017696839159032554:=0
def tw3531197037350859461:=0
def tw11981099986603073184:=0
def tw2273578520006769868:=0
def tw14393121616085716182:=0
def tw2232231071667238982:=0
def tw15325024074569823052:=0
def tw3077841145668236630:=0
def tw14643872162115297266:=0
def tw11465864988393653863:=0
def tw7779040236515140338:=0
def tw10740269920175563837:=0
def tw13164553115669863823:=0
def tw2634379440149259413:=0
def tw4862412998295806852:=0
def tw4097009594441915467:=0
def tw2331937123158422351:=0
def tw5316205748238803982:=0
def tw14092346728540563359:=0
def tw8696583517264786452:=0
def tw9779602462790796073:=0
def tw9420993812870452334:=0
def tw12016035989785224715:=0
def tw2458670391229233746:=0
def tw3049824278893906153:=0
def tw8224616867701175096:=0
def tw12052230908123857217:=0
def tw12216924355752788823:=0
def tw13852571471726368192:=0
def tw488144718506385061:=0
def tw16628595383195161753:=0
def tw5061711475402035942:=0
def tw14420565749585705555:=0
def tw14360548306468130681:=0
def tw10341702227257325382:=0
def tw4125985234542162608:=0
def tw7840438983037978524:=0
def tw2263529599959821318:=0
def tw16755786493026853647:=0
def tw15746027681201464285:=0
def tw17428953208055923428:=0
def tw13102347154291853586:=0
def tw7211384896835946776:=0
def tw4712836242385723542:=0
def tw13995812821448156537:=0
def tw11293698741164018553:=0
def tw471643377921083314:=0
def tw14706430896856036942:=0
def tw11804112163685077103:=0
def tw13894402631320298538:=0
def tw849593171196951199:=0
def tw8546698675454272759:=0
def tw6393217450520215159:=0
def tw4789537342727303021:=0
def tw13530140361418133720:=0
def tw4601770850674874517:=0
def tw8621738031920140824:=0
def tw10626597036846542436:=0
def tw16862838806580508421:=0
def tw14984050024804955290:=0
def tw15531581418958914745:=0
def tw12151710738345342959:=0
def tw7121367750061028120:=0
def tw5531268801109078412:=0
def tw5491328120022128167:=0
def tw15290565811342957025:=0
def tw3302746783871437709:=0
def tw11571517887169273701:=0
def tw11736252368379724952:=0
def tw5386936784170106151:=0
def tw16622073728777424555:=0
def tw11312309067613063559:=0
def tw1173970928522433861:=0
def tw8460102912941250130:=0
def tw16186527552155738791:=0
def tw10590429587244600160:=0
def tw12718818225064000562:=0
def tw9214441865159072322:=0
def tw3195973133081611863:=0
def tw2224716409565058335:=0
def tw6426468053397670646:=0
def tw4626782221964340803:=0
def tw14550482566794500740:=0
def tw3754430945530018271:=0
def tw12868486590904669326:=0
def tw5830987418261340590:=0
def tw16226636861063324205:=0
def tw3246138588124040861:=0
def tw3749904313447522630:=0
def tw15633232322649750060:=0
def tw7450188081131817469:=0
def tw9211316625696505917:=0
def tw17497297937354420663:=0
def tw17599927939454930315:=0
def tw17231500759719990023:=0
def tw11048951752066985988:=0
def tw360430275671521782:=0
def tw3272671057531872678:=0
def tw5094629243338884174:=0
def tw399895170445949171:=0
def tw17211827804570030773:=0
def tw3613921350040360819:=0
def tw12795907448237798213:=0
def tw16116345836471336928:=0
def tw10490696438693451871:=0
def tw10362556913735690721:=0
def tw8508913234257055206:=0
def tw922323689803612120:=0
def tw10230130545742767944:=0
def tw11661287436540910703:=0
def tw42054008567333077:=0
def tw17798809044335065626:=0
def tw16944244863125356082:=0
def tw6095853858846468606:=0
def tw3043943284907922792:=0
def tw16681430474302020464:=0
def tw5879496559788990832:=0
def tw7180202981214181510:=0
def tw17742380379439921441:=0
def tw2678255916109673913:=0
def tw17000526319779413417:=0
def tw14613734990898068566:=0
def tw8130423646921188557:=0
def tw1135141588827004585:=0
def tw11584980948978243506:=0
def tw2917025730177807192:=0
def tw480410379607191258:=0
def tw16289591665065722127:=0
def tw17778773776300996796:=0
def tw9693424324293656752:=0
def tw4408843143790238068:=0
def tw11241480465765671547:=0
def tw6428703506403822536:=0
def tw10133972413894895378:=0
def tw10128530936801183818:=0
def tw17316578391271130918:=0
def tw16935144044246504370:=0
def tw14513767803245543730:=0
def tw9485979184432564959:=0
def tw16818127756331005951:=0
def tw5620659304086093819:=0
def tw6193253774126682109:=0
def tw15800411992824623544:=0
def tw10402326559710347287:=0
def tw13537298398809018001:=0
def tw8792937533835778587:=0
def tw15305470051557615320:=0
def tw8369048650301983673:=0
def tw17875489981038694173:=0
def tw9888016310399834918:=0
def tw11395773108362760131:=0
def tw7827784491918167541:=0
def tw16205642627397022064:=0
def tw1178729436164761529:=0
def tw2201061826123783380:=0
def tw12296341933503503271:=0
def tw4628480737795061336:=0
def tw1888803109427616664:=0
def tw7564528485296716734:=0
def tw11147799576298406717:=0
def tw13930052768914463396:=0
def tw14736975502306627171:=0
def tw16173205747284464094:=0
def tw3513490586727004327:=0
def tw944167552473128321:=0
def tw9913670918299313053:=0
def tw13077039064506828318:=0
def tw172786237889828184:=0
end PySem.W.Fast
local macro_rules | `(tactic| walk_at "f1")=>`(tactic| (refine' L2.fnat_mk (by assumption) (by assumption) ?a ?l ?c ?k (λ_ _ _ _ _ _ us hl=>match us,hl with | [_],_=>rfl);(case a=>k_is);(case l=>k_is);(case c=>k_is);(case k=>k_is)))
local macro_rules | `(tactic| walk_at "f2")=>`(tactic| (refine' L2.fnat_mk (by assumption) (by assumption) ?a ?l ?c ?k (λ_ _ _ _ _ _ us hl=>match us,hl with | [_,_],_=>rfl);(case a=>k_is);(case l=>k_is);(case c=>k_is);(case k=>k_is)))
local macro_rules | `(tactic| walk_at "f3")=>`(tactic| (refine' L2.fnat_mk (by assumption) (by assumption) ?a ?l ?c ?k (λ_ _ _ _ _ _ us hl=>match us,hl with | [_,_,_],_=>rfl);(case a=>k_is);(case l=>k_is);(case c=>k_is);(case k=>k_is)))
local macro_rules | `(tactic| walk_at "f4")=>`(tactic| (refine' L2.fnat_mk (by assumption) (by assumption) ?a ?l ?c ?k (λ_ _ _ _ _ _ us hl=>match us,hl with | [_,_,_,_],_=>rfl);(case a=>k_is);(case l=>k_is);(case c=>k_is);(case k=>k_is)))
local macro_rules | `(tactic| walk_at "f5")=>`(tactic| (refine' L2.fnat_mk (by assumption) (by assumption) ?a ?l ?c ?k (λ_ _ _ _ _ _ us hl=>match us,hl with | [_,_,_,_,_],_=>rfl);(case a=>k_is);(case l=>k_is);(case c=>k_is);(case k=>k_is)))
open PySem PySem.W PyProof.Rows
set_option maxRecDepth 100000 in
set_option maxHeartbeats 0 in
theorem PySem.Challenge.cw_talkmarks_k12_deeds_holds : PySem.Challenge.rw_talkmarks_k12_deeds.Holds := by
 w_on; o_law; k_head; (case hw=>w_witness2)
 k_fill
 refine L2.law_walk (l:=PySem.Challenge.rw_talkmarks_k12_deeds) (k:=13) (st:=LW.top 63) (x:="_law_script") rfl rfl rfl ⟨rfl,by decide,by decide⟩ (fun w h Y=>PySem.W.kIn_of Y) ?F (fun _ _ _ _ _ _ _=>rfl)
 case F =>
  intro w mg h KX G
  have T:∀ P base,LW.Tops P w (L2.KOf KX) mg base:=by
   intro P base
   dsimp only [L2.KOf]
   constructor
   ·walk_at "f1"
   ·walk_at "f2"
   ·walk_at "f2"
   ·walk_at "f1"
   ·walk_at "f1"
   ·walk_at "f1"
   ·walk_at "f1"
   ·walk_at "f1"
   ·walk_at "f1"
   ·walk_at "f2"
   ·walk_at "f2"
   ·walk_at "f2"
   ·walk_at "f2"
   ·walk_at "f2"
   ·walk_at "f2"
   ·walk_at "f2"
   ·walk_at "f2"
   ·walk_at "f3"
   ·walk_at "f2"
   ·walk_at "f2"
   ·walk_at "f1"
   ·walk_at "f2"
   ·walk_at "f2"
   ·walk_at "f2"
   ·walk_at "f2"
   ·walk_at "f2"
   ·walk_at "f2"
   ·walk_at "f3"
   ·walk_at "f1"
   ·walk_at "f2"
   ·walk_at "f1"
   ·walk_at "f1"
   ·walk_at "f2"
   ·walk_at "f3"
   ·walk_at "f2"
   ·walk_at "f3"
   ·walk_at "f3"
   ·walk_at "f2"
   ·walk_at "f3"
   ·walk_at "f2"
   ·walk_at "f2"
   ·walk_at "f2"
   ·walk_at "f2"
   ·walk_at "f1"
   ·walk_at "f1"
   ·walk_at "f2"
   ·walk_at "f2"
   ·walk_at "f2"
   ·walk_at "f2"
   ·walk_at "f2"
   ·walk_at "f2"
   ·walk_at "f3"
   ·walk_at "f3"
   ·walk_at "f1"
   ·refine' L2.gdict_mk KX G ?a ?s ?l ?e; (case a=>k_is); (case l=>k_is); (case s=>rfl)
    refine' L2.ents_cons ?l ?s ?v ?_; (case l=>k_is); (case s=>exact Nat.le_of_lt (L2.small1000 (by decide))); (case v=>exact .cons ⟨_,rfl⟩ (.cons ⟨_,rfl⟩ (.cons ⟨_,rfl⟩ (.nil))))
    refine' L2.ents_cons ?l ?s ?v ?_; (case l=>k_is); (case s=>exact Nat.le_of_lt (L2.small1000 (by decide))); (case v=>exact .cons ⟨_,rfl⟩ (.cons ⟨_,rfl⟩ (.nil)))
    refine' L2.ents_cons ?l ?s ?v ?_; (case l=>k_is); (case s=>exact Nat.le_of_lt (L2.small1000 (by decide))); (case v=>exact .cons ⟨_,rfl⟩ (.nil))
    refine' L2.ents_cons ?l ?s ?v ?_; (case l=>k_is); (case s=>exact Nat.le_of_lt (L2.small1000 (by decide))); (case v=>exact .cons ⟨_,rfl⟩ (.cons ⟨_,rfl⟩ (.cons ⟨_,rfl⟩ (.nil))))
    refine' L2.ents_cons ?l ?s ?v ?_; (case l=>k_is); (case s=>exact Nat.le_of_lt (L2.small1000 (by decide))); (case v=>exact .cons ⟨_,rfl⟩ (.cons ⟨_,rfl⟩ (.nil)))
    refine' L2.ents_cons ?l ?s ?v ?_; (case l=>k_is); (case s=>exact Nat.le_of_lt (L2.small1000 (by decide))); (case v=>exact .cons ⟨_,rfl⟩ (.nil))
    refine' L2.ents_cons ?l ?s ?v ?_; (case l=>k_is); (case s=>exact Nat.le_of_lt (L2.small1000 (by decide))); (case v=>exact .cons ⟨_,rfl⟩ (.cons ⟨_,rfl⟩ (.nil)))
    refine' L2.ents_cons ?l ?s ?v ?_; (case l=>k_is); (case s=>exact Nat.le_of_lt (L2.small1000 (by decide))); (case v=>exact .cons ⟨_,rfl⟩ (.nil))
    exact True.intro
   ·unfold LW.B_ LW.C_
    iterate 14 (refine' L2.TopB.b ?tq ?_; (case tq=>refine' PySem.W.mg_none_of KX G ?tr; (case tr=>k_is)))
    iterate 4 (refine' L2.TopB.c ?tq ?_; (case tq=>refine' L2.glob_mk KX G ?tr ?ts; (case tr=>k_is); (case ts=>exact ⟨_,rfl⟩)))
    exact .nil
  exact ⟨(T PySem.Challenge.pw_talkmarks_k12_deeds {}).f_law,fun base f fd F=>LW.ok_law (T _ base) F⟩
