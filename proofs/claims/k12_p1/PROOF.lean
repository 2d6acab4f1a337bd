import PyProof.Rows.All
import Wide.All
import OpenK.AllK
import Wide.FinOn
import Lean
import PyProof.EqAt
import PyProof.EqKinds
import PyProof.TupleCall
import PyProof.CompFree
import PyProof.NeKinds
import KE.KSortTup
import KE.KRevSl
import KE.KDictSum
import PyProof.AttrMissHeap
import PySem.Challenge.RW_talkmarks_k12_deeds
open PySem renaming wpAny_bind→AA0,wpAny_pure→AA3,Spec→AAM,wpAny_newObj_type→AAj,wpAny_callSpecial?_slot→AAl,wpAny_call_entry→AAm,wpAny_holding→AAp,wpAny_setField_rec→ABA,wpAny_field→ABH,wpAny_setState_of→ABJ,wpAny_seqItems→ABM,codeAny_builtin→ABW,wpAny_ite_split→ABc,mem_of_lookup→ABf,wpAny_mono→ABi,wpAny_truthy_bool→ABj,sizeLine_eq→ABm,eqIsQuiet_byValue→ABt,plainId_quiet→ABv,wpAny_typeNameOfWhole_itemiter→AC1,wpAny_forIn_list→AC4,wpAny_setField→AC9,wpAny_specialOf→ACD,wpAny_rule→ACL,wpAny_isInstance→ACO,wpAny_askSetting→ACP,wpAny_Call_Name_kw→ACR,wpAny_fieldsOf→ACW,wpAny_typeNameOf_itemiter→ACY,wpAny_typeOf→ACg,wpAny_attempt→ACk,wpAny_setEntries_of→ACm,wpAny_callSpecialIfBoundUnlessNone?_slot→ACx,wpAny_pyHash_int→ADL,wpAny_pyHash_str→ADM,codeAny_mono→ADR,wpAny_passesOwn→ADV,wpAny_updateSeq→ADe,wpAny_isOneOf_itemiter→ADj,wpAny_pyIter_list→ADo,atKey_none_of_get→ADt,builtinLookup_eq_fast→AE0,wpAny_notOrdered_dict→AE1,wpAny_newList→AE5,wpAny_loadPart'→AE8
open PySem.Str renaming ofString→AA1
open List renaming getElem?_eq_some_iff→AA2,length_map→AA6,getElem?_eq_getElem→AA7,length_append→AA8,mem_cons_of_mem→AA9,length_cons→AAA,size_toArray→AAB,mem_cons→AAH,mem_cons_self→AAI,getElem?_append_left→AAJ,all_eq_true→AAK,map_cons→AAL,mem_map→AAN,getD_eq_getElem?_getD→AAP,getElem?_map→AAU,length_nil→AAW,length_singleton→AAX,mem_singleton→AAY,mem_append_right→AAc,range→AAe,not_mem_nil→AAf,getElem?_append_right→AAg,length_take→AAh,map_map→AAi,mem_append→AAk,getElem_mem→AAn,mem_range→AAo,nil_append→AAr,getElem?_set_ne→AAt,mem_of_getElem?→AAu,getElem?_of_mem→AAv,cons_lt_cons_iff→AB0,Nodup→AB4,find?_cons→AB7,getElem?_cons_succ→ABB,getElem?_set_self→ABD,all_cons→ABF,nodup_cons→ABG,prefix_append→ABK,zip_cons_cons→ABL,length_set→ABQ,map_append→ABR,append_assoc→ABT,getElem?_eq_none→ABV,lookup_cons→ABY,getElem?_cons_zero→ABa,length_drop→ABd,any_cons→ABe,getElem?_take_of_lt→ABk,take_add_one→ABl,filterMap_cons→ABq,take_length→AC3,cons_append→AC5,replicate_zero→ACF,take_of_length_le→ACH,nodup_iff_pairwise_ne→ACK,getElem_map→ACN,mem_append_left→ACZ,append_nil→ACa,prefix_rfl→ACc,map_nil→ACh,getElem?_replicate→ACi,map_congr_left→ACl,mem_map_of_mem→ACn,length→ACy,length_replicate→ACz,length_range→AD5,mem_of_mem_drop→AD8,mem_of_mem_take→AD9,lt_irrefl→ADE,pairwise_iff_getElem→ADH,nodup_nil→ADJ,all_map→ADU,of_mem_zip→ADX,pairwise_singleton→ADa,getElem?_drop→ADc,set_cons_zero→ADf,drop_eq_nil_of_le→ADi,take_sublist→ADl,pairwise_map→ADs,replicate→ADv,getElem?_toArray→ADy,nodup_range→AE2,prefix_refl→AE4,mem_filter→AE7,forIn_cons→AEA,foldl_cons→AEG,getD→AEP
open PySem.Heap renaming get?_push_of_some→AA4,get?_push_size→AAE,lt_size→AAG,get?_update_self→AAZ,size_push→AB1,get?_update_other→ABE,SameBut→ABO,get?_update_ne→ACj
open PySem.W renaming Frag→AA5,kas_desc→AC2,keepIn→ACU,fnOf→ACf,nsIn→AD0,kas_rev→AD7,kas_place→ADD,kas_asc→ADp,findIn→ADu,kas_descPart→ADz,kas_sort→AEK,codeIn→AEM,methodObj→AEO
open Nat renaming le_refl→AAC,ne_of_lt→AAQ,zero_le→AAT,lt_of_lt_of_le→AAd,lt_irrefl→AAq,lt_succ_self→AB6,le_trans→ABN,ne_of_gt→ABU,not_lt_zero→ABy,sub_self→ABz,lt_or_ge→AC0,lt_succ_of_lt→ACA,lt_trichotomy→ACd,not_lt→AD4,le_add_right→ADN,le_succ→ADn,lt_trans→ADx,le_of_lt→AEJ
open Bool renaming and_eq_true→AAD,false_eq_true→AAF,false_ne_true→AAb,false_and→AAw,true_and→AAx,eq_iff_iff→ABn,eq_false_iff→ABs,not_true→AC8,and_false→ADw,and_true→AE6,or_eq_true→AEB
open Array renaming length_toList→AAO,getElem?_eq_getElem→AAS,getElem?_toList→AAV,getElem?_eq_some_iff→AAy,getD_eq_getD_getElem?→AB8,getElem?_eq_none→ACI,getD→ACM,forIn_toList→ACT,toList_push→ADq
open Option.some renaming inj→AAR
open PySem.SetTable renaming below→AAa,runEnd→AAs,bits→ABw,leap→ACS,Probe→ACX,grown→ACq,turns→ADI,fits→ADd,insertAt→ADr,sizeAbove→AEL,fill→AEV
open Ne renaming symm→AAz
open PySem.Heap.SameBut renaming update→AB2
open PySem.Value renaming ref→AB3,none→ABb,type→ACo,bool→AD1
open Classical renaming byContradiction→AB5
open PySem.Around renaming under_plainId→AB9
open PySem.Builtin.SmallTypes renaming nextOf→ABC,ownedTupleIsFree→ABg,ownedTupleHandOut→ADG
open PyProof.Rows renaming slot_tuple_getitem→ABI,callWith_type1→ACC,get?_update_seq→AEE
open PySem.NameKind renaming free→ABP,cell→AET
open PySem.Builtin.Tuple renaming tupleHashOf→ABS,tupleItemsOf→ACJ,tupleExact→ACb
open PySem.Builtin.Str renaming strSliceIndices→ABX,occurrences→AC7
open PySem.Obj renaming mapSeq→ABZ,data_mapDictKeys→ADA,isFreed_of_dict→ADO,data_mapDict→AE3,putSet→AER
open PySem.F renaming slot_dict_itemiterator_next→ABh,slot_tuple_getattribute→ABu,plain_extend_loop→ABx,args_dict_itemiterator_next_1→ADB,entry_dict_itemiterator_next→ADK,args_tuple_add_2→ADS,entry_tuple_add→ADY,slot_tuple_add→ADh
open PySem.Txt renaming slice→ABo
open Option renaming map_eq_some_iff→ABp,join_some→ACQ
open Int renaming toNat_natCast→ABr,toNat→ACG,emod_lt_of_pos→ACv,emod_nonneg→ADb
open Sum renaming inr→AC6
open PySem.SetTable.below renaming go→ACB
open PySem.Builtin.List renaming listExtendWith→ACE,listSameRef→ACe,listTooLong→ADT,listLengthHint→AEF
open PySem.Builtin.Slice renaming slicePlaces→ACV,sliceAdjust→ADC,sliceApplied→AEI
open PySem.SeqAt renaming EqAt→ACp
open PySem.SetTable.layClean renaming free→ACr
open PySem.SeqAt.EqAt renaming int_str→ACs,str_int→ACt,int_int→ACu,str_str→ADZ,same→AEC
open PySem.Builtin.Dict_items renaming ownsTuple→ACw,ownedTupleFields→ADP,ownedTupleIsFree→ADQ,pairFromOwner→ADg
open False renaming elim→AD2
open True renaming intro→AD3
open PySem.Shared renaming TypeIs→AD6
open List.Perm renaming refl→ADF,cons→AEN
open PySem.Calls renaming spliced_cons→ADW,spliced_nil→ADk
open List.Pairwise renaming nil→ADm
open ForInStep renaming yield→AE9
open List.cons renaming injEq→AED,inj→AEU
open PySem.Expr renaming Call→AEH
open PySem.SetTable.probe renaming go→AEQ
open PySem.Paired renaming length→AES
open Lean Parser Command in
macro "¶" n:declId s:declSig v:declVal : command => `(theorem $n $s $v)
macro "~" t:term : tactic => `(tactic| exact $t)
macro "!" t:term : tactic => `(tactic| refine $t)
open Lean Parser Tactic in
macro "#" p:rcasesPatMed ":=" t:term : tactic => `(tactic| obtain $p:rcasesPatMed := $t)
macro "¤" : term => `(by omega)
macro "&" : tactic => `(tactic| omega)
set_option Elab.async false
set_option linter.all false
set_option maxRecDepth 100000
-- CHANGE: your row's module here,as the last of these rows
namespace L2
open PySem PySem.Spec PyProof.Rows
abbrev Key:=Sum Int Str
def yj:Key->Value->Bool
 | .inl k,v=>Value.isInt k v
 | .inr x,v=>Value.isStrOf x v
def keyH(w:World):Key->Int
 | .inl k=>hashInt k
 | .inr x=>hashStr w x
¶bz:∀{k:Key}{v:Value},yj k v=true->(∃i t,k=Sum.inl i/\v=Value.int i t)\/(∃x t,k=AC6 x/\v=Value.str x t)
 | .inl i,v,h=>by
  #⟨t,e⟩:=Value.isInt_shape (k:=i) (v:=v) h
  ~.inl ⟨i,t,rfl,e⟩
 | .inr x,v,h=>by
  #⟨t,e⟩:=Value.isStrOf_shape (x:=x) (v:=v) h
  ~.inr ⟨x,t,rfl,e⟩
¶Em(i:Int)(t:Tok):yj (.inl i) (.int i t)=true:=by simp[yj,Value.isInt]
¶El(x:Str)(t:Tok):yj (.inr x) (.str x t)=true:=by simp[yj,Value.isStrOf]
¶Nl(a b:Int):decide ((Sum.inl a:Key)=Sum.inl b)=(a==b):=by
 by_cases e:a=b
 ·subst e;simp
 ·have h:¬(Sum.inl a:Key)=Sum.inl b:=λq=>e (Sum.inl.inj q)
  rw[decide_eq_false h]
  ~(beq_eq_false_iff_ne.mpr e).symm
¶Iw(a b:Str):decide ((AC6 a:Key)=AC6 b)=decide (a=b):=by
 by_cases e:a=b
 ·subst e;simp
 ·have h:¬(AC6 a:Key)=AC6 b:=λq=>e (Sum.inr.inj q)
  rw[decide_eq_false h,decide_eq_false e]
¶Nk(a:Int)(b:Str):decide ((Sum.inl a:Key)=AC6 b)=false:=decide_eq_false (λq=>nomatch q)
¶Nj(a:Str)(b:Int):decide ((AC6 a:Key)=Sum.inl b)=false:=decide_eq_false (λq=>nomatch q)
def cj(prog:Program)(w:World):PySem.KeyKind prog w Key where
 is:=yj
 hash:=keyH w
 inj:=λv a b ha hb=>by
  rcases bz ha with⟨i,t,rfl,rfl⟩|⟨x,t,rfl,rfl⟩
  ·rcases bz hb with⟨j,u,rfl,e⟩|⟨y,u,rfl,e⟩
   ·injection e with e1 _;rw[e1]
   ·~nomatch e
  ·rcases bz hb with⟨j,u,rfl,e⟩|⟨y,u,rfl,e⟩
   ·~nomatch e
   ·injection e with e1 _;rw[e1]
 byValue:=λk v h=>by
  rcases bz h with⟨i,t,rfl,rfl⟩|⟨x,t,rfl,rfl⟩<;>rfl
 pyHash:=λhv h=>by
  rcases bz hv with⟨i,t,rfl,rfl⟩|⟨x,t,rfl,rfl⟩
  ·~ADL h
  ·~ADM h
 eqBool:=λhu hv h=>by
  rcases bz hu with⟨i,t,rfl,rfl⟩|⟨x,t,rfl,rfl⟩
  ·rcases bz hv with⟨j,u,rfl,rfl⟩|⟨y,u,rfl,rfl⟩
   ·rw[Nl]at h;~wpAny_eqBool_int h
   ·rw[Nk]at h;~ACs i t y u _ _ _ _ h
  ·rcases bz hv with⟨j,u,rfl,rfl⟩|⟨y,u,rfl,rfl⟩
   ·rw[Nj]at h;~ACt x t j u _ _ _ _ h
   ·rw[Iw]at h;~wpAny_eqBool_str h
 «strs»:=λk x t v h=>by
  rcases bz h with⟨i,u,rfl,e⟩|⟨y,u,rfl,e⟩
  ·~nomatch e
  ·injection e with e1 _
   subst e1
   cases v<;>rfl
¶xU(prog:Program)(w:World)(i:Int)(t:Tok):(cj prog w).is (.inl i) (.int i t)=true:=Em i t
¶xT(prog:Program)(w:World)(x:Str)(t:Tok):(cj prog w).is (.inr x) (.str x t)=true:=El x t
end L2
namespace L2
open PySem PySem.Spec PyProof.Rows
inductive V where
 | non | bl (b:Bool) | int (i:Int) | str (x:Str) | byt (b:Array UInt8) | flt (b:UInt64) | ref (a:Addr) | ty (n:String)
 deriving DecidableEq
def bi:V->Value->Prop
 | .non,u=>u=ABb
 | .bl b,u=>u=AD1 b
 | .int i,u=>∃t,u=Value.int i t
 | .str x,u=>∃t,u=Value.str x t
 | .byt b,u=>∃t,u=Value.bytes b t
 | .flt b,u=>∃t,u=Value.float b t
 | .ref a,u=>u=AB3 a
 | .ty n,u=>u=ACo n
abbrev aL:List V->List Value->Prop:=Paired bi
¶aL.length{xs:List V}{us:List Value}(r:aL xs us):xs.length=us.length:=AES r
¶aL.get:∀{xs:List V}{us:List Value}{i:Nat}{x:V},aL xs us->xs[i]?=some x->∃u,us[i]?=some u/\bi x u
 | _,_,_,_,.nil,e=>by simp at e
 | _,_,0,_,.cons r _,e=>by simp at e;subst e;~⟨_,rfl,r⟩
 | _,_,i+1,x,.cons _ t,e=>by
  #⟨u,h1,h2⟩:=aL.get (i:=i) (x:=x) t (by simpa using e)
  ~⟨u,by simpa using h1,h2⟩
¶aL.set{x:V}{u:Value}(r:bi x u):∀{xs:List V}{us:List Value} (i:Nat),aL xs us->aL (xs.set i x) (us.set i u)
 | _,_,_,.nil=>.nil
 | _,_,0,.cons _ t=>.cons r t
 | _,_,i+1,.cons q t=>.cons q (aL.set r i t)
¶aL.append:∀{xs ys:List V}{us ws:List Value},aL xs us->aL ys ws->aL (xs++ys) (us++ws)
 | _,_,_,_,.nil,s=>s
 | _,_,_,_,.cons r t,s=>.cons r (aL.append t s)
¶aL.take:∀{xs:List V}{us:List Value} (n:Nat),aL xs us->aL (xs.take n) (us.take n)
 | _,_,0,_=>.nil
 | _,_,_+1,.nil=>.nil
 | _,_,n+1,.cons r t=>.cons r (aL.take n t)
¶aL.drop:∀{xs:List V}{us:List Value} (n:Nat),aL xs us->aL (xs.drop n) (us.drop n)
 | _,_,0,r=>r
 | _,_,_+1,.nil=>.nil
 | _,_,n+1,.cons _ t=>aL.drop n t
def Oz:Option V->Option Value->Prop
 | some v,some u=>bi v u
 | none,none=>True
 | _,_=>False
def KV{κ:Type}:List (κ×V)->List (κ×Value)->Prop:=Paired λ(p:κ×V) (q:κ×Value)=>p.1=q.1/\bi p.2 q.2
def kV:Key->V
 | .inl i=>.int i
 | .inr x=>.str x
inductive HO where
 | lst (xs:List V)
 | tup (xs:List V)
 | dK (kvs:List (Key×V)) | dT (kvs:List (List Key×V))
 | set (S:Int->Bool) (n:Nat)
 | ins (C dx:Addr) (fs:List (Str×V))
 | own (x:Addr)
 | xd (fs:List (Str×V))
 | met (f x:Addr)
 | rng (lo hi:Int)
 | frz (o:Obj) (u:HO)
 | tbl (ps:Array Value)
 | ext (φ:Program->World->Heap->Prop)
abbrev Hp:=Addr->Option HO
def upd(H:Hp)(a:Addr)(o:HO):Hp:=λb=>if b=a then some o else H b
¶bB{H:Hp}{a:Addr}{o:HO}:upd H a o a=some o:=by unfold upd;rw[if_pos rfl]
¶aJ{H:Hp}{a b:Addr}{o:HO}(h:b≠a):upd H a o b=H b:=by unfold upd;rw[if_neg h]
¶xR{H:Hp}{a b:Addr}{o u:HO}(h:H a=some o)(h':H b=some u)(d:o≠u):a≠b:=by
 intro e;subst e;rw[h]at h';~d (AAR h')
¶au{H:Hp}{a b:Addr}{o:HO}(h:H a=some o)(h':H b=none):a≠b:=by
 intro e;subst e;rw[h]at h';cases h'
section
variable(P:Program)(w:World)
def Ih(h:Heap)(a:Addr)(items:Array Value):Prop:=∃o,h.get? a=some o/\o.cls=.type "tuple"/\(∃n,o.data=.seq items n)/\o.dict=none
¶Ih.tup{h:Heap}{a:Addr}{items:Array Value}:Ih h a items->IsTup h a items:=λ⟨o,e,c,⟨n,d⟩,_⟩=>⟨o,e,c,n,d⟩
¶Ih.new(h:Heap)(items:Array Value):Ih (h.push { cls:=.type "tuple",data:=.seq items }) h.objs.size items:=⟨_,AAE _ rfl,rfl,⟨_,rfl⟩,rfl⟩
def cL(H:Hp)(h:Heap)(a:Addr):HO->Prop
 | .lst xs=>xs.length<=sizeLine/\∃(its:List Value) (n:Nat),aL xs its/\h.get? a=some { cls:=.type "list",data:=.seq its.toArray n }
 | .tup xs=>xs.length<=sizeLine/\∃its:List Value,aL xs its/\Ih h a its.toArray
 | .dK kvs=>kvs.length<=sizeLine/\(a==sysModules)=false/\∃vs,KV kvs vs/\h.DictOf (cj P w) a vs
 | .dT kvs=>kvs.length<=sizeLine/\(a==sysModules)=false/\∃xs:List (List Key×Addr×Value),
   Paired (λ(p:List Key×V) (q:List Key×Addr×Value)=>p.1=q.1/\H q.2.1=some (.tup (p.1.map kV))/\bi p.2 q.2.2) kvs xs /\
   ∃o es ep,h.get? a=some o/\o.ExactDict/\o.data=.dict es ep/\es.toList=xs.map (entryOfKey (tupleKind (cj P w)))/\(xs.map (·.1)).Nodup
 | .set S n=>h.SetOf (intKind P w) a S n
 | .ins C dx fs=>H dx=some (.own a)/\fs.length<=1000/\dx≠a/\h.get? a=some (PySem.W.instObj C dx) /\
   ∃mA,h.Ns1 dx mA/\(∀f,Oz (fs.lookup f) (mA f))/\PySem.Within mA (fs.map (·.1))
 | .own _=>∃o,h.get? a=some o
 | .xd fs=>∃mA,h.Ns1 a mA/\∀f,Oz (fs.lookup f) (mA f)
 | .rng lo hi=>∃t u v,h.get? a=some { cls:=.type "range",data:=.fields #[.int lo t,.int hi u,.int 1 v] }
 | .frz o u=>h.get? a=some o/\cL H h a u
 | .tbl ps=>h.get? a=some { cls:=.none,data:=.fields ps }
 | .met f x=>h.get? a=some (AEO (.ref f) (.ref x))
 | .ext φ=>φ P w h/\(∃o,h.get? a=some o)/\∀h1 h2:Heap,φ P w h1->(∀o,h1.get? a=some o->h2.get? a=some o)->φ P w h2
def HOk(H:Hp)(h:Heap):Prop:=∀a o,H a=some o->cL P w H h a o
end
section
variable{P:Program}{w:World}{H H':Hp}{h h':Heap}{a:Addr}{o:HO}
¶cL.lt(x:cL P w H h a o):a<h.objs.size:=by
 cases o with
 | lst xs=>#⟨_,_,_,_,e⟩:=x;~AAG e
 | tup xs=>#⟨_,_,_,p⟩:=x;~p.tup.lt
 | dK kvs=>#⟨_,_,_,_,o,_,_,e,_⟩:=x;~AAG e
 | dT kvs=>#⟨_,_,_,_,o,_,_,e,_⟩:=x;~AAG e
 | set S n=>#⟨o,_,_,_,e,_⟩:=x;~AAG e
 | ins C dx fs=>#⟨_,_,_,e,_⟩:=x;~AAG e
 | own y=>#⟨_,e⟩:=x;~AAG e
 | xd fs=>#⟨_,⟨_,_,_,e,_⟩,_⟩:=x;~AAG e
 | rng lo hi=>#⟨_,_,_,e⟩:=x;~AAG e
 | frz ob u=>#⟨e,_⟩:=x;~AAG e
 | tbl ps=>~AAG (show h.get? a=some _ from x)
 | met f y=>~AAG (show h.get? a=some _ from x)
 | ext φ=>#⟨_,⟨_,e⟩,_⟩:=x;~AAG e
¶Paired.mapP{α β:Type}{F G:α->β->Prop}:∀{l₁:List α}{l₂:List β},Paired F l₁ l₂->(∀a b,F a b->G a b)->Paired G l₁ l₂
 | _,_,.nil,_=>.nil
 | _,_,.cons r t,f=>.cons (f _ _ r) (Paired.mapP t f)
¶cL.stay(x:cL P w H h a o)(k:∀b u,(b=a\/H b=some (.own a))->h.get? b=some u->h'.get? b=some u)
  (ho:∀b,H b=some (.own a)->H' b=some (.own a)) (ht:∀b xs,H b=some (.tup xs)->H' b=some (.tup xs)):cL P w H' h' a o:=by
 induction o with
 | lst xs=>#⟨z,its,n,r,e⟩:=x;~⟨z,its,n,r,k _ _ (.inl rfl) e⟩
 | tup xs=>#⟨z,its,r,ob,e,c⟩:=x;~⟨z,its,r,ob,k _ _ (.inl rfl) e,c⟩
 | dK kvs=>#⟨z,y,vs,r,ob,es,ep,e,c⟩:=x;~⟨z,y,vs,r,ob,es,ep,k _ _ (.inl rfl) e,c⟩
 | dT kvs =>
  #⟨z,y,xs,r,ob,es,ep,e,c⟩:=x
  ~⟨z,y,xs,Paired.mapP r λp q z=>⟨z.1,ht _ _ z.2.1,z.2.2⟩,ob,es,ep,k _ _ (.inl rfl) e,c⟩
 | set S n=>#⟨ob,es,ep,t,e,c⟩:=x;~⟨ob,es,ep,t,k _ _ (.inl rfl) e,c⟩
 | ins C dx fs =>
  #⟨d,z,ne,e,mA,⟨od,es,ep,e2,c⟩,r⟩:=x
  ~⟨ho _ d,z,ne,k _ _ (.inl rfl) e,mA,⟨od,es,ep,k _ _ (.inr d) e2,c⟩,r⟩
 | own y=>#⟨ob,e⟩:=x;~⟨ob,k _ _ (.inl rfl) e⟩
 | xd fs=>#⟨mA,⟨od,es,ep,e,c⟩,r⟩:=x;~⟨mA,⟨od,es,ep,k _ _ (.inl rfl) e,c⟩,r⟩
 | rng lo hi=>#⟨t,u,v,e⟩:=x;~⟨t,u,v,k _ _ (.inl rfl) e⟩
 | frz ob u ih=>#⟨e,q⟩:=x;~⟨k _ _ (.inl rfl) e,ih q⟩
 | tbl ps =>
  have e:h.get? a=some { cls:=.none,data:=.fields ps }:=x
  show h'.get? a=some { cls:=.none,data:=.fields ps }
  ~k a _ (.inl rfl) e
 | met f y =>
  have e:h.get? a=some (AEO (.ref f) (.ref y)):=x
  show h'.get? a=some (AEO (.ref f) (.ref y))
  ~k a _ (.inl rfl) e
 | ext φ=>#⟨p,⟨o,e⟩,st⟩:=x;~⟨st _ _ p λo q=>k _ _ (.inl rfl) q,⟨o,k _ _ (.inl rfl) e⟩,st⟩
¶HOk.lt(x:HOk P w H h)(e:H a=some o):a<h.objs.size:=(x a o e).lt
¶HOk.fresh(x:HOk P w H h)(e:h.objs.size<=a):H a=none:=by
 cases q:H a with
 | none=>rfl
 | some u=>~absurd (AAd (x.lt q) e) (AAq _)
¶HOk.kept(x:HOk P w H h)(k:∀b u,h.get? b=some u->h'.get? b=some u):HOk P w H h':=λa o e =>
 (x a o e).stay (λb u _ q=>k b u q) (λ_ q=>q) λ_ _ q=>q
¶HOk.laid(x:HOk P w H h)(k:∀b u,h.get? b=some u->h'.get? b=some u)(hp:h.objs.size<=a)(new:cL P w (upd H a o) h' a o):HOk P w (upd H a o) h':=λb u e=>by
 have hn:=x.fresh hp
 by_cases hb:b=a
 ·subst hb;rw[bB]at e;cases e;~new
 ·rw[aJ hb]at e
  ~(x b u e).stay (λc v _ q=>k c v q) (λc q=>by rw[aJ (au q hn)];~q) λc xs q=>by rw[aJ (au q hn)];~q
end
def Rd(H:Hp)(a:Addr)(u:HO):Prop:=H a=some u\/∃o,H a=some (.frz o u)
¶Rd.ok{P:Program}{w:World}{H:Hp}{h:Heap}{a:Addr}{u:HO}(r:Rd H a u)(x:HOk P w H h):cL P w H h a u:=by
 rcases r with r | ⟨o,r⟩
 ·~x a u r
 ·#⟨_,q⟩:=x a _ r
  ~q
def Mut:Option HO->Prop
 | some (.lst _)=>True
 | some (.dK _)=>True
 | some (.dT _)=>True
 | some (.set _ _)=>True
 | some (.ins _ _ _)=>True
 | some (.ext _)=>True
 | _=>False
section
variable{P:Program}{w:World}{H:Hp}{h h':Heap}{x e:Addr}{o':HO}
¶HOk.write(ok:HOk P w H h)(mu:Mut (H x))(he:e=x\/H e=some (.own x))(k:∀b u,b≠e->h.get? b=some u->h'.get? b=some u)(heo:∃u,h'.get? e=some u)
  (new:cL P w (upd H x o') h' x o'):HOk P w (upd H x o') h':=λb u q=>by
 have nown:∀c y,H c=some (.own y)->c≠x:=λc y r z=>by subst z;rw[r]at mu;~mu
 have ntup:∀c xs,H c=some (.tup xs)->c≠x:=λc xs r z=>by subst z;rw[r]at mu;~mu
 by_cases hb:b=x
 ·subst hb;rw[bB]at q;cases q;~new
 ·rw[aJ hb]at q
  by_cases hbe:b=e
  ·have q':H b=some (.own x):=by
    rcases he with z | z
    ·~absurd (hbe.trans z) hb
    ·rw[hbe];~z
   rw[q]at q';cases q'
   #⟨v,hv⟩:=heo
   ~⟨v,by rw[hbe];~hv⟩
  ·!(ok b u q).stay (λc v hc r=>k c v ?_ r) (λc r=>by rw[aJ (nown c b r)];~r) λc xs r=>by rw[aJ (ntup c xs r)];~r
   rcases hc with rfl | hc
   ·~hbe
   ·rintro rfl
    rcases he with z | z
    ·~nown c b hc z
    ·rw[hc]at z;cases z;~hb rfl
end
structure Un(fs ex:List Addr)(H H':Hp)(h h':Heap):Prop where
 keep:∀b o,h.get? b=some o->H b=none->b∉fs->b∉ex->h'.get? b=some o
 slot:∀b o,h.get? b=some o->H b=none->b∈fs->b∉ex->∃sl,h'.get? b=some { o with slots:=sl }
 free:∀b o,h.get? b=some o->H b=none->b∉ex->H' b=none
 there:∀b o,h.get? b=some o->b∉ex->∃o',h'.get? b=some o'
 tups:∀b xs,H b=some (.tup xs)->H' b=some (.tup xs)
 frzs:∀b o u,H b=some (.frz o u)->H' b=some (.frz o u)
 tbls:∀b ps,H b=some (.tbl ps)->∃more,H' b=some (.tbl (ps++more))
section
variable{fs fs' ex ex':List Addr}{H H1 H2:Hp}{h h1 h2 h':Heap}{a x e:Addr}{o:HO}
¶Un.any(u:Un fs ex H H1 h h1){b:Addr}{ob:Obj}(q:h.get? b=some ob)(n:H b=none)(hx:b∉ex):∃sl,h1.get? b=some { ob with slots:=sl }:=by
 by_cases hb:b∈fs
 ·~u.slot b ob q n hb hx
 ·~⟨ob.slots,u.keep b ob q n hb hx⟩
¶Un.kept(k:∀b u,h.get? b=some u->h'.get? b=some u):Un fs ex H H h h' :=
 ⟨λb ob q _ _ _=>k b ob q,λb ob q _ _ _=>⟨ob.slots,k b ob q⟩,λ_ _ _ n _=>n,λb ob q _=>⟨ob,k b ob q⟩,λ_ _ q=>q,λ_ _ _ q=>q,λ_ ps q=>⟨#[],by rw[q];simp⟩⟩
¶Un.refl:Un fs ex H H h h:=Un.kept λ_ _ q=>q
¶Un.laid(k:∀b u,h.get? b=some u->h'.get? b=some u)(hp:h.objs.size<=a)(hn:H a=none):Un fs ex H (upd H a o) h h' where
 keep:=λb u q _ _ _=>k b u q
 slot:=λb u q _ _ _=>⟨u.slots,k b u q⟩
 free:=λb u q n _=>by rw[aJ (AAQ (AAd (AAG q) hp))];~n
 there:=λb u q _=>⟨u,k b u q⟩
 tups:=λb xs q=>by rw[aJ (au q hn)];~q
 frzs:=λb u xs q=>by rw[aJ (au q hn)];~q
 tbls:=λb ps q=>⟨#[],by rw[aJ (au q hn),q];simp⟩
¶Un.write(mu:Mut (H x))(he:e=x\/H e=some (.own x))(k:∀b u,b≠e->h.get? b=some u->h'.get? b=some u)(heo:∃u,h'.get? e=some u):Un fs ex H (upd H x o) h h':=by
 have hx:∀b,H b=none->b≠x:=λb n z=>by subst z;rw[n]at mu;~mu
 have hb:∀b,H b=none->b≠e:=λb n z=>by
  subst z
  rcases he with r | r
  ·~hx b n r
  ·rw[n]at r;cases r
 have hm:∀b u,H b=some u->¬Mut (some u)->b≠x:=λb u q nm z=>by subst z;rw[q]at mu;~nm mu
 !⟨λb u q n _ _=>k b u (hb b n) q,λb u q n _ _=>⟨u.slots,k b u (hb b n) q⟩,λb u q n _=>by rw[aJ (hx b n)];~n,λb u q _=>?_,
  λb xs q=>by rw[aJ (hm b _ q λz=>z)];~q,λb u xs q=>by rw[aJ (hm b _ q λz=>z)];~q,λb ps q=>⟨#[],by rw[aJ (hm b _ q λz=>z),q];simp⟩⟩
 by_cases hbe:b=e
 ·subst hbe;~heo
 ·~⟨u,k b u hbe q⟩
end
def trk(h:Heap)(H:Hp):List Addr:=(AAe h.objs.size).filter λa=>(H a).isSome
def Hl(h:Heap)(H:Hp):Heap:=PySem.W.hideAll h (trk h H)
¶Ez(h:Heap)(H:Hp):(Hl h H).objs.size=h.objs.size:=PySem.W.hideAll_size _ _
¶Hk{h:Heap}{H:Hp}{b:Addr}{o:Obj}(e:h.get? b=some o)(n:H b=none):(Hl h H).get? b=some o :=
 PySem.W.hideAll_get _ e λhm=>by
  have q:(H b).isSome=true:=(AE7.mp hm).2
  rw[n]at q;simp at q
¶JY{h:Heap}{H:Hp}{b:Addr}{o:Obj}(e:(Hl h H).get? b=some o):h.get? b=some o/\H b=none:=by
 have e':h.get? b=some o:=PySem.W.of_hideAll (trk h H) e
 !⟨e',?_⟩
 cases q:H b with
 | none=>rfl
 | some x =>
  have hm:b∈trk h H:=List.mem_filter.mpr ⟨AAo.mpr (AAG e'),by simp[q]⟩
  have z:(Hl h H).get? b=none:=PySem.W.hideAll_none (trk h H) hm
  rw[z]at e;cases e
def Lv(g h:Heap)(L:Addr):List (Addr×Obj):=(AAe h.objs.size).filterMap λa=>if a=L\/(g.get? a).isSome=true then none else(h.get? a).map λo=>(a,o)
def bn(g h:Heap)(L d:Addr):List (Addr×Obj):=(Lv g h L).filter λp=>decide (p.1≠d)
end L2
namespace L2
open PySem PySem.Spec PyProof.Rows
structure Mod(K:AA5)(mg:Str->Option Value)(base:Heap):Prop where
 kin:K.In base
 glob:base.Ns mainGlobals mg
 blt:∃mb,base.Ns builtinsNs mb/\∀x:Str,x≠"__name__"->mb x=bootBuiltins x
 nolimit:base.NoLimit
/-- the context: a def's body (or a comprehension's block) running. base: fixed through the whole law;s₀,H₀: the entry;outer: the frames whose slots others may change (a def's callers);stack: all frames that run;
  ex: iterators that were made fW of the entry and are walked here (a comprehension's);fn: the names whose cells were made at the entry (a def: all;a comprehension's block: its own);calm: not gj an except suite;pn: pins that every state bears;xe: what is wanted of an exception that leaves the code -/
structure Cx where
 prog:Program
 w:World
 K:AA5
 mg:Str->Option Value
 base:Heap
 A:Around
 N:List Str
 s₀:Shared
 H₀:Hp
 env:Env
 outer:List Env
 stack:List Env
 ex:List Addr
 fn:Str->Bool
 calm:Bool
 pn:List (Addr×Obj)
 xe:Value->Shared->Prop
def frs(l:List Env):List Addr:=l.filterMap (·.frame)
abbrev Cx.fs(X:Cx):List Addr:=frs X.outer
def Vis(sc:Scope)(x:Str):Prop:=sc.names.lookup x=some .local\/sc.names.lookup x=some .cell\/sc.names.lookup x=some .free
def Loc(sc:Scope)(x:Str):Prop:=sc.names.lookup x=some .local\/sc.names.lookup x=some .cell
def Look(env:Env)(h:Heap)(m:Str->Option Value)(x:Str)(u:Value):Prop :=
 (env.kindOf x=some .local/\m x=some u)\/((env.kindOf x=some .cell\/env.kindOf x=some .free)/\∃c,env.cells.lookup x=some c/\h.IsCell c (some u))
structure Cx.Ok(X:Cx):Prop where
 mod:Mod X.K X.mg X.base
 kind:X.env.scope.kind=.function
 glob:X.env.globals=mainGlobals
 blt:X.env.builtins=builtinsNs
 above:X.s₀.heap.objs.size<=X.env.locals
 inj:∀x y c,X.env.cells.lookup x=some c->X.env.cells.lookup y=some c->x=y
 has:∀x,(X.env.kindOf x=some .cell\/X.env.kindOf x=some .free)->∃c,X.env.cells.lookup x=some c
 cab:∀x c,X.fn x=true->X.env.cells.lookup x=some c->X.s₀.heap.objs.size<=c
 hd:X.calm=true->X.A.handled=none
 frames:X.A.frames=some X.stack
 stk:X.stack=X.outer\/(X.stack=X.env::X.outer/\X.env.frame=some X.env.locals)
 exf:∀b∈X.ex,b≠X.env.locals/\∀x c,X.env.cells.lookup x=some c->c≠b
 bs:∀b o,X.base.get? b=some o->X.s₀.heap.get? b=some o/\X.H₀ b=none
 bsz:X.base.objs.size<=X.s₀.heap.objs.size
 noex:∀b o,X.base.get? b=some o->b∉X.ex
 exfs:∀b∈X.ex,b∉X.fs
 funs:X.s₀.heap.FunFrames X.base X.outer
 frf:∀b∈X.fs,X.H₀ b=none
structure Inv(X:Cx)(pins:List (Addr×Obj))(σ:List (Option V))(H:Hp)(s:Shared):Prop where
 ok:X.Ok
 os:s.os=X.s₀.os
 bare:AllBare s.gens
 base:Un X.fs X.ex X.H₀ H X.s₀.heap s.heap
 loc:∃m,s.heap.Ns X.env.locals m/\∀(i:Nat) (x:Str) (v:V),X.N[i]?=some x->σ[i]?=some (some v)->Vis X.env.scope x->∃u,bi v u/\Look X.env s.heap m x u
 cell:∀x c,X.env.cells.lookup x=some c->∃v,s.heap.IsCell c v
 free:H X.env.locals=none
 freeC:∀x c,X.env.cells.lookup x=some c->H c=none
 pin:∀p∈X.pn++pins,s.heap.get? p.1=some p.2/\H p.1=none/\p.1≠X.env.locals/\p.1∉X.fs/\∀v,p.2.data≠.cell v
 hok:HOk X.prog X.w H s.heap
 len:σ.length=X.N.length
section
variable{X:Cx}{pins:List (Addr×Obj)}{σ:List (Option V)}{H H':Hp}{s:Shared}{h':Heap}
¶Cx.Ok.nofr(ok:X.Ok){b:Addr}{o:Obj}(e:X.base.get? b=some o):b∉X.fs:=λhb=>by
 have:=(ok.funs.mem hb).1
 rw[e]at this;cases this
¶Inv.bs(I:Inv X pins σ H s):∀b o,X.base.get? b=some o->s.heap.get? b=some o/\H b=none:=λb o e =>
 ⟨I.base.keep b o (I.ok.bs b o e).1 (I.ok.bs b o e).2 (I.ok.nofr e) (I.ok.noex b o e),I.base.free b o (I.ok.bs b o e).1 (I.ok.bs b o e).2 (I.ok.noex b o e)⟩
¶Inv.bk(I:Inv X pins σ H s):∀b o,X.base.get? b=some o->s.heap.get? b=some o:=λb o e=>(I.bs b o e).1
¶Inv.mod(I:Inv X pins σ H s):Mod X.K X.mg X.base:=I.ok.mod
¶Inv.kIn(I:Inv X pins σ H s):X.K.In s.heap:=I.ok.mod.kin.keeps I.bk
¶Inv.lt(I:Inv X pins σ H s):X.env.locals<s.heap.objs.size:=let ⟨_,hn,_⟩:=I.loc;hn.lt
¶Inv.sz(I:Inv X pins σ H s):X.s₀.heap.objs.size<=s.heap.objs.size:=ABN I.ok.above (AEJ I.lt)
¶Inv.nofs(I:Inv X pins σ H s){a:Addr}(h:s.heap.objs.size<=a):a∉X.fs:=λhb=>by
 #⟨_,o,ho,_⟩:=I.ok.funs.mem hb
 ~absurd (AAd (AAG ho) (ABN I.sz h)) (AAq _)
¶Inv.cne(I:Inv X pins σ H s):∀x c,X.env.cells.lookup x=some c->c≠X.env.locals:=λx c e z=>by
 #⟨v,o,ho,hd⟩:=I.cell x c e
 #⟨m,⟨o',es,ep,ho',hd',_⟩,_⟩:=I.loc
 rw[z,ho']at ho;cases ho;rw[hd']at hd;cases hd
¶Inv.funs(I:Inv X pins σ H s):s.heap.FunFrames X.base X.outer:=by
 have all:∀(l:List Env),(∀b∈frs l,b∈X.fs)->X.s₀.heap.FunFrames X.base l->s.heap.FunFrames X.base l:=by
  intro l
  induction l with
  | nil=>intro _ _;trivial
  | cons env r ih =>
   intro hs hl
   #⟨hk,⟨L,o,hf,hn,ho,hd⟩,hr⟩:=hl
   have hL:L∈X.fs:=hs L (by unfold frs;rw[ABq,hf];~AAI)
   #⟨sl,e⟩:=I.base.slot L o ho (I.ok.frf L hL) hL λz=>I.ok.exfs L z hL
   ~⟨hk,⟨L,_,hf,hn,e,hd⟩,ih (λb hb=>hs b (by unfold frs;rw[ABq,hf];~AA9 _ hb)) hr⟩
 ~all X.outer (λ_ hb=>hb) I.ok.funs
¶Inv.stack(I:Inv X pins σ H s):s.heap.FunFrames X.base X.stack:=by
 rcases I.ok.stk with e | ⟨e,hf⟩
 ·rw[e];~I.funs
 ·rw[e]
  #⟨m,hn,_⟩:=I.loc
  !.cons (by rw[I.ok.kind];decide) hf hn ?_ I.funs
  ~Heap.get?_none_of_le (ABN I.ok.bsz I.ok.above)
¶Inv.stkSub(I:Inv X pins σ H s):∀b∈frs X.stack,b∈X.env.locals::X.fs:=λb hb=>by
 rcases I.ok.stk with e | ⟨e,hf⟩
 ·rw[e]at hb;~AA9 _ hb
 ·rw[e]at hb
  unfold frs at hb
  rw[ABq,hf]at hb
  ~hb
¶Inv.stkFree(I:Inv X pins σ H s):∀b∈frs X.stack,H b=none:=λb hb=>by
 rcases AAH.mp (I.stkSub b hb)with e | hb
 ·rw[e];~I.free
 ·#⟨_,o,ho,_⟩:=I.ok.funs.mem hb
  ~I.base.free b o ho (I.ok.frf b hb) λz=>I.ok.exfs b z hb
¶Inv.step{g':Array GenState}{t':Nat}{d':Drawn}{ch:List Addr}(I:Inv X pins σ H s)
  (hch:∀b∈ch,(b∈X.ex\/X.s₀.heap.objs.size<=b)/\b≠X.env.locals/\(∀x c,X.env.cells.lookup x=some c->c≠b)/\∀p∈X.pn++pins,p.1≠b)
  (keep:∀b o,b≠X.env.locals->b∉X.fs->b∉ch->s.heap.get? b=some o->H b=none->h'.get? b=some o)
  (slot:∀b o,b≠X.env.locals->b∈X.fs->b∉ch->s.heap.get? b=some o->H b=none->∃sl,h'.get? b=some { o with slots:=sl }) (free:∀b o,b∉ch->s.heap.get? b=some o->H b=none->H' b=none)
  (there:∀b o,b∉ch->s.heap.get? b=some o->∃o',h'.get? b=some o')
  (tups:∀b xs,H b=some (.tup xs)->H' b=some (.tup xs)) (frzs:∀b o u,H b=some (.frz o u)->H' b=some (.frz o u)) (tbls:∀b ps,H b=some (.tbl ps)->∃more,H' b=some (.tbl (ps++more)))
  (ns:∀m,s.heap.Ns X.env.locals m->h'.Ns X.env.locals m) (hok:HOk X.prog X.w H' h') (hg:AllBare g') :
  Inv X pins σ H' { s with heap:=h',gens:=g',drawn:=d',toks:=t' }:=by
 have neL:∀b o,X.s₀.heap.get? b=some o->b≠X.env.locals:=λb o e=>AAQ (AAd (AAG e) I.ok.above)
 have neC:∀b o,X.s₀.heap.get? b=some o->b∉X.ex->b∉ch:=λb o e hx hb=>by
  rcases(hch b hb).1 with z | z
  ·~hx z
  ·~absurd (AAd (AAG e) z) (AAq _)
 have cellK:∀x c,X.env.cells.lookup x=some c->∀v,s.heap.IsCell c v->h'.IsCell c v:=λx c e v ⟨o,ho,hd⟩=>by
  have nch:c∉ch:=λz=>(hch c z).2.2.1 x c e rfl
  by_cases hc:c∈X.fs
  ·#⟨sl,q⟩:=slot c o (I.cne x c e) hc nch ho (I.freeC x c e)
   ~⟨_,q,hd⟩
  ·~⟨o,keep c o (I.cne x c e) hc nch ho (I.freeC x c e),hd⟩
 !⟨I.ok,I.os,hg,⟨λb o e n hb hx=>?_,λb o e n hb hx=>?_,λb o e n hx=>?_,λb o e hx=>?_,λb xs e=>tups b xs (I.base.tups b xs e),λb o xs e=>frzs b o xs (I.base.frzs b o xs e),λb ps e=>?_⟩,?_,λx c e=>?_,?_,λx c e=>?_,λp hp=>?_,hok,I.len⟩
 ·~keep b o (neL b o e) hb (neC b o e hx) (I.base.keep b o e n hb hx) (I.base.free b o e n hx)
 ·#⟨sl,e1⟩:=I.base.slot b o e n hb hx
  #⟨sl',e2⟩:=slot b _ (neL b o e) hb (neC b o e hx) e1 (I.base.free b o e n hx)
  ~⟨sl',e2⟩
 ·#⟨o',e1⟩:=I.base.there b o e hx
  ~free b o' (neC b o e hx) e1 (I.base.free b o e n hx)
 ·#⟨o',e1⟩:=I.base.there b o e hx
  ~there b o' (neC b o e hx) e1
 ·#⟨m1,e1⟩:=I.base.tbls b ps e
  #⟨m2,e2⟩:=tbls b _ e1
  ~⟨m1++m2,by rw[e2,Array.append_assoc]⟩
 ·#⟨m,hn,hl⟩:=I.loc
  !⟨m,ns m hn,λi x v e1 e2 e3=>?_⟩
  #⟨u,r,l⟩:=hl i x v e1 e2 e3
  !⟨u,r,?_⟩
  rcases l with l | ⟨k,c,e,z⟩
  ·~.inl l
  ·~.inr ⟨k,c,e,cellK x c e _ z⟩
 ·#⟨v,z⟩:=I.cell x c e
  ~⟨v,cellK x c e v z⟩
 ·#⟨m,⟨o,_,_,ho,_⟩,_⟩:=I.loc
  ~free _ o (λz=>(hch _ z).2.1 rfl) ho I.free
 ·#⟨v,o,ho,hd⟩:=I.cell x c e
  ~free c o (λz=>(hch c z).2.2.1 x c e rfl) ho (I.freeC x c e)
 ·#⟨e,n,ne,nf,d⟩:=I.pin p hp
  have nch:p.1∉ch:=λz=>(hch p.1 z).2.2.2 p hp rfl
  ~⟨keep p.1 p.2 ne nf nch e n,free p.1 p.2 nch e n,ne,nf,d⟩
¶Inv.un{t':Nat}(I:Inv X pins σ H s)(u:Un X.fs [] H H' s.heap h')(hok:HOk X.prog X.w H' h'):Inv X pins σ H' { s with heap:=h',toks:=t' }:=by
 #⟨m,⟨o,es,ep,ho,r⟩,_⟩:=id I.loc
 #⟨sl,hL⟩:=u.any ho I.free (by simp)
 ~I.step (g':=s.gens) (d':=s.drawn) (ch:=[]) (λ_ z=>nomatch z) (λb o _ hb _ e n=>u.keep b o e n hb (by simp)) (λb o _ hb _ e n=>u.slot b o e n hb (by simp)) (λb o _ e n=>u.free b o e n (by simp)) (λb o _ e=>u.there b o e (by simp)) u.tups u.frzs u.tbls (λm' hm=>by
  #⟨o',es',ep',ho',r'⟩:=hm
  rw[ho]at ho';cases ho'
  ~⟨_,es',ep',hL,r'⟩) hok I.bare
¶Inv.call{g':Array GenState}{t':Nat}{d':Drawn}{ch:List Addr}(I:Inv X pins σ H s)(u:Un (frs X.stack) ch H H' s.heap h')(hok:HOk X.prog X.w H' h')(hg:AllBare g')
  (hch:∀b∈ch,(b∈X.ex\/X.s₀.heap.objs.size<=b)/\b≠X.env.locals/\(∀x c,X.env.cells.lookup x=some c->c≠b)/\∀p∈X.pn++pins,p.1≠b) :
  Inv X pins σ H' { s with heap:=h',gens:=g',drawn:=d',toks:=t' }:=by
 #⟨m,⟨o,es,ep,ho,r⟩,_⟩:=id I.loc
 #⟨sl,hL⟩:=u.any ho I.free λz=>(hch _ z).2.1 rfl
 ~I.step (ch:=ch) hch (λb o hL hb hc e n=>u.keep b o e n (λz=>(AAH.mp (I.stkSub b z)).elim hL hb) hc) (λb o _ _ hc e n=>u.any e n hc) (λb o hc e n=>u.free b o e n hc) (λb o hc e=>u.there b o e hc) u.tups u.frzs u.tbls (λm' hm=>by
  #⟨o',es',ep',ho',r'⟩:=hm
  rw[ho]at ho';cases ho'
  ~⟨_,es',ep',hL,r'⟩) hok hg
¶Inv.turned{t':Nat}{it:Addr}(I:Inv X pins σ H s)(k:∀b o,b≠it->s.heap.get? b=some o->h'.get? b=some o)(hn:H it=none)(hL:it≠X.env.locals)
  (h1:it∈X.ex\/X.s₀.heap.objs.size<=it) (h2:∀x c,X.env.cells.lookup x=some c->c≠it) (h3:∀p∈X.pn++pins,p.1≠it):Inv X pins σ H { s with heap:=h',toks:=t' }:=by
 have nit:∀b u,H b=some u->b≠it:=λb u e z=>by rw[z,hn]at e;cases e
 !I.step (g':=s.gens) (d':=s.drawn) (ch:=[it]) (λb hb=>?_) (λb o _ _ hc e _=>k b o (λz=>hc (by simp[z])) e) (λb o _ _ hc e _=>⟨o.slots,k b o (λz=>hc (by simp[z])) e⟩) (λ_ _ _ _ n=>n)
  (λb o hc e=>⟨o,k b o (λz=>hc (by simp[z])) e⟩) (λ_ _ e=>e) (λ_ _ _ e=>e) (λb ps e=>⟨#[],by rw[e];simp⟩) (λm hm=>?_) (λb u e=>?_) I.bare
 ·have e:b=it:=by simpa using hb
  subst e
  ~⟨h1,hL,h2,h3⟩
 ·#⟨o,es,ep,ho,r⟩:=hm
  ~⟨o,es,ep,k _ o (AAz hL) ho,r⟩
 ·!(I.hok b u e).stay (λc v hc q=>k c v ?_ q) (λ_ q=>q) λ_ _ q=>q
  rcases hc with z | z
  ·rw[z];~nit b u e
  ·~nit c _ z
¶Inv.tok(I:Inv X pins σ H s)(t:Nat):Inv X pins σ H { s with toks:=t }:=I.un (h':=s.heap) (t':=t) Un.refl I.hok
¶Inv.kept{t':Nat}(I:Inv X pins σ H s)(k:∀b u,s.heap.get? b=some u->h'.get? b=some u):Inv X pins σ H { s with heap:=h',toks:=t' }:=I.un (Un.kept k) (I.hok.kept k)
¶Inv.laid{a:Addr}{o:HO}{t':Nat}(I:Inv X pins σ H s)(k:∀b u,s.heap.get? b=some u->h'.get? b=some u)(hp:s.heap.objs.size<=a)(new:cL X.prog X.w (upd H a o) h' a o) :
  Inv X pins σ (upd H a o) { s with heap:=h',toks:=t' }:=I.un (Un.laid k hp (I.hok.fresh hp)) (I.hok.laid k hp new)
¶Inv.write{x e:Addr}{o:HO}{t':Nat}(I:Inv X pins σ H s)(mu:Mut (H x))(he:e=x\/H e=some (.own x))(k:∀b u,b≠e->s.heap.get? b=some u->h'.get? b=some u)(heo:∃u,h'.get? e=some u)
  (new:cL X.prog X.w (upd H x o) h' x o):Inv X pins σ (upd H x o) { s with heap:=h',toks:=t' }:=I.un (Un.write mu he k heo) (I.hok.write mu he k heo new)
¶Inv.pins_of{pins':List (Addr×Obj)}(I:Inv X pins σ H s)(h:∀p∈pins',s.heap.get? p.1=some p.2/\H p.1=none/\p.1≠X.env.locals/\p.1∉X.fs/\∀v,p.2.data≠.cell v):Inv X pins' σ H s :=
 ⟨I.ok,I.os,I.bare,I.base,I.loc,I.cell,I.free,I.freeC,λp hp=>(AAk.mp hp).elim (λz=>I.pin p (ACZ _ z)) (h p),I.hok,I.len⟩
¶zK{N:List Str}(hN:N.Nodup){i j:Nat}{x:Str}(a:N[i]?=some x)(b:N[j]?=some x):i=j:=by
 #⟨h1,e1⟩:=AA2.mp a
 #⟨h2,e2⟩:=AA2.mp b
 ~(List.getElem_inj hN).mp (e1.trans e2.symm)
¶CA{M:Model}{A:Around}{E:Value->Shared->Prop}{i:Nat}{x:Str}{v:V}{u:Value}{Q:Unit->Shared->Prop}(I:Inv X pins σ H s)(hN:X.N.Nodup)(hi:X.N[i]?=some x)(hx:Loc X.env.scope x)(r:bi v u)
  (h:∀s',Inv X pins (σ.set i (some v)) H s'->(∃a,ABO a s.heap s'.heap/\(a=X.env.locals\/X.env.cells.lookup x=some a))->Q () s') (hf:X.fn x=true\/X.env.scope.names.lookup x=some .local:=by first | ~.inl rfl | ~.inr rfl | assumption):wpAny M A (storeName X.env x u) Q E s:=by
 #⟨m,hn,hl⟩:=id I.loc
 have hcls:(X.env.scope.kind==.class||(X.env.scope.kind==.module&&X.env.locals != X.env.globals))=false:=by rw[I.ok.kind];rfl
 have hiσ:i<σ.length:=by rw[I.len];~(AA2.mp hi).1
 have cne:=I.cne
 have tracked:∀{a:Addr}{h':Heap},(∃o,s.heap.get? a=some o/\H a=none)->ABO a s.heap h'->HOk X.prog X.w H h':=λ{a h'} ha hs b ob e=>by
  #⟨_,_,hfree⟩:=ha
  !(I.hok b ob e).stay (λc w' hc q=>(hs.2 c ?_).trans q) (λ_ q=>q) λ_ _ q=>q
  rintro rfl
  rcases hc with rfl | hc
  ·rw[hfree]at e;cases e
  ·rw[hfree]at hc;cases hc
 rcases hx with hk | hk
 ·!wpAny_storeName_local hk hn (λh' hn' hs=>?_) hcls
  #⟨oL,_,_,hoL,_⟩:=id hn
  !h _ ⟨I.ok,I.os,I.bare,⟨λb o e n hb hx=>?_,λb o e n hb hx=>?_,I.base.free,λb o e hx=>?_,I.base.tups,I.base.frzs,I.base.tbls⟩,⟨_,hn',λj y v' e1 e2 e3=>?_⟩,λy c e=>?_,I.free,I.freeC,λp hp=>?_,tracked ⟨oL,hoL,I.free⟩ hs,by simpa using I.len⟩ ⟨_,hs,.inl rfl⟩
  ·~(hs.2 b (AAQ (AAd (AAG e) I.ok.above))).trans (I.base.keep b o e n hb hx)
  ·#⟨sl,e1⟩:=I.base.slot b o e n hb hx
   ~⟨sl,(hs.2 b (AAQ (AAd (AAG e) I.ok.above))).trans e1⟩
  ·#⟨o',e1⟩:=I.base.there b o e hx
   ~⟨o',(hs.2 b (AAQ (AAd (AAG e) I.ok.above))).trans e1⟩
  ·by_cases hj:j=i
   ·subst hj
    rw[hi]at e1;cases e1
    rw[ABD hiσ]at e2
    cases e2
    ~⟨u,r,.inl ⟨hk,by simp⟩⟩
   ·rw[AAt (AAz hj)]at e2
    #⟨u',r',q⟩:=hl j y v' e1 e2 e3
    !⟨u',r',?_⟩
    rcases q with⟨k,e⟩|⟨k,c,e,z⟩
    ·!.inl ⟨k,?_⟩
     have:y≠x:=λe=>hj (zK hN e1 (e ▸ hi))
     simp[this,e]
    ·~.inr ⟨k,c,e,z.sameBut hs (cne y c e)⟩
  ·#⟨w',z⟩:=I.cell y c e
   ~⟨w',z.sameBut hs (cne y c e)⟩
  ·#⟨e,n,ne,nf,d⟩:=I.pin p hp
   ~⟨(hs.2 p.1 ne).trans e,n,ne,nf,d⟩
 ·have hfn:X.fn x=true:=by
   rcases hf with z | z
   ·~z
   ·rw[z]at hk;cases hk
  #⟨c,hc⟩:=I.ok.has x (.inl hk)
  #⟨w',z⟩:=I.cell x c hc
  !wpAny_storeName_cell I.ok.kind hk hc z (λh' hc' hs=>?_)
  #⟨oc,hoc,hocd⟩:=id z
  !h { s with heap:=h' } ⟨I.ok,I.os,I.bare,⟨λb o e n hb hx=>?_,λb o e n hb hx=>?_,I.base.free,λb o e hx=>?_,I.base.tups,I.base.frzs,I.base.tbls⟩,⟨m,hn.sameBut hs (AAz (cne x c hc)),λj y v' e1 e2 e3=>?_⟩,λy c' e=>?_,I.free,I.freeC,λp hp=>?_,tracked ⟨oc,hoc,I.freeC x c hc⟩ hs,by simpa using I.len⟩ ⟨c,hs,.inr hc⟩
  ·~(hs.2 b (AAQ (AAd (AAG e) (I.ok.cab x c hfn hc)))).trans (I.base.keep b o e n hb hx)
  ·#⟨sl,e1⟩:=I.base.slot b o e n hb hx
   ~⟨sl,(hs.2 b (AAQ (AAd (AAG e) (I.ok.cab x c hfn hc)))).trans e1⟩
  ·#⟨o',e1⟩:=I.base.there b o e hx
   ~⟨o',(hs.2 b (AAQ (AAd (AAG e) (I.ok.cab x c hfn hc)))).trans e1⟩
  ·by_cases hj:j=i
   ·subst hj
    rw[hi]at e1;cases e1
    rw[ABD hiσ]at e2
    cases e2
    ~⟨u,r,.inr ⟨.inl hk,c,hc,hc'⟩⟩
   ·rw[AAt (AAz hj)]at e2
    #⟨u',r',q⟩:=hl j y v' e1 e2 e3
    !⟨u',r',?_⟩
    rcases q with q | ⟨k,c',e,z'⟩
    ·~.inl q
    ·!.inr ⟨k,c',e,z'.sameBut hs ?_⟩
     rintro rfl
     ~hj (zK hN e1 (I.ok.inj _ _ _ e hc ▸ hi))
  ·by_cases hcc:c'=c
   ·subst hcc;~⟨_,hc'⟩
   ·#⟨w2,z2⟩:=I.cell y c' e
    ~⟨w2,z2.sameBut hs hcc⟩
  ·#⟨e,n,ne,nf,d⟩:=I.pin p hp
   !⟨(hs.2 p.1 ?_).trans e,n,ne,nf,d⟩
   intro q
   rw[q,hoc]at e
   have q':oc=p.2:=AAR e
   ~d w' (by rw[←q'];~hocd)
¶zv{M:Model}{A:Around}{E:Value->Shared->Prop}{i:Nat}{x:Str}{v:V}{u:Value}{Q:Unit->Shared->Prop}(I:Inv X pins σ H s)(hN:X.N.Nodup)(hi:X.N[i]?=some x)(hx:Loc X.env.scope x)(r:bi v u)
  (h:∀s',Inv X pins (σ.set i (some v)) H s'->Q () s') (hf:X.fn x=true\/X.env.scope.names.lookup x=some .local:=by first | ~.inl rfl | ~.inr rfl | assumption):wpAny M A (storeName X.env x u) Q E s :=
 CA I hN hi hx r (λs' I' _=>h s' I') hf
¶Inv.call'{s':Shared}{ch:List Addr}(I:Inv X pins σ H s)(ho:s'.os=s.os)(u:Un (frs X.stack) ch H H' s.heap s'.heap)(hok:HOk X.prog X.w H' s'.heap)(hg:AllBare s'.gens)
  (hch:∀b∈ch,(b∈X.ex\/X.s₀.heap.objs.size<=b)/\b≠X.env.locals/\(∀x c,X.env.cells.lookup x=some c->c≠b)/\∀p∈X.pn++pins,p.1≠b):Inv X pins σ H' s':=by
 #⟨h',g',d',t',o'⟩:=s'
 have e:o'=s.os:=ho
 subst e
 ~I.call (g':=g') (t':=t') (d':=d') u hok hg hch
end
abbrev XK:=Value->Option Addr->Hp->Prop
abbrev St:=List (Option V)
abbrev VK:=V->Hp->Prop
abbrev TE:=St->Hp->VK->Prop
abbrev TT:=St->Hp->(Bool->Hp->Prop)->Prop
abbrev TA:=St->Hp->(List V->Hp->Prop)->Prop
structure Ends where
 nx:St->Hp->Prop
 rt:VK
 bk:St->Hp->Prop:=λ_ _=>False
 ct:St->Hp->Prop:=λ_ _=>False
abbrev TS:=Ends->St->Hp->Prop
inductive EP(X:Cx)(pins:List (Addr×Obj))(σ:St)(Q:VK)(u:Value)(s':Shared):Prop
 | mk (v:_) (H':_) (f0:Inv X pins σ H' s') (f1:bi v u) (f2:Q v H')
inductive TP(X:Cx)(pins:List (Addr×Obj))(σ:St)(Q:Bool->Hp->Prop)(b:Bool)(s':Shared):Prop
 | mk (H':_) (f0:Inv X pins σ H' s') (f1:Q b H')
inductive AP(X:Cx)(pins:List (Addr×Obj))(σ:St)(Q:List V->Hp->Prop)(us:List Value)(s':Shared):Prop
 | mk (vs:_) (H':_) (f0:Inv X pins σ H' s') (f1:aL vs us) (f2:Q vs H')
def SP(X:Cx)(pins:List (Addr×Obj))(D:Ends)(f:Flow)(s':Shared):Prop :=
 match f with
 | .next=>∃σ' H',Inv X pins σ' H' s'/\D.nx σ' H'
 | .brk=>∃σ' H',Inv X pins σ' H' s'/\D.bk σ' H'
 | .cont=>∃σ' H',Inv X pins σ' H' s'/\D.ct σ' H'
 | .ret u=>∃v σ' H',Inv X pins σ' H' s'/\bi v u/\D.rt v H'
def PE(X:Cx)(e:Expr)(t:TE):Prop :=
 ∀(pins:List (Addr×Obj)) (s:Shared) (σ:St) (H:Hp) (Q:VK),Inv X pins σ H s->t σ H Q->wpAny (model X.prog X.w) X.A (eval e X.env) (EP X pins σ Q) X.xe s
def PT(X:Cx)(e:Expr)(t:TT):Prop :=
 ∀(pins:List (Addr×Obj)) (s:Shared) (σ:St) (H:Hp) (Q:Bool->Hp->Prop),Inv X pins σ H s->t σ H Q->wpAny (model X.prog X.w) X.A (isTrue e X.env (eval e X.env)) (TP X pins σ Q) X.xe s
def PW(X:Cx)(e:Expr)(t:TT):Prop :=
 ∀(whole:Sem Value) (pins:List (Addr×Obj)) (s:Shared) (σ:St) (H:Hp) (Q:Bool->Hp->Prop),Inv X pins σ H s->t σ H Q->wpAny (model X.prog X.w) X.A (isTrue e X.env whole) (TP X pins σ Q) X.xe s
¶PW.pt{X:Cx}{e:Expr}{t:TT}(h:PW X e t):PT X e t:=h _
def PA(X:Cx)(es:List Expr)(t:TA):Prop :=
 ∀(pos:Pos) (pins:List (Addr×Obj)) (s:Shared) (σ:St) (H:Hp) (Q:List V->Hp->Prop),Inv X pins σ H s->t σ H Q->wpAny (model X.prog X.w) X.A (spliced (backTo pos (starEach es X.env))) (AP X pins σ Q) X.xe s
def PS(X:Cx)(st:Stmt)(t:TS):Prop :=
 ∀(pins:List (Addr×Obj)) (s:Shared) (σ:St) (H:Hp) (D:Ends),Inv X pins σ H s->t D σ H->wpAny (model X.prog X.w) X.A (exec st X.env) (SP X pins D) X.xe s
def PSs(X:Cx)(st:List Stmt)(t:TS):Prop :=
 ∀(pins:List (Addr×Obj)) (s:Shared) (σ:St) (H:Hp) (D:Ends),Inv X pins σ H s->t D σ H->wpAny (model X.prog X.w) X.A (execs st X.env) (SP X pins D) X.xe s
¶thn{α:Type}{t:Sem α}{Q Q':α->Shared->Prop}{M:Model}{A:Around}{E:Value->Shared->Prop}{s:Shared}(h:wpAny M A t Q E s)(hQ:∀a s,Q a s->Q' a s):wpAny M A t Q' E s:=ABi h hQ λ_ _ x=>x
end L2
namespace L2
open PySem PySem.Spec PyProof.Rows
section
variable{X:Cx}
def tVar(i:Nat):TE:=λσ H Q=>∃v,σ[i]?=some (some v)/\Q v H
def tC(v:V):TE:=λ_ H Q=>Q v H
¶Dp{i:Nat}{x:Str}{pos:Pos}(hN:X.N[i]?=some x)(hv:Vis X.env.scope x)(hd:(x==("__debug__":Str))=false:=by decide)(hcd:(x==("__classdict__":Str))=false:=by decide):PE X (.Name x pos) (tVar i):=by
 intro pins s σ H Q I h
 #⟨v,e,h⟩:=h
 #⟨m,hn,hl⟩:=I.loc
 #⟨u,r,l⟩:=hl i x v hN e hv
 have fin:EP X pins σ Q u s:=⟨v,H,I,r,h⟩
 rcases l with⟨hk,hm⟩|⟨hk,c,hc,hcell⟩
 ·~wpAny_Name (wpAny_loadName_local I.ok.kind hk hn hm fin) hd
 ·rcases hk with hk | hk
  ·~wpAny_Name (wpAny_loadName_cell I.ok.kind hk hc hcell fin) hd
  ·~wpAny_Name (wpAny_loadName_free I.ok.kind hk hc hcell fin hcd) hd
¶MB{i j pos}:PE X (.Constant (.int i) j pos) (tC (.int i)):=λ_ _ _ H _ I h=>wpAny_Constant_int ⟨.int i,H,I.tok _,⟨_,rfl⟩,h⟩
¶MD{b j pos}:PE X (.Constant (.bool b) j pos) (tC (.bl b)):=λ_ _ _ H _ I h=>Constant_bool ⟨.bl b,H,I,rfl,h⟩
¶My{j pos}:PE X (.Constant .none j pos) (tC .non):=λ_ _ _ H _ I h=>Constant_none ⟨.non,H,I,rfl,h⟩
¶Mv{x j pos}:PE X (.Constant (.str x) j pos) (tC (.str x)):=λ_ _ _ H _ I h=>Calls.Constant_str ⟨.str x,H,I.tok _,⟨_,rfl⟩,h⟩
def Gl(X:Cx)(x:Str):Prop:=X.env.kindOf x=some .globalImplicit
¶Ei{E:Value->Shared->Prop}{pins:List (Addr×Obj)}{s:Shared}{σ:St}{H:Hp}{x:Str}{u:Value}{pos:Pos}{Q:Value->Shared->Prop}(I:Inv X pins σ H s)(hg:Gl X x)(hm:X.mg x=some u)(h:Q u s)
  (hd:(x==("__debug__":Str))=false:=by decide):wpAny (model X.prog X.w) X.A (eval (.Name x pos) X.env) Q E s :=
 Calls.Name_function_global I.ok.kind hg (Calls.loadGlobal_global (by rw[I.ok.glob];~I.mod.glob.keeps I.bk) hm h) hd
¶jU{E:Value->Shared->Prop}{pins:List (Addr×Obj)}{s:Shared}{σ:St}{H:Hp}{x:Str}{u:Value}{pos:Pos}{Q:Value->Shared->Prop}(I:Inv X pins σ H s)(hg:Gl X x)(hm:X.mg x=none)(hv:bootBuiltins x=some u)(h:Q u s)
  (hn:x≠"__name__":=by decide) (hd:(x==("__debug__":Str))=false:=by decide):wpAny (model X.prog X.w) X.A (eval (.Name x pos) X.env) Q E s:=by
 #⟨mb,h1,h2⟩:=I.mod.blt
 ~Calls.Name_function_global I.ok.kind hg (Calls.loadGlobal_builtin (by rw[I.ok.glob];~I.mod.glob.keeps I.bk) hm (by rw[I.ok.blt];~h1.keeps I.bk) ((h2 x hn).trans hv) h) hd
¶xK{x:Str}{v:V}{u:Value}{pos:Pos}(hg:Gl X x)(hm:X.mg x=some u)(r:bi v u)(hd:(x==("__debug__":Str))=false:=by decide):PE X (.Name x pos) (tC v) :=
 λ_ _ _ H _ I h=>Ei I hg hm ⟨v,H,I,r,h⟩ hd
¶JM{x:Str}{v:V}{u:Value}{pos:Pos}(hg:Gl X x)(hm:X.mg x=none)(hv:bootBuiltins x=some u)(r:bi v u)(hn:x≠"__name__":=by decide)(hd:(x==("__debug__":Str))=false:=by decide):PE X (.Name x pos) (tC v) :=
 λ_ _ _ H _ I h=>jU I hg hm hv ⟨v,H,I,r,h⟩ hn hd
variable{a b:Expr}{ta tb:TE}{pos:Pos}
¶bi.none_iff{x:V}{v:Value}(r:bi x v):(v==ABb)=decide (x=.non):=by
 cases x with
 | non=>cases r;rfl
 | bl _=>cases r;rfl
 | int _=>#⟨t,rfl⟩:=r;rfl
 | str _=>#⟨t,rfl⟩:=r;rfl
 | byt _=>#⟨t,rfl⟩:=r;rfl
 | flt _=>#⟨t,rfl⟩:=r;rfl
 | ref _=>cases r;rfl
 | ty _=>cases r;rfl
def tB(t:TE):TT:=λσ H Q=>t σ H λx H1=>∃c,x=.bl c/\Q c H1
¶Ml{e:Expr}{t:TE}(h:PE X e t)(he:∀whole,isTrue e X.env whole=(do let v ←whole;standAt e.pos;holding [v] (truthy v)):=by intro _;rfl):PT X e (tB t):=by
 intro pins s σ H Q I hw
 !isTrue_plain (thn (h pins s σ H _ I hw) λv s1 ⟨x,H1,I1,r1,q1⟩=>?_) (he _)
 #⟨d,rfl,q⟩:=q1
 cases r1
 ~ABj ⟨H1,I1,q⟩
variable{tA tB':TT}{bn:List Expr}
def tAnd(t u:TT):TT:=λσ H Q=>t σ H λc H1=>if c=true then u σ H1 Q else Q false H1
def tOr(t u:TT):TT:=λσ H Q=>t σ H λc H1=>if c=true then Q true H1 else u σ H1 Q
def tNot(t:TT):TT:=λσ H Q=>t σ H λc H1=>Q (!c) H1
¶Jw(ha:PT X a tA):PW X (.BoolOp .And [a] pos) tA:=by
 intro wh pins s σ H Q I h
 !isTrue_and (thn (ha pins s σ H Q I h) λc s1 e=>?_)
 cases c with
 | true=>~isTrue_and_nil e
 | false=>~e
¶Mi(ha:PT X a tA):PW X (.BoolOp .Or [a] pos) tA:=by
 intro wh pins s σ H Q I h
 !isTrue_or (thn (ha pins s σ H Q I h) λc s1 e=>?_)
 cases c with
 | false=>~isTrue_or_nil e
 | true=>~e
¶Mj(ha:PT X a tA)(hb:PW X (.BoolOp .And (b::bn) pos) tB'):PW X (.BoolOp .And (a::b::bn) pos) (tAnd tA tB'):=by
 intro wh pins s σ H Q I h
 !isTrue_and (thn (ha pins s σ H _ I h) λc s1 ⟨H1,I1,q1⟩=>?_)
 cases c with
 | true=>~hb wh pins s1 σ H1 Q I1 q1
 | false=>~⟨H1,I1,q1⟩
¶pw_or(ha:PT X a tA)(hb:PW X (.BoolOp .Or (b::bn) pos) tB'):PW X (.BoolOp .Or (a::b::bn) pos) (tOr tA tB'):=by
 intro wh pins s σ H Q I h
 !isTrue_or (thn (ha pins s σ H _ I h) λc s1 ⟨H1,I1,q1⟩=>?_)
 cases c with
 | true=>~⟨H1,I1,q1⟩
 | false=>~hb wh pins s1 σ H1 Q I1 q1
¶Mm(ha:PT X a tA):PT X (.UnaryOp .Not a pos) (tNot tA):=by
 intro pins s σ H Q I h
 ~isTrue_not (thn (ha pins s σ H (λc H1=>Q (!c) H1) I h) λc s1 ⟨H1,I1,q1⟩=>⟨H1,I1,q1⟩)
def tAndV(ta tb:TE):TE:=λσ H Q=>ta σ H λx H1=>∃c,x=.bl c/\if c=true then tb σ H1 Q else Q (.bl false) H1
def tOrV(ta tb:TE):TE:=λσ H Q=>ta σ H λx H1=>∃c,x=.bl c/\if c=true then Q (.bl true) H1 else tb σ H1 Q
def tNotV(ta:TE):TE:=λσ H Q=>ta σ H λx H1=>∃c,x=.bl c/\Q (.bl (!c)) H1
¶Mw{op}{t:TE}(h:PE X a t):PE X (.BoolOp op [a] pos) t:=λpins s σ H Q I hw=>BoolOp_one (h pins s σ H Q I hw)
¶ME(ha:PE X a ta)(hb:PE X (.BoolOp .And (b::bn) pos) tb):PE X (.BoolOp .And (a::b::bn) pos) (tAndV ta tb):=by
 intro pins s σ H Q I h
 !BoolOp_and (thn (ha pins s σ H _ I h) λv s1 ⟨x,H1,I1,r1,q1⟩=>?_)
 #⟨c,rfl,q1⟩:=q1
 cases r1
 !ABj ?_
 cases c with
 | true=>~hb pins s1 σ H1 Q I1 q1
 | false=>~⟨.bl false,H1,I1,rfl,q1⟩
¶pe_or(ha:PE X a ta)(hb:PE X (.BoolOp .Or (b::bn) pos) tb):PE X (.BoolOp .Or (a::b::bn) pos) (tOrV ta tb):=by
 intro pins s σ H Q I h
 !BoolOp_or (thn (ha pins s σ H _ I h) λv s1 ⟨x,H1,I1,r1,q1⟩=>?_)
 #⟨c,rfl,q1⟩:=q1
 cases r1
 !ABj ?_
 cases c with
 | false=>~hb pins s1 σ H1 Q I1 q1
 | true=>~⟨.bl true,H1,I1,rfl,q1⟩
¶Mx(ha:PE X a ta):PE X (.UnaryOp .Not a pos) (tNotV ta):=by
 intro pins s σ H Q I h
 !UnaryOp_ (thn (ha pins s σ H _ I h) λv s1 ⟨x,H1,I1,r1,q1⟩=>?_)
 #⟨c,rfl,q1⟩:=q1
 cases r1
 ~not_of (ABj ⟨.bl (!c),H1,I1,rfl,q1⟩)
end
end L2
namespace L2
open PySem PySem.Spec PyProof.Rows
def SqL(K:AA5)(H:Hp)(a:Addr)(xs:List V):Prop :=
 Rd H a (.lst xs) \/
  ∃(o:Obj) (its:Array Value) (n:Nat),K.lookup a=some o/\o.cls=.type "list"/\o.dict=none/\o.data=.seq its n/\its.size<=sizeLine/\aL xs its.toList
def SqT(K:AA5)(H:Hp)(a:Addr)(xs:List V):Prop :=
 Rd H a (.tup xs) \/
  ∃(o:Obj) (its:Array Value) (n:Nat),K.lookup a=some o/\o.cls=.type "tuple"/\o.dict=none/\o.data=.seq its n/\its.size<=sizeLine/\aL xs its.toList
def absV:Value->Option V
 | .none=>some .non
 | .bool b=>some (.bl b)
 | .int i _=>some (.int i)
 | .str x _=>some (.str x)
 | .bytes b _=>some (.byt b)
 | .float b _=>some (.flt b)
 | .ref a=>some (.ref a)
 | .type n=>some (.ty n)
 | _=>none
¶bi.abs{x:V}{u:Value}(r:bi x u):absV u=some x:=by
 cases x with
 | non=>cases r;rfl
 | bl _=>cases r;rfl
 | int _=>#⟨t,rfl⟩:=r;rfl
 | str _=>#⟨t,rfl⟩:=r;rfl
 | byt _=>#⟨t,rfl⟩:=r;rfl
 | flt _=>#⟨t,rfl⟩:=r;rfl
 | ref _=>cases r;rfl
 | ty _=>cases r;rfl
¶bi.inj{x y:V}{u:Value}(r:bi x u)(q:bi y u):x=y:=AAR (r.abs.symm.trans q.abs)
¶aL.inj:∀{xs ys:List V}{us:List Value},aL xs us->aL ys us->xs=ys
 | _,_,_,.nil,.nil=>rfl
 | _,_,_,.cons r t,.cons r' t'=>by rw[r.inj r',aL.inj t t']
section
variable{X:Cx}{pins:List (Addr×Obj)}{σ:St}{H:Hp}{s:Shared}{a:Addr}{xs ys:List V}
¶SqT.of{K:AA5}(h:H a=some (.tup xs)):SqT K H a xs:=.inl (.inl h)
¶Inv.list(I:Inv X pins σ H s)(h:SqL X.K H a xs):∃its:List Value,aL xs its/\PlainL s.heap a its.toArray/\xs.length<=sizeLine:=by
 rcases h with h | ⟨o,its,n,hk,hc,hd,hs,hz,r⟩
 ·#⟨z,its,n,r,e⟩:=h.ok I.hok
  ~⟨its,r,⟨_,n,e,rfl,rfl,rfl⟩,z⟩
 ·!⟨its.toList,r,⟨o,n,I.kIn a o hk,hc,hd,by simpa using hs⟩,?_⟩
  have e:=r.length
  simp only[AAO]at e
  &
¶Inv.tuple(I:Inv X pins σ H s)(h:SqT X.K H a xs):∃its:List Value,aL xs its/\IsTup s.heap a its.toArray/\xs.length<=sizeLine:=by
 rcases h with h | ⟨o,its,n,hk,hc,_,hs,hz,r⟩
 ·#⟨z,its,r,p⟩:=h.ok I.hok
  ~⟨its,r,p.tup,z⟩
 ·!⟨its.toList,r,⟨o,I.kIn a o hk,hc,n,by simpa using hs⟩,?_⟩
  have e:=r.length
  simp only[AAO]at e
  &
¶Inv.list_inj(I:Inv X pins σ H s)(h:SqL X.K H a xs)(h':SqL X.K H a ys):xs=ys:=by
 #⟨its,r,⟨o,n,e,_,_,d⟩,_⟩:=I.list h
 #⟨its',r',⟨o',n',e',_,_,d'⟩,_⟩:=I.list h'
 rw[e]at e';cases e'
 rw[d]at d'
 injection d' with d1 _
 have:its=its':=by simpa using congrArg Array.toList d1
 subst this
 ~r.inj r'
¶Inv.tuple_inj(I:Inv X pins σ H s)(h:SqT X.K H a xs)(h':SqT X.K H a ys):xs=ys:=by
 #⟨its,r,⟨o,e,_,n,d⟩,_⟩:=I.tuple h
 #⟨its',r',⟨o',e',_,n',d'⟩,_⟩:=I.tuple h'
 rw[e]at e';cases e'
 rw[d]at d'
 injection d' with d1 _
 have:its=its':=by simpa using congrArg Array.toList d1
 subst this
 ~r.inj r'
end
abbrev Cx.wish(X:Cx)(E:Value->Shared->Prop):Cx:={ X with xe:=E }
abbrev Cx.nox(X:Cx):Cx:=X.wish λ_ _=>False
¶Cx.Ok.wish{X:Cx}(ok:X.Ok)(E:Value->Shared->Prop):(X.wish E).Ok :=
 ⟨ok.mod,ok.kind,ok.glob,ok.blt,ok.above,ok.inj,ok.has,ok.cab,ok.hd,ok.frames,ok.stk,ok.exf,ok.bs,ok.bsz,ok.noex,ok.exfs,ok.funs,ok.frf⟩
¶Cx.Ok.unwish{X:Cx}{E:Value->Shared->Prop}(ok:(X.wish E).Ok):X.Ok :=
 ⟨ok.mod,ok.kind,ok.glob,ok.blt,ok.above,ok.inj,ok.has,ok.cab,ok.hd,ok.frames,ok.stk,ok.exf,ok.bs,ok.bsz,ok.noex,ok.exfs,ok.funs,ok.frf⟩
section
variable{X:Cx}{pins:List (Addr×Obj)}{σ:St}{H:Hp}{s:Shared}{E:Value->Shared->Prop}
¶Inv.wish(I:Inv X pins σ H s)(E:Value->Shared->Prop):Inv (X.wish E) pins σ H s:=⟨I.ok.wish E,I.os,I.bare,I.base,I.loc,I.cell,I.free,I.freeC,I.pin,I.hok,I.len⟩
¶Inv.unwish(I:Inv (X.wish E) pins σ H s):Inv X pins σ H s:=⟨I.ok.unwish,I.os,I.bare,I.base,I.loc,I.cell,I.free,I.freeC,I.pin,I.hok,I.len⟩
¶SP.unwish{D:Ends}{f:Flow}{s':Shared}(h:SP (X.wish E) pins D f s'):SP X pins D f s':=by
 cases f with
 | next=>#⟨σ',H',I,q⟩:=h;~⟨σ',H',I.unwish,q⟩
 | brk=>#⟨σ',H',I,q⟩:=h;~⟨σ',H',I.unwish,q⟩
 | cont=>#⟨σ',H',I,q⟩:=h;~⟨σ',H',I.unwish,q⟩
 | ret u=>#⟨v,σ',H',I,r,q⟩:=h;~⟨v,σ',H',I.unwish,r,q⟩
¶PSs.nox{st:List Stmt}{t:TS}(h:PSs X.nox st t):PSs X st t:=λpins s σ H D I hw =>
 ABi (h pins s σ H D (I.wish _) hw) (λ_ _ q=>q.unwish) λ_ _ z=>AD2 z
end
section
variable{X:Cx}{st:Stmt}{bn:List Stmt}{t u:TS}{e:Expr}{te:TE}{pos:Pos}
def tNext:TS:=λD σ H=>D.nx σ H
def tSeq(t u:TS):TS:=λD σ H=>t { D with nx:=u D } σ H
¶JB:PSs X [] tNext:=λ_ _ σ H _ I h=>wpAny_execs_nil ⟨σ,H,I,h⟩
¶Gk(h1:PS X st t)(h2:PSs X bn u):PSs X (st::bn) (tSeq t u):=by
 intro pins s σ H D I h
 !wpAny_execs_cons (thn (h1 pins s σ H { D with nx:=u D } I h) λf s1 q=>?_)
 cases f with
 | next =>
  #⟨σ',H',I',q⟩:=q
  ~h2 pins s1 σ' H' D I' q
 | ret v=>~q
 | brk=>~q
 | cont=>~q
¶JA(h1:PS X st t):PSs X [st] t:=by
 intro pins s σ H D I h
 !wpAny_execs_cons (thn (h1 pins s σ H D I h) λf s1 q=>?_)
 cases f with
 | next=>~wpAny_execs_nil q
 | ret v=>~q
 | brk=>~q
 | cont=>~q
¶Inv.quiet{pins:List (Addr×Obj)}{σ:St}{H:Hp}{s:Shared}(I:Inv X pins σ H s):interactive X.env=false:=by simp[interactive,I.ok.kind]
def tDrop(te:TE):TS:=λD σ H=>te σ H λ_ H1=>D.nx σ H1
¶JC(he:PE X e te)(hs:swapsWith e none pos.line X.env=pure false:=by rfl):PS X (.Expr e pos) (tDrop te):=by
 intro pins s σ H D I h
 ~wpAny_Expr_any (thn (he pins s σ H _ I h) λv s1 ⟨x,H1,I1,r1,q1⟩=>⟨σ,H1,I1,q1⟩) I.quiet hs
def tRet(te:TE):TS:=λD σ H=>te σ H D.rt
¶Mo(he:PE X e te):PS X (.Return (some e) pos) (tRet te):=by
 intro pins s σ H D I h
 ~wpAny_Return_some (thn (he pins s σ H _ I h) λv s1 ⟨x,H1,I1,r1,q1⟩=>⟨x,σ,H1,I1,r1,q1⟩)
def tIfS(c:TT)(t u:TS):TS:=λD σ H=>c σ H λb H1=>if b=true then t D σ H1 else u D σ H1
¶ps_if{c:Expr}{a b:List Stmt}{tc:TT}(hc:PT X c tc)(ha:PSs X a t)(hb:PSs X b u):PS X (.If c a b pos) (tIfS tc t u):=by
 intro pins s σ H D I h
 !wpAny_If (thn (hc pins s σ H _ I h) λd s1 ⟨H1,I1,q1⟩=>?_)
 cases d with
 | true=>~ha pins s1 σ H1 D I1 q1
 | false=>~hb pins s1 σ H1 D I1 q1
end
abbrev TG:=V->St->Hp->(St->Hp->Prop)->Prop
abbrev TGs:=List V->St->Hp->(St->Hp->Prop)->Prop
def PG(X:Cx)(target:Expr)(t:TG):Prop :=
 ∀(pins:List (Addr×Obj)) (s:Shared) (σ:St) (H:Hp) (v:V) (u:Value) (Q:St->Hp->Prop),Inv X pins σ H s->bi v u->t v σ H Q ->
  wpAny (model X.prog X.w) X.A (assign target X.env u) (λ_ s'=>∃σ' H',Inv X pins σ' H' s'/\Q σ' H') X.xe s
def PGs(X:Cx)(ts:List Expr)(t:TGs):Prop :=
 ∀(pins:List (Addr×Obj)) (s:Shared) (σ:St) (H:Hp) (vs:List V) (us:List Value) (Q:St->Hp->Prop),Inv X pins σ H s->aL vs us->t vs σ H Q ->
  wpAny (model X.prog X.w) X.A (assignInOrder ((assignEach ts X.env).map (·.2)) us) (λ_ s'=>∃σ' H',Inv X pins σ' H' s'/\Q σ' H') X.xe s
abbrev TSet:=V->V->V->Hp->(Hp->Prop)->Prop
def PSet(X:Cx)(t:TSet):Prop :=
 ∀(pins:List (Addr×Obj)) (s:Shared) (σ:St) (H:Hp) (o i v:V) (ov iv u:Value) (Q:Hp->Prop),Inv X pins σ H s->bi o ov->bi i iv->bi v u->t o i v H Q ->
  wpAny (model X.prog X.w) X.A (setItem ov iv u) (λ_ s'=>∃H',Inv X pins σ H' s'/\Q H') X.xe s
section
variable{X:Cx}{pos:Pos}
def NI(i:Nat):TG:=λv σ H Q=>Q (σ.set i (some v)) H
¶JI{i:Nat}{x:Str}(hN:X.N.Nodup)(hi:X.N[i]?=some x)(hx:Loc X.env.scope x)(hf:X.fn x=true\/X.env.scope.names.lookup x=some .local:=by first | ~.inl rfl | ~.inr rfl | assumption):PG X (.Name x pos) (NI i):=by
 intro pins s σ H v u Q I r h
 ~wpAny_assign_Name (zv I hN hi hx r (λs' I'=>⟨_,H,I',h⟩) hf)
def gNil:TGs:=λvs σ H Q=>vs=[]/\Q σ H
def gCons(t:TG)(u:TGs):TGs:=λvs σ H Q=>∃v r,vs=v::r/\t v σ H λσ' H'=>u r σ' H' Q
¶JH:PGs X [] gNil:=by
 intro pins s σ H vs us Q I r h
 #⟨e,h⟩:=h
 subst e
 cases r
 ~assignInOrder_nil ⟨σ,H,I,h⟩
¶Gp{e:Expr}{es:List Expr}{t:TG}{u:TGs}(h1:PG X e t)(h2:PGs X es u)
  (hs:(assignEach (e::es) X.env).map (·.2)=assign e X.env::(assignEach es X.env).map (·.2):=by rfl):PGs X (e::es) (gCons t u):=by
 intro pins s σ H vs us Q I r h
 #⟨v,vr,e1,h⟩:=h
 subst e1
 cases r with
 | cons r rr =>
  rw[hs]
  !assignInOrder_cons (thn (h1 pins s σ H _ _ _ I r h) λ_ s1 ⟨σ1,H1,I1,q1⟩=>?_)
  ~h2 pins s1 σ1 H1 _ _ Q I1 rr q1
def gTup(K:AA5)(n:Nat)(t:TGs):TG:=λv σ H Q=>∃a xs,v=.ref a/\SqT K H a xs/\xs.length=n/\t xs σ H Q
¶Ms{es:List Expr}{k:Nat}{t:TGs}{n:Nat}(hc:X.calm=true)(h:PGs X es t)
  (hn:(assignEach es X.env).length=n:=by rfl) (hst:(assignEach es X.env).findIdx? (·.1)=none:=by rfl):PG X (.Tuple es k pos) (gTup X.K n t):=by
 intro pins s σ H v u Q I r hw
 #⟨a,xs,e1,hq,hl,hw⟩:=hw
 subst e1
 cases r
 #⟨its,rv,ht,hz⟩:=I.tuple hq
 !assign_Tuple_tuple (I.ok.hd hc) ht (by simp[hn,←hl,rv.length]) hst λh' hx=>?_
 have I1:Inv X pins σ H { s with heap:=h' }:=I.kept (t':=s.toks) λb o e=>hx b o (AAQ (AAG e)) e
 ~h pins _ σ H xs _ Q I1 (by simpa using rv) hw
def gSub(to ti:TE)(t:TSet):TG:=λv σ H Q=>to σ H λo H1=>ti σ H1 λi H2=>t o i v H2 λH3=>Q σ H3
¶Mt{o i:Expr}{to ti:TE}{t:TSet}(ho:PE X o to)(hi:PE X i ti)(hs:PSet X t)
  (ha:∀v,assign (.Subscript o i pos) X.env v=(do
   let ov ←holding [v] (eval o X.env)
   let iv ←holding [v,ov] (eval i X.env)
   standAt pos
   holding [v,ov,iv] (setItem ov iv v)
   release [v,ov,iv] []):=by intro _;rfl):PG X (.Subscript o i pos) (gSub to ti t):=by
 intro pins s σ H v u Q I r h
 rw[ha]
 !AA0 (AAp (thn (ho pins s σ H _ I h) λov s1 ⟨x,H1,I1,r1,q1⟩=>?_))
 !AA0 (AAp (thn (hi pins s1 σ H1 _ I1 q1) λiv s2 ⟨y,H2,I2,r2,q2⟩=>?_))
 !AA0 (wpAny_standAt (AA0 (AAp (thn (hs pins s2 σ H2 x y v ov iv u _ I2 r1 r2 r q2) λ_ s3 ⟨H3,I3,q3⟩=>?_))))
 ~wpAny_release ⟨σ,H3,I3,q3⟩
def tAsg(te:TE)(g:TG):TS:=λD σ H=>te σ H λx H1=>g x σ H1 D.nx
¶Mq{tg e:Expr}{te:TE}{g:TG}(he:PE X e te)(hg:PG X tg g)(hs:swapsWithSole [tg] e pos.line X.env=pure false:=by rfl)(hw:swappedStores [tg] e X.env=pure none:=by rfl)
  (h1:(assignEach [tg] X.env).map (·.2)=[assign tg X.env]:=by rfl):PS X (.Assign [tg] e pos) (tAsg te g):=by
 intro pins s σ H D I h
 !wpAny_Assign_stores (thn (he pins s σ H _ I h) λv s1 ⟨x,H1,I1,r1,q1⟩=>?_) hs hw
 rw[h1]
 ~thn (hg pins s1 σ H1 x v _ I1 r1 q1) λ_ s2 q=>q
¶Mn{i:Nat}{x:Str}{e:Expr}{te:TE}{pos':Pos}(hN:X.N.Nodup)(hi:X.N[i]?=some x)(hx:Loc X.env.scope x)(he:PE X e te)(hs:swapsWith e (some (.Name x pos')) pos.line X.env=pure false:=by rfl)(hf:X.fn x=true\/X.env.scope.names.lookup x=some .local:=by first | ~.inl rfl | ~.inr rfl | assumption) :
  PS X (.Assign [.Name x pos'] e pos) (tAsg te (NI i)):=by
 intro pins s σ H D I h
 !wpAny_Assign_Name (thn (he pins s σ H _ I h) λv s1 ⟨y,H1,I1,r1,q1⟩=>?_) hs
 ~zv I1 hN hi hx r1 (λs2 I2=>⟨_,H1,I2,q1⟩) hf
end
section
variable{X:Cx}{pos:Pos}
end
structure It where
 go:Nat->Hp->Prop
 yld:Nat->Hp->V->Hp->Prop
 stop:Nat->Hp->Prop
def An(X:Cx)(pins:List (Addr×Obj))(H:Hp)(b:Addr):Prop :=
 H b=none/\b≠X.env.locals/\b∉X.fs/\(b∈X.ex\/X.s₀.heap.objs.size<=b)/\(∀x c,X.env.cells.lookup x=some c->c≠b)/\∀p∈X.pn++pins,p.1≠b
¶Inv.fpOk{X:Cx}{pins:List (Addr×Obj)}{σ:St}{H H':Hp}{s:Shared}{b:Addr}(I:Inv X pins σ H s)(hb:s.heap.objs.size<=b)(hn:H' b=none):An X pins H' b:=by
 !⟨hn,ABU (AAd I.lt hb),I.nofs hb,.inr (ABN I.sz hb),λx c e z=>?_,λp hp z=>?_⟩
 ·#⟨v,q⟩:=I.cell x c e
  ~absurd (AAd q.lt (by rw[z];~hb)) (AAq _)
 ·~absurd (AAd (AAG (I.pin p hp).1) (by rw[z];~hb)) (AAq _)
structure Turn(P:Program)(w:World)(K:AA5)(tg:Expr)(J:It)(fp:List Addr)(it:Addr)(tn:Nat->Heap->Prop):Prop where
 mem:it∈fp
 obj:∀i h,tn i h->∀b∈fp,∃o,h.get? b=some o/\∀v,o.data≠.cell v
 keep:∀i h h',tn i h->(∀b∈fp,∀o,h.get? b=some o->h'.get? b=some o)->tn i h'
 item:∀(X:Cx),X.prog=P->X.w=w->X.K=K->X.calm=true->∀(i:Nat) (pins:List (Addr×Obj)) (s:Shared) (σ:St) (H:Hp) (E:Value->Shared->Prop),Inv X pins σ H s->(∀b∈fp,An X pins H b)->tn i s.heap->J.go i H ->
  wpAny (model P w) X.A (pyNext (.ref it)) (λr s1=>∃u,r=some u /\
   wpAny (model P w) X.A (letOwnedTupleGo tg (.ref it) u) (λ_ s2=>∃x H',Inv X pins σ H' s2/\bi x u/\J.yld i H x H'/\tn (i+1) s2.heap/\∀b∈fp,H' b=none) E s1) E s
 done:∀(X:Cx),X.prog=P->X.w=w->X.K=K->X.calm=true->∀(i:Nat) (pins:List (Addr×Obj)) (s:Shared) (σ:St) (H:Hp) (E:Value->Shared->Prop),Inv X pins σ H s->(∀b∈fp,An X pins H b)->tn i s.heap->J.stop i H ->
  wpAny (model P w) X.A (pyNext (.ref it)) (λr s1=>r=none/\Inv X pins σ H s1) E s
 self:∀(A:Around) (i:Nat) (s:Shared) (Q:Value->Shared->Prop) (E:Value->Shared->Prop),tn i s.heap->Q (.ref it) s->wpAny (model P w) A (pyIter (.ref it)) Q E s
abbrev TI:=St->Hp->(It->Hp->Prop)->Prop
inductive PIE(X:Cx)(pins:List (Addr×Obj))(σ:St)(tg:Expr)(R:It->Hp->Prop)(itv:Value)(s2:Shared):Prop
 | mk (it:Addr) (fp:List Addr) (tn:Nat->Heap->Prop) (J:It) (H':Hp) (f0:itv=.ref it) (f1:Inv X pins σ H' s2) (f2:Turn X.prog X.w X.K tg J fp it tn) (f3:tn 0 s2.heap) (f4:(∀b∈fp,An X pins H' b)) (f5:R J H')
def PI(X:Cx)(tg iter:Expr)(wi:TI):Prop :=
 ∀(pins:List (Addr×Obj)) (s:Shared) (σ:St) (H:Hp) (R:It->Hp->Prop),Inv X pins σ H s->wi σ H R ->
  wpAny (model X.prog X.w) X.A (eval iter X.env) (λv s1=>wpAny (model X.prog X.w) X.A (pyIter v) (PIE X pins σ tg R) X.xe s1) X.xe s
¶Ho{M:Model}{A:Around}{E:Value->Shared->Prop}{s:Shared}{tg:Expr}{it:Addr}{u:Value}{o:Obj}{n:String}{vs:Array Value}{Q:Unit->Shared->Prop}(ho:s.heap.get? it=some o)(hc:o.cls=.type n)(hd:o.data=.fields vs)
  (hn:["enumerate","zip","dict_itemiterator","dict_reverseitemiterator","odict_iterator","itertools.zip_longest","itertools.pairwise"].contains n=false) (hQ:Q () s):wpAny M A (letOwnedTupleGo tg (.ref it) u) Q E s:=by
 unfold letOwnedTupleGo
 cases tg<;>first
  | ~AA3 hQ
  | (cases u<;>first
    | ~AA3 hQ
    | (!AA0 (wpAny_load ho ?_);rw[hc,hd];show wpAny M A (if (["enumerate","zip","dict_itemiterator","dict_reverseitemiterator","odict_iterator","itertools.zip_longest","itertools.pairwise"].contains n&&vs[0]?==some (rawInt _))=true then _ else _) Q E s;rw[if_neg (by intro h;rw[hn,AAw]at h;cases h)];~AA3 hQ))
def Itl(K:AA5)(a:Addr):It :=
 ⟨λi H=>∃xs x,SqL K H a xs/\xs[i]?=some x,λi H x H'=>H'=H/\∀xs,SqL K H a xs->xs[i]?=some x,λi H=>∃xs,SqL K H a xs/\xs.length<=i⟩
def Itt(K:AA5)(a:Addr):It :=
 ⟨λi H=>∃xs x,SqT K H a xs/\xs[i]?=some x,λi H x H'=>H'=H/\∀xs,SqT K H a xs->xs[i]?=some x,λi H=>∃xs,SqT K H a xs/\xs.length<=i⟩
def Itr(lo:Int)(n:Nat):It:=⟨λi _=>i<n,λi H x H'=>H'=H/\x=.int (lo+i),λi _=>n<=i⟩
¶BW{P:Program}{w:World}{K:AA5}{tg:Expr}(a it:Addr):Turn P w K tg (Itl K a) [it] it (λi h=>h.IsListIter it a i) where
 mem:=by simp
 obj:=λi h st b hb=>by
  have e:b=it:=by simpa using hb
  subst e
  #⟨o,e,c,d⟩:=st
  ~⟨o,e,λv z=>by rw[d]at z;cases z⟩
 keep:=λi h h' st k=>st.at λo e=>k it (by simp) o e
 item:=by
  intro X hP hw hK hc i pins s σ H E I hf st hg
  subst hP hw hK
  #⟨xs,x,hq,hx⟩:=hg
  #⟨its,rv,p,hz⟩:=I.list hq
  #⟨u,hu,ru⟩:=rv.get hx
  #⟨f0,f1,f2,f3,f4,f5⟩:=hf it (by simp)
  !wpAny_pyNext_list_item st p.isList (x:=u) (by simpa using hu) λh' st' sb=>?_
  have I1:Inv X pins σ H { s with heap:=h' }:=I.turned (t':=s.toks) (λb o hb e=>(sb.2 b hb).trans e) f0 f1 f3 f4 f5
  #⟨o,e,c,d⟩:=id st'
  ~⟨u,rfl,Ho (s:={ s with heap:=h' }) e c d (by decide) ⟨x,H,I1,ru,⟨rfl,λys hy=>by rw[I.list_inj hy hq];~hx⟩,st',λb hb=>(hf b hb).1⟩⟩
 done:=by
  intro X hP hw hK hc i pins s σ H E I hf st hg
  subst hP hw hK
  #⟨xs,hq,hx⟩:=hg
  #⟨its,rv,p,hz⟩:=I.list hq
  #⟨f0,f1,f2,f3,f4,f5⟩:=hf it (by simp)
  have hl:=rv.length
  ~wpAny_pyNext_list_end (I.ok.hd hc) st p.isList (by simp;&) λh' eb=>⟨rfl,I.turned (t':=s.toks) (λb o hb e=>eb b o hb e) f0 f1 f3 f4 f5⟩
 self:=λ_ _ _ _ _ st h=>wpAny_pyIter_listiter st h
¶AC{P:Program}{w:World}{K:AA5}{tg:Expr}(a it:Addr):Turn P w K tg (Itt K a) [it] it (λi h=>h.IsTupleIter it a i) where
 mem:=by simp
 obj:=λi h st b hb=>by
  have e:b=it:=by simpa using hb
  subst e
  #⟨o,e,c,d⟩:=st
  ~⟨o,e,λv z=>by rw[d]at z;cases z⟩
 keep:=λi h h' st k=>st.at λo e=>k it (by simp) o e
 item:=by
  intro X hP hw hK hc i pins s σ H E I hf st hg
  subst hP hw hK
  #⟨xs,x,hq,hx⟩:=hg
  #⟨its,rv,p,hz⟩:=I.tuple hq
  #⟨u,hu,ru⟩:=rv.get hx
  #⟨f0,f1,f2,f3,f4,f5⟩:=hf it (by simp)
  !wpAny_pyNext_tuple_item st (show s.heap.IsTuple a its.toArray from p) (x:=u) (by simpa using hu) λh' st' sb=>?_
  have I1:Inv X pins σ H { s with heap:=h' }:=I.turned (t':=s.toks) (λb o hb e=>(sb.2 b hb).trans e) f0 f1 f3 f4 f5
  #⟨o,e,c,d⟩:=id st'
  ~⟨u,rfl,Ho (s:={ s with heap:=h' }) e c d (by decide) ⟨x,H,I1,ru,⟨rfl,λys hy=>by rw[I.tuple_inj hy hq];~hx⟩,st',λb hb=>(hf b hb).1⟩⟩
 done:=by
  intro X hP hw hK hc i pins s σ H E I hf st hg
  subst hP hw hK
  #⟨xs,hq,hx⟩:=hg
  #⟨its,rv,p,hz⟩:=I.tuple hq
  #⟨f0,f1,f2,f3,f4,f5⟩:=hf it (by simp)
  have hl:=rv.length
  ~wpAny_pyNext_tuple_end (I.ok.hd hc) st (show s.heap.IsTuple a its.toArray from p) (by simp;&) λh' eb=>⟨rfl,I.turned (t':=s.toks) (λb o hb e=>eb b o hb e) f0 f1 f3 f4 f5⟩
 self:=λ_ _ _ _ _ st h=>wpAny_pyIter_tupleiter st h
¶AD{P:Program}{w:World}{K:AA5}{tg:Expr}(it:Addr)(lo:Int)(n:Nat):Turn P w K tg (Itr lo n) [it] it (λi h=>IsRangeIter h it (lo+(i:Nat)*1) ((n:Int)-(i:Nat)) 1) where
 mem:=by simp
 obj:=λi h st b hb=>by
  have e:b=it:=by simpa using hb
  subst e
  ~⟨_,st,λv z=>by
   have z':Data.fields _=Data.cell v:=z
   cases z'⟩
 keep:=λi h h' st k=>k it (by simp) _ st
 item:=by
  intro X hP hw hK hc i pins s σ H E I hf st hg
  subst hP hw hK
  #⟨f0,f1,f2,f3,f4,f5⟩:=hf it (by simp)
  have W:=Walks.range (prog:=X.prog) (w:=X.w) (I.ok.hd hc) it lo 1 n
  !W.item i s _ _ hg st λv h' tk hv st' kk=>?_
  #⟨t,rfl⟩:=hv
  have I1:Inv X pins σ H { s with heap:=h',toks:=tk }:=I.turned (λb o hb e=>kk b o (by simpa using hb) e) f0 f1 f3 f4 f5
  !⟨_,rfl,Ho (s:={ s with heap:=h',toks:=tk }) (n:="range_iterator") st' rfl rfl (by decide) ⟨.int (lo+i),H,I1,⟨t,?_⟩,⟨rfl,rfl⟩,st',λb hb=>(hf b hb).1⟩⟩
  rw[Int.mul_one]
 done:=by
  intro X hP hw hK hc i pins s σ H E I hf st hg
  subst hP hw hK
  #⟨f0,f1,f2,f3,f4,f5⟩:=hf it (by simp)
  ~wpAny_pyNext_range_end (I.ok.hd hc) st (by have:n<=i:=hg;&) λh' eb=>⟨rfl,I.turned (t':=s.toks) (λb o hb e=>eb b o hb e) f0 f1 f3 f4 f5⟩
 self:=λ_ _ _ _ _ st h=>wpAny_pyIter_rangeiter st h
end L2
namespace L2
open PySem PySem.Spec PyProof.Rows
section
variable{X:Cx}{tg:Expr}
¶zG{pins:List (Addr×Obj)}{σ:St}{H:Hp}{s:Shared}{R:It->Hp->Prop}{E:Value->Shared->Prop}{lo hi:Int}{t u v:Tok}{tk:Nat}(I:Inv X pins σ H s)(h1:-(2 ^ 62)<=lo)(h2:lo<2 ^ 62)(h3:-(2 ^ 62)<=hi)(h4:hi<2 ^ 62)
  (q:R (Itr lo (hi-lo).toNat) H):wpAny (model X.prog X.w) X.A (pyIter (.ref s.heap.objs.size)) (PIE X pins σ tg R) E { s with heap:=s.heap.push { cls:=.type "range",data:=.fields #[.int lo t,.int hi u,.int 1 v] },toks:=tk }:=by
 !wpAny_pyIter_range (IsRange.new ..) (small_one h1 h2 h3 h4) ?_
 have I1:Inv X pins σ H { s with heap:=s.heap.push { cls:=.type "range",data:=.fields #[.int lo t,.int hi u,.int 1 v] },toks:=tk }:=I.kept λb o e=>AA4 _ e
 !⟨(s.heap.push { cls:=.type "range",data:=.fields #[.int lo t,.int hi u,.int 1 v] }).objs.size,[(s.heap.push { cls:=.type "range",data:=.fields #[.int lo t,.int hi u,.int 1 v] }).objs.size],_,_,H,rfl,
  I1.kept (t':=tk) λb o e=>AA4 _ e,AD _ lo (hi-lo).toNat,?_,λb hb=>?_,q⟩
 ·have e1:lo+((0:Nat):Int)*1=lo:=by simp
  have e2:(((hi-lo).toNat:Nat):Int)-((0:Nat):Int)=Builtin.Range.rangeSize lo hi 1:=by rw[rangeSize_one];split<;>&
  show IsRangeIter _ _ (lo+((0:Nat):Int)*1) ((((hi-lo).toNat:Nat):Int)-((0:Nat):Int)) 1
  rw[e1,e2]
  ~AAE _ rfl
 ·have e:b=(s.heap.push { cls:=.type "range",data:=.fields #[.int lo t,.int hi u,.int 1 v] }).objs.size:=by simpa using hb
  subst e
  ~I1.fpOk (AAC _) (I1.hok.fresh (AAC _))
def iRng1(ta:TA):TI:=λσ H R=>ta σ H λvs H1=>∃j:Int,vs=[.int j]/\-(2 ^ 62)<=j/\j<2 ^ 62/\R (Itr 0 j.toNat) H1
def iRng2(ta:TA):TI:=λσ H R=>ta σ H λvs H1=>∃i j:Int,vs=[.int i,.int j]/\(-(2 ^ 62)<=i/\i<2 ^ 62/\-(2 ^ 62)<=j/\j<2 ^ 62)/\R (Itr i (j-i).toNat) H1
¶Dl{a:Expr}{ta:TA}{p pos:Pos}(hg:Gl X "range")(hm:X.mg "range" = none)(ha:PA X [a] ta)(hs:starEach [a] X.env=[(false,eval a X.env)]:=by rfl):PI X tg (.Call (.Name "range" p) [a] [] pos) (iRng1 ta):=by
 intro pins s σ H R I h
 !Call_ (jU I hg hm boot_range (ACC (thn (ha pos pins s σ H _ I h) λus s1 ⟨vs,H1,I1,r1,q1⟩=>?_) hs rfl))
 #⟨j,e,q1,q2,q⟩:=q1
 subst e
 cases r1 with
 | cons r rr =>
  cases rr
  #⟨t,rfl⟩:=r
  ~call_range_1 (zG I1 ¤ ¤ q1 q2 (by simpa using q))
¶Dk{a b:Expr}{ta:TA}{p pos:Pos}(hg:Gl X "range")(hm:X.mg "range" = none)(ha:PA X [a,b] ta)(hs:starEach [a,b] X.env=[(false,eval a X.env),(false,eval b X.env)]:=by rfl)(hs2:starEach [b] X.env=[(false,eval b X.env)]:=by rfl) :
  PI X tg (.Call (.Name "range" p) [a,b] [] pos) (iRng2 ta):=by
 intro pins s σ H R I h
 !Call_ (jU I hg hm boot_range (ACC (thn (ha pos pins s σ H _ I h) λus s1 ⟨vs,H1,I1,r1,q1⟩=>?_) (by rw[hs,hs2]) (by rw[hs2];rfl)))
 #⟨i,j,e,⟨q1,q2,q3,q4⟩,q⟩:=q1
 subst e
 cases r1 with
 | cons r rr =>
  cases rr with
  | cons r' rr =>
   cases rr
   #⟨t,rfl⟩:=r
   #⟨t',rfl⟩:=r'
   ~call_range_2 (zG I1 q1 q2 q3 q4 q)
def tFor(wi:TI)(g:TG)(tb:TS):TS:=λD σ H=>wi σ H λJ H1=>∃W:Nat->Nat->St->Hp->Prop,(∃m,W 0 m σ H1)/\∀i m σ H,W i m σ H ->
 (J.stop i H/\D.nx σ H)\/(J.go i H/\∃N:St->Hp->Prop,(∀σ' H',N σ' H'->∃m',m' < m/\W (i+1) m' σ' H')/\∀x H',J.yld i H x H'->g x σ H' λσ2 H2=>tb { D with nx:=N,ct:=N,bk:=D.nx } σ2 H2)
def jN(fp:List Addr)(h:Heap):List (Addr×Obj):=fp.filterMap λb=>(h.get? b).map λo=>(b,o)
¶ir{fp:List Addr}{h:Heap}{b:Addr}{o:Obj}(hb:b∈fp)(e:h.get? b=some o):(b,o)∈jN fp h:=List.mem_filterMap.mpr ⟨b,hb,by rw[e];rfl⟩
¶vA{fp:List Addr}{h:Heap}{p:Addr×Obj}(hp:p∈jN fp h):p.1∈fp/\h.get? p.1=some p.2:=by
 #⟨b,hb,e⟩:=List.mem_filterMap.mp hp
 cases q:h.get? b with
 | none=>rw[q]at e;cases e
 | some o =>
  rw[q]at e
  have e':(b,o)=p:=AAR e
  subst e'
  ~⟨hb,q⟩
¶Inv.pinned{pins:List (Addr×Obj)}{σ:St}{H:Hp}{s:Shared}{fp:List Addr}(I:Inv X pins σ H s)(hf:∀b∈fp,An X pins H b)(ho:∀b∈fp,∃o,s.heap.get? b=some o/\∀v,o.data≠.cell v):Inv X (pins++jN fp s.heap) σ H s :=
 I.pins_of λp hp=>(AAk.mp hp).elim (λz=>I.pin p (AAc _ z)) λz=>by
  #⟨hb,e⟩:=vA z
  #⟨f0,f1,f2,_⟩:=hf p.1 hb
  #⟨o,e',d⟩:=ho p.1 hb
  rw[e]at e';cases e'
  ~⟨e,f0,f1,f2,d⟩
¶Inv.unpinned{pins pl:List (Addr×Obj)}{σ:St}{H:Hp}{s:Shared}(I:Inv X (pins++pl) σ H s):Inv X pins σ H s:=I.pins_of λp hp=>I.pin p (AAc _ (ACZ _ hp))
¶Mp{iter:Expr}{body:List Stmt}{wi:TI}{g:TG}{tb:TS}{pos:Pos}(hp:PassesOwn (model X.prog X.w) X.A X.env X.xe)(hc:X.calm=true)(hi:PI X tg iter wi)(hg:PG X tg g)(hb:PSs X body tb)
  (hs:∀x,foldedSetIterable iter X.env x=pure x:=by intro _;rfl):PS X (.For tg iter body [] pos) (tFor wi g tb):=by
 intro pins s σ H D I h
 !wpAny_For (thn (hi pins s σ H _ I h) λv s1 h1=>thn h1 λitv s2 h2=>?_) hs
 #⟨it,fp,tn,J,H2,e,I2,T,st2,f2,W,⟨m0,w0⟩,turn⟩:=h2
 subst e
 -- what stays true of the iterator's objects through the loop
 have stat:∀{H':Hp},(∀b∈fp,H' b=none)->∀b∈fp,An X pins H' b:=λhn b hb=>⟨hn b hb,(f2 b hb).2⟩
 !codeAny_forLoop_any (λn s'=>∃i σ' H',Inv X pins σ' H' s'/\tn i s'.heap/\(∀b∈fp,H' b=none)/\W i n σ' H') ?_ m0 ⟨0,σ,H2,I2,st2,λb hb=>(f2 b hb).1,w0⟩
 rintro n s3 ⟨i,σ3,H3,I3,st3,fr3,w3⟩
 rcases turn i n σ3 H3 w3 with⟨stop,qn⟩|⟨go,N,hN,step⟩
 ·!ADV hp (thn (T.done X rfl rfl rfl hc i pins s3 σ3 H3 X.xe I3 (stat fr3) st3 stop) λr s4 ⟨hr,I4⟩=>?_)
  subst hr
  ~wpAny_execs_nil ⟨σ3,H3,I4,qn⟩
 ·!ADV hp (thn (T.item X rfl rfl rfl hc i pins s3 σ3 H3 X.xe I3 (stat fr3) st3 go) λr s4 ⟨u,hr,h4⟩=>?_)
  subst hr
  !ADV hp (thn h4 λ_ s5 ⟨x,H5,I5,r5,y5,st5,fr5⟩=>?_)
  have I5':=I5.pinned (stat fr5) (T.obj _ _ st5)
  !ADV hp (thn (hg _ s5 σ3 H5 x u _ I5' r5 (step x H5 y5)) λ_ s6 ⟨σ6,H6,I6,q6⟩=>?_)
  !ADV hp (thn (hb _ s6 σ6 H6 _ I6 q6) λf s7 q7=>?_)
  have again:∀{σ7:St}{H7:Hp},Inv X (pins++jN fp s5.heap) σ7 H7 s7->N σ7 H7->∃m,m<n/\∃i σ' H',Inv X pins σ' H' s7/\tn i s7.heap/\(∀b∈fp,H' b=none)/\W i m σ' H':=λ{σ7 H7} I7 n7=>by
   #⟨m',hm,w7⟩:=hN σ7 H7 n7
   !⟨m',hm,i+1,σ7,H7,I7.unpinned,T.keep _ _ _ st5 λb hb o e=>(I7.pin (b,o) (AAc _ (AAc _ (ir hb e)))).1,λb hb=>?_,w7⟩
   #⟨o,e,d⟩:=T.obj _ _ st5 b hb
   ~(I7.pin (b,o) (AAc _ (AAc _ (ir hb e)))).2.1
  cases f with
  | next=>#⟨σ7,H7,I7,n7⟩:=q7;~again I7 n7
  | cont=>#⟨σ7,H7,I7,n7⟩:=q7;~again I7 n7
  | brk=>#⟨σ7,H7,I7,q7⟩:=q7;~⟨σ7,H7,I7.unpinned,q7⟩
  | ret v=>#⟨x7,σ7,H7,I7,r7,q7⟩:=q7;~⟨x7,σ7,H7,I7.unpinned,r7,q7⟩
end
end L2
namespace L2
open PySem PySem.Spec PyProof.Rows
abbrev R2:=V->V->Hp->VK->Prop
def OpR(X:Cx)(f:Value->Value->Sem Value)(r:R2):Prop :=
 ∀(pins:List (Addr×Obj)) (s:Shared) (σ:St) (H:Hp) (x y:V) (v u:Value) (Q:VK),Inv X pins σ H s->bi x v->bi y u->r x y H Q ->
  wpAny (model X.prog X.w) X.A (f v u) (EP X pins σ Q) X.xe s
def UnR(X:Cx)(f:Value->Sem Value)(r:V->Hp->VK->Prop):Prop :=
 ∀(pins:List (Addr×Obj)) (s:Shared) (σ:St) (H:Hp) (x:V) (v:Value) (Q:VK),Inv X pins σ H s->bi x v->r x H Q ->
  wpAny (model X.prog X.w) X.A (f v) (EP X pins σ Q) X.xe s
def fY(X:Cx)(f:Value)(r:List V->Hp->VK->Prop):Prop :=
 ∀(pins:List (Addr×Obj)) (s:Shared) (σ:St) (H:Hp) (xs:List V) (us:List Value) (Q:VK),Inv X pins σ H s->aL xs us->r xs H Q ->
  wpAny (model X.prog X.w) X.A (call f us) (EP X pins σ Q) X.xe s
def tOp(r:R2)(ta tb:TE):TE:=λσ H Q=>ta σ H λx H1=>tb σ H1 λy H2=>r x y H2 Q
def tUn(r:V->Hp->VK->Prop)(ta:TE):TE:=λσ H Q=>ta σ H λx H1=>r x H1 Q
def rI(C:Int->Int->Prop)(g:Int->Int->V):R2:=λx y H Q=>∃i j,x=.int i/\y=.int j/\C i j/\Q (g i j) H
def rI0(g:Int->Int->V):R2:=λx y H Q=>∃i j,x=.int i/\y=.int j/\Q (g i j) H
def rU(g:Int->V):V->Hp->VK->Prop:=λx H Q=>∃i,x=.int i/\Q (g i) H
section
variable{X:Cx}{a b c:Expr}{ta tb tc:TE}{pos:Pos}
¶binT(ha:PE X a ta)(hb:PE X b tb){pins:List (Addr×Obj)}{s:Shared}{σ:St}{H:Hp}{R:V->V->Hp->Prop}(I:Inv X pins σ H s)
  (h:ta σ H λx H1=>tb σ H1 λy H2=>R x y H2) {Q:Value->Shared->Prop}{f:Value->Value->Sem Value}
  (hf:∀v u s2 x y H2,Inv X pins σ H2 s2->bi x v->bi y u->R x y H2->wpAny (model X.prog X.w) X.A (f v u) Q X.xe s2) :
  wpAny (model X.prog X.w) X.A (eval a X.env) (λv s₁=>wpAny (model X.prog X.w) X.A (eval b X.env) (λu s₂=>wpAny (model X.prog X.w) X.A (f v u) Q X.xe s₂) X.xe s₁) X.xe s:=by
 !thn (ha pins s σ H _ I h) λv s1 ⟨x,H1,I1,r1,q1⟩=>?_
 !thn (hb pins s1 σ H1 _ I1 q1) λu s2 ⟨y,H2,I2,r2,q2⟩=>?_
 ~hf v u s2 x y H2 I2 r1 r2 q2
¶pe_op{op:Operator}{r:R2}(ho:OpR X (binaryOp op) r)(ha:PE X a ta)(hb:PE X b tb):PE X (.BinOp a op b pos) (tOp r ta tb):=by
 intro pins s σ H Q I h
 ~wpAny_BinOp (binT ha hb I h λv u s2 x y H2 I2 rx ry q=>ho pins s2 σ H2 x y v u Q I2 rx ry q)
¶pe_un{op:UnaryOp}{r:V->Hp->VK->Prop}(ho:UnR X (unaryOp op) r)(ha:PE X a ta):PE X (.UnaryOp op a pos) (tUn r ta):=by
 intro pins s σ H Q I h
 ~UnaryOp_ (thn (ha pins s σ H _ I h) λv s1 ⟨x,H1,I1,r1,q1⟩=>ho pins s1 σ H1 x v Q I1 r1 q1)
¶opI{f:Value->Value->Sem Value}{C:Int->Int->Prop}{g:Int->Int->Int}
  (rule:∀(i j:Int) (t u:Tok) (s:Shared) (Q:Value->Shared->Prop) (E:Value->Shared->Prop),C i j->Q (.int (g i j) s.toks) { s with toks:=s.toks+1 }->wpAny (model X.prog X.w) X.A (f (.int i t) (.int j u)) Q E s) :
  OpR X f (rI C λi j=>.int (g i j)):=by
 intro pins s σ H x y v u Q I rx ry h
 #⟨i,j,rfl,rfl,hc,q⟩:=h
 #⟨t,rfl⟩:=rx
 #⟨t',rfl⟩:=ry
 ~rule i j t t' s _ _ hc ⟨.int (g i j),H,I.tok _,⟨_,rfl⟩,q⟩
¶opI0{f:Value->Value->Sem Value}{g:Int->Int->Int}
  (rule:∀(i j:Int) (t u:Tok) (s:Shared) (Q:Value->Shared->Prop) (E:Value->Shared->Prop),Q (.int (g i j) s.toks) { s with toks:=s.toks+1 }->wpAny (model X.prog X.w) X.A (f (.int i t) (.int j u)) Q E s) :
  OpR X f (rI0 λi j=>.int (g i j)):=by
 intro pins s σ H x y v u Q I rx ry h
 #⟨i,j,rfl,rfl,q⟩:=h
 #⟨t,rfl⟩:=rx
 #⟨t',rfl⟩:=ry
 ~rule i j t t' s _ _ ⟨.int (g i j),H,I.tok _,⟨_,rfl⟩,q⟩
¶opB0{f:Value->Value->Sem Value}{g:Int->Int->Bool}
  (rule:∀(i j:Int) (t u:Tok) (s:Shared) (Q:Value->Shared->Prop) (E:Value->Shared->Prop),Q (.bool (g i j)) s->wpAny (model X.prog X.w) X.A (f (.int i t) (.int j u)) Q E s) :
  OpR X f (rI0 λi j=>.bl (g i j)):=by
 intro pins s σ H x y v u Q I rx ry h
 #⟨i,j,rfl,rfl,q⟩:=h
 #⟨t,rfl⟩:=rx
 #⟨t',rfl⟩:=ry
 ~rule i j t t' s _ _ ⟨.bl (g i j),H,I,rfl,q⟩
def LH(i j:Int):Prop:=0<=j/\j<=1000000/\i.natAbs<2 ^ 64
def CMul(i j:Int):Prop:=(-(2 ^ 64)<i/\i<2 ^ 64)\/(-(2 ^ 64)<j/\j<2 ^ 64)
¶CMul.ok{i j:Int}(h:CMul i j):IntMulOk i j:=by
 rcases h with⟨h1,h2⟩|⟨h1,h2⟩
 ·~.of_left (intBits_le_64 h1 h2)
 ·~.of_right (intBits_le_64 h1 h2)
¶MM:OpR X (binaryOp .Add) (rI0 λi j=>.int (i+j)):=opI0 λ_ _ _ _ _ _ _ q=>add_int q
¶MH:OpR X (binaryOp .Sub) (rI0 λi j=>.int (i-j)):=opI0 λ_ _ _ _ _ _ _ q=>sub_int q
¶MJ:OpR X (binaryOp .Mult) (rI CMul λi j=>.int (i*j)):=opI λ_ _ _ _ _ _ _ hc q=>mul_int q hc.ok
¶MK:OpR X (binaryOp .Mod) (rI (λ_ j=>0<j) λi j=>.int (i % j)):=opI λi j _ _ _ _ _ hc q=>by
 have h1:(0:Int)<j:=hc
 ~mod_int' ¤ (by rw[Int.fmod_eq_emod_of_nonneg i ¤];~q)
¶MI:OpR X (binaryOp .Pow) (rI LH λi j=>.int (i ^ j.toNat)):=opI λ_ _ _ _ _ _ _ hc q=>pow_int_small hc.1 hc.2.1 hc.2.2 q
¶unI{f:Value->Sem Value}{g:Int->Int}
  (rule:∀(i:Int) (t:Tok) (s:Shared) (Q:Value->Shared->Prop) (E:Value->Shared->Prop),Q (.int (g i) s.toks) { s with toks:=s.toks+1 }->wpAny (model X.prog X.w) X.A (f (.int i t)) Q E s) :
  UnR X f (rU λi=>.int (g i)):=by
 intro pins s σ H x v Q I rx h
 #⟨i,rfl,q⟩:=h
 #⟨t,rfl⟩:=rx
 ~rule i t s _ _ ⟨.int (g i),H,I.tok _,⟨_,rfl⟩,q⟩
¶LM:UnR X (unaryOp .USub) (rU λi=>.int (-i)):=unI λ_ _ _ _ _ q=>neg_int q
end
section
variable{X:Cx}{a b c:Expr}{ta tb tc:TE}{pos:Pos}
¶op_lt:OpR X (compareOp .Lt) (rI0 λi j=>.bl (decide (i<j))):=opB0 λ_ _ _ _ _ _ _ q=>lt_int q
¶op_le:OpR X (compareOp .LtE) (rI0 λi j=>.bl (decide (i<=j))):=opB0 λ_ _ _ _ _ _ _ q=>le_int q
¶op_gt:OpR X (compareOp .Gt) (rI0 λi j=>.bl (decide (j<i))):=opB0 λ_ _ _ _ _ _ _ q=>gt_int q
¶op_ge:OpR X (compareOp .GtE) (rI0 λi j=>.bl (decide (j<=i))):=opB0 λ_ _ _ _ _ _ _ q=>ge_int q
¶OpR.or{f:Value->Value->Sem Value}{r r':R2}(h:OpR X f r)(h':OpR X f r'):OpR X f (λx y H Q=>r x y H Q\/r' x y H Q):=by
 intro pins s σ H x y v u Q I rx ry q
 rcases q with q | q
 ·~h pins s σ H x y v u Q I rx ry q
 ·~h' pins s σ H x y v u Q I rx ry q
¶JK{op:CmpOp}{r:R2}(ho:OpR X (compareOp op) r)(ha:PE X a ta)(hb:PE X b tb)(hm:behindInMarks op b=false):PE X (.Compare a [op] [b] pos) (tOp r ta tb):=by
 intro pins s σ H Q I h
 ~wpAny_Compare1 (binT ha hb I h λv u s2 x y H2 I2 rx ry q=>ho pins s2 σ H2 x y v u Q I2 rx ry q) hm
def Jj(t:TE):TT:=λσ H Q=>t σ H λx H'=>∃k,x=.bl k/\Q k H'
¶Dg{op:CmpOp}{r:R2}(ho:OpR X (compareOp op) r)(ha:PE X a ta)(hb:PE X b tb)(hm:behindInMarks op b=false):PT X (.Compare a [op] [b] pos) (Jj (tOp r ta tb)):=by
 intro pins s σ H Q I h
 !wpAny_isTrue_Compare1 (thn (ha pins s σ H _ I h) λv s1 ⟨x,H1,I1,r1,q1⟩=>thn (hb pins s1 σ H1 _ I1 q1) λu s2 ⟨y,H2,I2,r2,q2⟩ =>
  thn (ho pins s2 σ H2 x y v u _ I2 r1 r2 q2) λc s3 ⟨z,H3,I3,r3,k,e,q3⟩=>?_) hm
 subst e
 cases r3
 ~ABj ⟨H3,I3,q3⟩
def Cv(r r':R2)(ta tb tc:TE):TE:=λσ H Q=>ta σ H λx H1=>tb σ H1 λy H2=>r x y H2 λz H3=>∃k,z=.bl k /\
 (if k=true then tc σ H3 λw' H4=>r' y w' H4 Q else Q (.bl false) H3)
¶Gr{op op':CmpOp}{r r':R2}(ho:OpR X (compareOp op) r)(ho':OpR X (compareOp op') r')(ha:PE X a ta)(hb:PE X b tb)(hc:PE X c tc)
  (hm:lastMarks [op,op'] [b,c]=false:=by with_unfolding_all rfl):PE X (.Compare a [op,op'] [b,c] pos) (Cv r r' ta tb tc):=by
 intro pins s σ H Q I h
 !Compare_chain (thn (ha pins s σ H _ I h) λv s1 ⟨x,H1,I1,r1,q1⟩=>chain_link (thn (hb pins s1 σ H1 _ I1 q1) λu s2 ⟨y,H2,I2,r2,q2⟩ =>
  thn (ho pins s2 σ H2 x y v u _ I2 r1 r2 q2) λd s3 ⟨z,H3,I3,r3,k,e,q3⟩=>?_)) hm
 subst e
 cases r3
 !ABj ?_
 cases k with
 | false=>~ite_ff ⟨.bl false,H3,I3,rfl,q3⟩
 | true=>~ite_tt (chain_last (thn (hc pins s3 σ H3 _ I3 q3) λw' s4 ⟨z',H4,I4,r4,q4⟩=>ho' pins s4 σ H4 y z' u w' Q I4 r2 r4 q4))
¶Gj{op op':CmpOp}{r r':R2}(ho:OpR X (compareOp op) r)(ho':OpR X (compareOp op') r')(ha:PE X a ta)(hb:PE X b tb)(hc:PE X c tc)
  (hm:lastMarks [op,op'] [b,c]=false:=by with_unfolding_all rfl):PT X (.Compare a [op,op'] [b,c] pos) (Jj (Cv r r' ta tb tc)):=by
 intro pins s σ H Q I h
 !isTrue_chain (thn (ha pins s σ H _ I h) λv s1 ⟨x,H1,I1,r1,q1⟩=>test_link (thn (hb pins s1 σ H1 _ I1 q1) λu s2 ⟨y,H2,I2,r2,q2⟩ =>
  thn (ho pins s2 σ H2 x y v u _ I2 r1 r2 q2) λd s3 ⟨z,H3,I3,r3,k,e,q3⟩=>?_)) hm
 subst e
 cases r3
 !ABj ?_
 cases k with
 | false =>
  #⟨k',e',q'⟩:=q3
  cases e'
  ~ite_ff ⟨H3,I3,q'⟩
 | true =>
  !ite_tt (test_last (thn (hc pins s3 σ H3 _ I3 q3) λw' s4 ⟨z',H4,I4,r4,q4⟩=>thn (ho' pins s4 σ H4 y z' u w' _ I4 r2 r4 q4) λd' s5 ⟨z2,H5,I5,r5,k2,e2,q5⟩=>?_))
  subst e2
  cases r5
  ~ABj ⟨H5,I5,q5⟩
¶qC:(sizeLine:Nat)<2 ^ 63:=by rw[ABm];decide
¶AW:OpR X (binaryOp .Add) (λx y H Q=>∃i j,x=.str i/\y=.str j/\i.length+j.length<=sizeLine/\Q (.str (i++j)) H):=by
 intro pins s σ H x y v u Q I rx ry h
 #⟨i,j,rfl,rfl,hz,q⟩:=h
 #⟨t,rfl⟩:=rx
 #⟨t',rfl⟩:=ry
 ~add_str (λt' tk=>⟨.str (i++j),H,I.tok _,⟨_,rfl⟩,q⟩) hz
¶BV{x:V}{us:List Value}(r:aL [x] us):∃u,us=[u]/\bi x u:=by
 cases r with
 | cons r1 r2=>cases r2;~⟨_,rfl,r1⟩
¶Ia:fY X (.builtin "ord") (λxs H Q=>∃x,xs=[.str x]/\x.length=1/\Q (.int (x.cps.getD 0 0:Nat)) H):=by
 intro pins s σ H xs us Q I r h
 #⟨x,rfl,hz,q⟩:=h
 #⟨u,rfl,t,rfl⟩:=BV r
 ~ord_of_one hz ⟨.int _,H,I.tok _,⟨_,rfl⟩,q⟩
end
end L2
namespace L2
open PySem PySem.Spec PyProof.Rows
structure ObjM(h:Heap)(x dx C:Addr)(mA:Str->Option Value):Prop where
 obj:h.get? x=some (PySem.W.instObj C dx)
 ns:h.Ns1 dx mA
 ne:dx≠x
section
variable{prog:Program}{w:World}{A:Around}{E:Value->Shared->Prop}{s:Shared}{K:AA5}{x dx C f:Addr}{mA:Str->Option Value}{name:Str}{v:Value}
end
section
variable{P:Program}{w:World}{H H':Hp}{h h':Heap}{a C dx:Addr}{fs fs':List (Str×V)}
end
structure Cls(K:AA5)(C:Addr):Prop where
 pg:PySem.W.plainGet K C Str.empty=true
 hd:PySem.W.hasDictIn K C=true
 po:PySem.W.plainOver K C=true
 sa:ADu K (.ref C) "__setattr__" = some (some (.builtin "object.__setattr__"))
structure Con(K:AA5)(C:Addr)(f:Str)(v:V)(u:Value):Prop where
 at_:ADu K (.ref C) f=some (some u)
 rel:bi v u
 get:PySem.W.specialIn K u "__get__" = some none
 cp:PySem.W.copiedNames.contains f=false
structure Meth(K:AA5)(C:Addr)(m:Str)(f:Addr):Prop where
 at_:ADu K (.ref C) m=some (some (.ref f))
 fn:PySem.W.isFn K (.ref f)=true
 kp:ACU K (.ref f)=true
section
variable{X:Cx}{pins:List (Addr×Obj)}{σ:St}{H:Hp}{s:Shared}{a C dx:Addr}{fs:List (Str×V)}{f:Str}{v:V}{A:Around}{E:Value->Shared->Prop}
end
section
variable{X:Cx}{o e value:Expr}{f:Str}{pos pos' tpos:Pos}{ta tv:TE}
end
section
variable{X:Cx}{pins:List (Addr×Obj)}{σ:St}{H:Hp}{s:Shared}{A:Around}{E:Value->Shared->Prop}{Q:Value->Shared->Prop}{c:Value}{b:Bool}
inductive TyOf(K:AA5)(H:Hp):V->Value->Prop where
 | non:TyOf K H .non (.type "NoneType")
 | bl (x:Bool):TyOf K H (.bl x) (.type "bool")
 | int (i:Int):TyOf K H (.int i) (.type "int")
 | str (x:Str):TyOf K H (.str x) (.type "str")
 | flt (x:UInt64):TyOf K H (.flt x) (.type "float")
 | lst {a:Addr}{xs:List V} (e:H a=some (.lst xs)):TyOf K H (.ref a) (.type "list")
 | frz {a:Addr}{o:Obj}{xs:List V} (e:H a=some (.frz o (.lst xs))):TyOf K H (.ref a) (.type "list")
 | tup {a:Addr}{xs:List V} (e:H a=some (.tup xs)):TyOf K H (.ref a) (.type "tuple")
 | dK {a:Addr}{kvs:List (Key×V)} (e:H a=some (.dK kvs)):TyOf K H (.ref a) (.type "dict")
 | dT {a:Addr}{kvs:List (List Key×V)} (e:H a=some (.dT kvs)):TyOf K H (.ref a) (.type "dict")
 | ins {a C dx:Addr}{fs:List (Str×V)} (e:H a=some (.ins C dx fs)) (cl:Cls K C) (ha:ADu K (.ref C) "__class__" = some (some (.builtin "object.__class__")))
   (hn:PySem.W.specialIn K (.builtin "object.__class__") "__get__" = some (some (.builtin "getset_descriptor.__get__"))) (htk:PySem.W.takesIn K (.builtin "object.__class__")=some true)
   (hm:PySem.W.mroIn K C (.type "object")=some true):TyOf K H (.ref a) (.ref C)
end
end L2
namespace L2
open PySem PySem.Spec PyProof.Rows
structure Room(k:Nat)(A:Around):Prop where
 hd:A.handled=none
 dp:A.depth+3*k+5<recursionLimit
 un:A.units+16*k+200<cLine
¶Room.mono{j k:Nat}{A:Around}(r:Room k A)(h:j<=k):Room j A:=⟨r.hd,by have:=r.dp;&,by have:=r.un;&⟩
¶Room.deeper{k:Nat}{A:Around}(r:Room (k+1) A)(env:Env):Room k (A.deeper env) :=
 ⟨r.hd,by have:=r.dp;show A.depth+1+3*k+5<_;&,by have:=r.un;show A.units+3+16*k+200<_;&⟩
¶Room.depth{k:Nat}{A:Around}(r:Room k A):A.depth<recursionLimit:=by have:=r.dp;&
def tNil:TA:=λ_ H Q=>Q [] H
def tCons(ta:TE)(tr:TA):TA:=λσ H Q=>ta σ H λx H1=>tr σ H1 λxs H2=>Q (x::xs) H2
section
variable{X:Cx}{e:Expr}{es:List Expr}{te:TE}{t:TA}{pos:Pos}
¶MF:PA X [] tNil:=λ_ _ _ _ H Q I h=>ADk ⟨[],H,I,.nil,h⟩
¶JO(ha:PE X e te)(hr:PA X es t)(hs:starEach (e::es) X.env=(false,eval e X.env)::starEach es X.env:=by rfl):PA X (e::es) (tCons te t):=by
 intro pos pins s σ H Q I h
 rw[hs]
 show wpAny _ _ (spliced ((false,eval e X.env)::backTo pos (starEach es X.env))) _ _ s
 !ADW (thn (ha pins s σ H _ I h) λu s1 ⟨x,H1,I1,r1,q1⟩=>?_)
 ~thn (hr pos pins s1 σ H1 _ I1 q1) λus s2 ⟨xs,H2,I2,r2,q2⟩=>⟨x::xs,H2,I2,.cons r1 r2,q2⟩
def tTup(t:TA):TE:=λσ H Q=>t σ H λxs H1=>xs.length<=sizeLine/\∀p,H1 p=none->Q (.ref p) (upd H1 p (.tup xs))
def tLst(t:TA):TE:=λσ H Q=>t σ H λxs H1=>xs.length<=sizeLine/\∀p,H1 p=none->Q (.ref p) (upd H1 p (.lst xs))
¶Mu{x1}(h:PA X es t):PE X (.Tuple es x1 pos) (tTup t):=by
 intro pins s σ H Q I hq
 !wpAny_Tuple_spliced (thn (h pos pins s σ H _ I hq) λus s1 ⟨xs,H1,I1,r,z,q⟩=>⟨by rw[←r.length];~z,?_⟩)
 have hf:H1 s1.heap.objs.size=none:=I1.hok.fresh (AAC _)
 !⟨.ref s1.heap.objs.size,upd H1 s1.heap.objs.size (.tup xs),I1.laid (t':=s1.toks) (λb u e=>AA4 _ e) (AAC _) ?_,rfl,q _ hf⟩
 ~⟨z,us,r,⟨_,AAE _ rfl,rfl,⟨_,rfl⟩,rfl⟩⟩
¶Mz(h:PA X es t):PE X (.List es pos) (tLst t):=by
 intro pins s σ H Q I hq
 !wpAny_List_spliced (thn (h pos pins s σ H _ I hq) λus s1 ⟨xs,H1,I1,r,z,q⟩=>⟨by rw[←r.length];~z,?_⟩)
 have hf:H1 s1.heap.objs.size=none:=I1.hok.fresh (AAC _)
 !⟨.ref s1.heap.objs.size,upd H1 s1.heap.objs.size (.lst xs),I1.laid (t':=s1.toks) (λb u e=>AA4 _ e) (AAC _) ?_,rfl,q _ hf⟩
 ~⟨z,us,0,r,AAE _ rfl⟩
end
abbrev Sp:=List V->Hp->VK->XK->Prop
abbrev CXT:=List Env->Hp->Shared->XK->Value->Shared->Prop
structure Env0(P:Program)(w:World)(K:AA5)(mg:Str->Option Value)(base:Heap)(A:Around)(outer:List Env)(s:Shared)(H:Hp):Prop where
 frames:A.frames=some outer
 mod:Mod K mg base
 bs:∀b o,base.get? b=some o->s.heap.get? b=some o/\H b=none
 bsz:base.objs.size<=s.heap.objs.size
 funs:s.heap.FunFrames base outer
 frf:∀b∈frs outer,H b=none
 hok:HOk P w H s.heap
 bare:AllBare s.gens
inductive CE(outer:List Env)(P:Program)(w:World)(H:Hp)(s:Shared)(Q:VK)(u:Value)(s':Shared):Prop
 | mk (v:_) (H':_) (f0:s'.os=s.os) (f1:AllBare s'.gens) (f2:Un (frs outer) [] H H' s.heap s'.heap) (f3:HOk P w H' s'.heap) (f4:bi v u) (f5:Q v H')
def CR(CX:CXT)(outer:List Env)(P:Program)(w:World)(H:Hp)(s:Shared)(Q:VK)(E:XK)(r:Result)(s':Shared):Prop :=
 match r with
 | .ok (.ret u)=>CE outer P w H s Q u s'
 | .ok _=>False
 | .error e=>CX outer H s E e s'
structure FnOk(P:Program)(w:World)(K:AA5)(mg:Str->Option Value)(base:Heap)(CX:CXT)(k:Nat)(f:Addr)(fd:FuncData)(ps:List Str)(sp:Sp):Prop where
 len:∀vs H Q E,sp vs H Q E->vs.length=ps.length
 run:∀(A:Around) (outer:List Env) (s:Shared) (H:Hp) (args:Args) (us:List Value) (vs:List V) (Q:VK) (E:XK),Room k A->Env0 P w K mg base A outer s H->BindsTo s fd args (ps.zip us)->aL vs us->sp vs H Q E ->
  codeAny (model P w) A (.call (.ref f) args) (CR CX outer P w H s Q E) s
section
variable{X:Cx}{pins:List (Addr×Obj)}{σ:St}{H:Hp}{s s':Shared}
¶Inv.env0(I:Inv X pins σ H s):Env0 X.prog X.w X.K X.mg X.base X.A X.stack s H :=
 ⟨I.ok.frames,I.ok.mod,I.bs,ABN I.ok.bsz I.sz,I.stack,I.stkFree,I.hok,I.bare⟩
¶Inv.after{Q:VK}{u:Value}(I:Inv X pins σ H s)(h:CE X.stack X.prog X.w H s Q u s'):EP X pins σ Q u s':=by
 #⟨v,H',os,bare,un,hok,r,q⟩:=h
 #⟨hh,g,d,t,os'⟩:=s'
 obtain rfl:os'=s.os:=os
 ~⟨v,H',I.call (h':=hh) (g':=g) (d':=d) (t':=t) (ch:=[]) un hok bare (λb z=>absurd z (by simp)),r,q⟩
end
def LR(sp:Sp)(dvs:List V)(E:XK)(t:TA):TE:=λσ H Q=>t σ H λvs H1=>sp (vs++dvs) H1 Q E
def wO(K:AA5)(fd:FuncData)(ps:List Str)(ds:List Value):Prop :=
 ∀(s:Shared) (us:List Value),K.In s.heap->(us++ds).length=ps.length->BindsTo s fd ⟨us,[]⟩ (ps.zip (us++ds))
¶wO.all{K:AA5}{fd:FuncData}{ps:List Str}(h:∀us:List Value,us.length=ps.length->bindArgs fd ⟨us,[]⟩=pure (ps.zip us)):wO K fd ps []:=λs us _ hl=>by
 rw[ACa]at hl ⊢
 ~.of_eq (h us hl)
def Fu(CX:CXT)(X:Cx)(E:XK):Prop:=∀(pins:List (Addr×Obj)) (σ:St) (H:Hp) (s:Shared) (e:Value) (s':Shared),Inv X pins σ H s->CX X.stack H s E e s'->X.xe e s'
section
variable{X:Cx}{CX:CXT}{k:Nat}{f C:Addr}{fd:FuncData}{ps:List Str}{sp:Sp}{dvs:List V}{ds:List Value}{E:XK}{x m:Str}{p pos apos:Pos}{e o:Expr}{es:List Expr}{ta:TE}{t:TA}
¶Mc{pins:List (Addr×Obj)}{σ:St}{H:Hp}{s:Shared}{Q:VK}{us:List Value}{vs:List V}(F:FnOk X.prog X.w X.K X.mg X.base CX k f fd ps sp)(hr:Room k X.A)(hb:wO X.K fd ps ds)(hd:aL dvs ds)(hx:Fu CX X E)
  (I:Inv X pins σ H s) (r:aL vs us) (h:sp (vs++dvs) H Q E):wpAny (model X.prog X.w) X.A (call (.ref f) us) (EP X pins σ Q) X.xe s:=by
 have r2:aL (vs++dvs) (us++ds):=r.append hd
 have hl:(us++ds).length=ps.length:=by rw[←r2.length];~F.len _ _ _ _ h
 !wpAny_call (ADR (F.run X.A X.stack s H ⟨us,[]⟩ (us++ds) (vs++dvs) Q E hr I.env0 (hb s us I.kIn hl) r2 h) λr s' hq=>?_)
 cases r with
 | error e=>~hx pins σ H s e s' I hq
 | ok fl =>
  cases fl with
  | ret u=>~I.after hq
  | next=>~AD2 hq
  | brk=>~AD2 hq
  | cont=>~AD2 hq
¶JL(F:FnOk X.prog X.w X.K X.mg X.base CX k f fd ps sp)(hr:Room k X.A)(hg:Gl X x)(hm:X.mg x=some (.ref f))(hk:ACU X.K (.ref f)=true)(hb:wO X.K fd ps ds)(hd:aL dvs ds)(hx:Fu CX X E)
  (ha:PA X (e::es) t) (hdb:(x==("__debug__":Str))=false:=by decide) (he:starEach (e::es) X.env=(false,eval e X.env)::starEach es X.env:=by rfl) (hpl:(backTo pos (starEach es X.env)).any (·.1)=false:=by rfl) :
  PE X (.Call (.Name x p) (e::es) [] pos) (LR sp dvs E t):=by
 intro pins s σ H Q I h
 !ACR (Ei I hg hm ?_ hdb)
 !PySem.W.callWith_K (h₀:=X.base) I.ok.mod.kin hk (thn (ha pos pins s σ H _ I h) λus s1 ⟨vs,H1,I1,r,q⟩=>⟨I1.kIn,?_⟩) he hpl
 ~Mc F hr hb hd hx I1 r q
structure Mk(K:AA5)(C f:Addr):Prop where
 makes:PySem.W.makesIn K C=true
 init:ADu K (.ref C) "__init__" = some (some (.ref f))
 fn:PySem.W.isFn K (.ref f)=true
 kp:ACU K (.ref C)=true
end
section
variable{X:Cx}{CX:CXT}{k:Nat}{f C:Addr}{fd:FuncData}{ps ks:List Str}{sp:Sp}{E:XK}{x m:Str}{p pos apos kpos:Pos}{e o:Expr}{es:List Expr}{kws:List Keyword}{te ta:TE}{t tk:TA}{nm:Option Str}
structure KBinds(K:AA5)(fd:FuncData)(ps ks:List Str)(g:List Value->List Value->List Value)(gV:List V->List V->List V):Prop where
 to:∀(s:Shared) (us ws:List Value),K.In s.heap->(g us ws).length=ps.length->BindsTo s fd ⟨us,ks.zip ws⟩ (ps.zip (g us ws))
 rel:∀{vs:List V}{us:List Value}{zs:List V}{ws:List Value},aL vs us->aL zs ws->aL (gV vs zs) (g us ws)
variable{g:List Value->List Value->List Value}{gV:List V->List V->List V}
end
structure FnScope(N P:List Str)(sc:Scope):Prop where
 kind:sc.kind=.function
 co:sc.isCoroutine=false
 gen:sc.isGenerator=false
 nd:N.Nodup
 pre:N.take P.length=P
 par:∀x∈P,sc.names.lookup x=some .local\/sc.names.lookup x=some .cell
 nofree:∀y∈sc.names,y.2≠.free
¶wu{kindOf:Str->Option NameKind}{x:Str}:∀{binds:List (Str×Value)}{m:Str->Option Value},(∀v,(x,v)∉binds)->bindL kindOf binds m x=m x
 | [],_,_=>rfl
 | (n,v)::r,m,h=>by
  unfold bindL
  rw[wu λw hw=>h w (AA9 _ hw)]
  split
  ·have:x≠n:=by rintro rfl;~h v AAI
   simp[this]
  ·rfl
¶ww{kindOf:Str->Option NameKind}{x:Str}:∀{binds:List (Str×Value)}{m:Str->Option Value},(∀v,(x,v)∉binds)->bindC kindOf binds m x=m x
 | [],_,_=>rfl
 | (n,v)::r,m,h=>by
  unfold bindC
  rw[ww λw hw=>h w (AA9 _ hw)]
  split
  ·rfl
  ·have:x≠n:=by rintro rfl;~h v AAI
   simp[this]
¶wv{kindOf:Str->Option NameKind}{x:Str}{v:Value}:∀{P:List Str}{vs:List Value}{i:Nat}{m:Str->Option Value},P.Nodup->P[i]?=some x->vs[i]?=some v->kindOf x=some .local ->
  bindL kindOf (P.zip vs) m x=some v
 | [],_,_,_,_,h,_,_=>by simp at h
 | _::_,[],_,_,_,_,h,_=>by simp at h
 | p::P,w::vs,0,m,nd,h1,h2,hk=>by
  simp at h1 h2;subst h1;subst h2
  show bindL kindOf ((p,w)::P.zip vs) m p=_
  unfold bindL
  rw[wu λv hv=>(ABG.mp nd).1 (ADX hv).1,if_pos hk]
  simp
 | p::P,w::vs,i+1,m,nd,h1,h2,hk=>by
  show bindL kindOf ((p,w)::P.zip vs) m x=_
  unfold bindL
  ~wv (i:=i) (ABG.mp nd).2 (by simpa using h1) (by simpa using h2) hk
¶wx{kindOf:Str->Option NameKind}{x:Str}{v:Value}:∀{P:List Str}{vs:List Value}{i:Nat}{m:Str->Option Value},P.Nodup->P[i]?=some x->vs[i]?=some v->kindOf x≠some .local ->
  bindC kindOf (P.zip vs) m x=some v
 | [],_,_,_,_,h,_,_=>by simp at h
 | _::_,[],_,_,_,_,h,_=>by simp at h
 | p::P,w::vs,0,m,nd,h1,h2,hk=>by
  simp at h1 h2;subst h1;subst h2
  show bindC kindOf ((p,w)::P.zip vs) m p=_
  unfold bindC
  rw[ww λv hv=>(ABG.mp nd).1 (ADX hv).1,if_neg hk]
  simp
 | p::P,w::vs,i+1,m,nd,h1,h2,hk=>by
  show bindC kindOf ((p,w)::P.zip vs) m x=_
  unfold bindC
  ~wx (i:=i) (ABG.mp nd).2 (by simpa using h1) (by simpa using h2) hk
def start(N:List Str)(vs:List V):St:=vs.map some++ADv (N.length-vs.length) none
def BM(CX:CXT)(P:Program)(w:World)(K:AA5)(mg:Str->Option Value)(base:Heap)(N:List Str)(qual:Str)(scope:Scope)(f:Addr)(cd:Value)(A:Around)(outer:List Env)(s:Shared)(H:Hp)(E:XK):Cx where
 prog:=P
 w:=w
 K:=K
 mg:=mg
 base:=base
 A:=A.deeper (envOfC qual scope s.heap.objs.size f cd)
 N:=N
 s₀:=s
 H₀:=H
 env:=envOfC qual scope s.heap.objs.size f cd
 outer:=outer
 stack:=envOfC qual scope s.heap.objs.size f cd::outer
 ex:=[]
 calm:=true
 fn:=λ_=>true
 pn:=[]
 xe:=λe s'=>wpAny (model P w) (A.deeper (envOfC qual scope s.heap.objs.size f cd)) (leaving (envOfC qual scope s.heap.objs.size f cd) e) (λ_ s''=>CX outer H s E e s'') (λe' s''=>CX outer H s E e' s'') s'
¶Ab{sc:Scope}{n:Nat}{x:Str}(h:sc.names.lookup x=some .cell):∃c,(cellsFrom n sc.names []).lookup x=some c:=by
 have q:=PySem.W.cellsFrom_some sc.names n [] (.inl h)
 ~Option.isSome_iff_exists.mp q
¶Es{CX:CXT}{P:Program}{w:World}{K:AA5}{mg:Str->Option Value}{base:Heap}{N ps:List Str}{qual:Str}{scope:Scope}{f:Addr}{cd:Value}{A:Around}{outer:List Env}{s s1:Shared}{H:Hp}{E:XK}{us:List Value}{vs:List V}
  (S:FnScope N ps scope) (hd:A.handled=none) (e0:Env0 P w K mg base A outer s H) (hl:vs.length=ps.length) (r:aL vs us)
  (x:InCallC s s.heap.objs.size (bindL (envOfC qual scope s.heap.objs.size f cd).kindOf (ps.zip us) λ_=>none) (cellsFrom (s.heap.objs.size+1) scope.names []) (bindC (envOfC qual scope s.heap.objs.size f cd).kindOf (ps.zip us) λ_=>none) s1) :
  Inv (BM CX P w K mg base N qual scope f cd A outer s H E) [] (start N vs) H s1:=by
 have hpl:ps.length<=N.length:=by have:=congrArg ACy S.pre;rw[AAh]at this;&
 #⟨h1,tk,rfl,hk⟩:=x.done
 have noA:∀b:Addr,b∉(BM CX P w K mg base N qual scope f cd A outer s H E).ex:=λb z=>absurd (show b∈([]:List Addr)from z) (by simp)
 !⟨⟨e0.mod,S.kind,rfl,rfl,AAC _,λy z c h1 h2=>?_,λy hy=>?_,λy c _ h=>?_,λ_=>hd,Around.frames_deeper e0.frames,.inr ⟨rfl,rfl⟩,λb z=>absurd z (noA b),e0.bs,e0.bsz,λb _ _=>noA b,λb z=>absurd z (noA b),e0.funs,e0.frf⟩,
  rfl,e0.bare,Un.kept hk,⟨_,x.toInCall.ns,λi y v h1 h2 h3=>?_⟩,λy c h=>⟨_,x.cell y c h⟩,e0.hok.fresh (AAC _),λy c h=>?_,λp hp=>absurd (show p∈([]:List (Addr×Obj))from hp) (by simp),e0.hok.kept hk,?_⟩
 ·~name_of_addr x.apart (ABf h1) (ABf h2)
 ·have hy:scope.names.lookup y=some .cell\/scope.names.lookup y=some .free:=hy
  rcases hy with hy | hy
  ·~Ab hy
  ·~absurd rfl (S.nofree _ (ABf hy))
 ·~AEJ (x.above y c (ABf h))
 ·have hi:i<vs.length:=by
   unfold start at h2
   by_cases hi:i<vs.length
   ·~hi
   ·rw[AAg (by simpa using hi)]at h2
    rw[ACi]at h2
    split at h2<;>cases h2
  have ha:vs[i]?=some v:=by
   unfold start at h2
   rw[AAJ (by simpa using hi),AAU]at h2
   cases e:vs[i]? with
   | none=>rw[e]at h2;cases h2
   | some a=>rw[e]at h2;cases h2;rfl
  #⟨u,hu,rv⟩:=r.get ha
  have hp:ps[i]?=some y:=by
   rw[←S.pre,ABk ¤];~h1
  have ndP:ps.Nodup:=by rw[←S.pre];~S.nd.sublist (ADl _ _)
  !⟨u,rv,?_⟩
  rcases S.par y (AAu hp)with k | k
  ·~.inl ⟨k,wv ndP hp hu k⟩
  ·#⟨c,e⟩:=Ab (n:=s.heap.objs.size+1) k
   !.inr ⟨.inl k,c,e,?_⟩
   have q:=x.cell y c e
   rw[wx ndP hp hu (by show scope.names.lookup y≠_;rw[k];decide)]at q
   ~q
 ·~e0.hok.fresh (AEJ (x.above y c (ABf h)))
 ·unfold start
  show _=N.length
  rw[AA8,AA6,ACz]
  &
¶fn_of{CX:CXT}{P:Program}{w:World}{K:AA5}{mg:Str->Option Value}{base:Heap}{k:Nat}{f:Addr}{name qual:Str}{params:Arguments}{body:List Stmt}{scope:Scope}{dV kV doc pm cdv ct oc:Value}{an od:Option Addr}
  {osl:Array (Option Value)}{N ps:List Str}{sp:Sp} (lk:K.lookup f=some ⟨oc,od,.func (ACf name qual params body scope dV kV doc pm an cdv ct),osl⟩) (hcd:AEM K cdv qual=true) (S:FnScope N ps scope)
  (len:∀vs H Q E,sp vs H Q E->vs.length=ps.length)
  (hbody:∀(A:Around) (outer:List Env) (s:Shared) (H:Hp) (vs:List V) (Q:VK) (E:XK),Room k (A.deeper (envOfC qual scope s.heap.objs.size f cdv))->sp vs H Q E ->
   ∃t,PSs (BM CX P w K mg base N qual scope f cdv A outer s H E) body t/\t { nx:=λ_ H'=>Q .non H',rt:=Q } (start N vs) H) :
  FnOk P w K mg base CX (k+1) f (ACf name qual params body scope dV kV doc pm an cdv ct) ps sp:=by
 !⟨len,λA outer s H args us vs Q E hr e0 hb r hsp=>?_⟩
 have hl:=len _ _ _ _ hsp
 have KX:K.In s.heap:=e0.mod.kin.keeps λb o e=>(e0.bs b o e).1
 have lim:s.heap.NoLimit:=e0.mod.nolimit.keeps λb o e=>(e0.bs b o e).1
 have hkind:∀y∈ps.zip us,scope.names.lookup y.1=some .local\/(scope.names.lookup y.1=some .cell/\((cellsFrom (s.heap.objs.size+1) scope.names []).lookup y.1).isSome=true):=λ⟨n,v⟩ hy=>by
  rcases S.par n (ADX hy).1 with q | q
  ·~.inl q
  ·~.inr ⟨q,PySem.W.cellsFrom_some _ _ _ (.inl q)⟩
 !codeAny_call_function hr.depth (KX _ _ lk) rfl S.co S.gen rfl (PySem.W.codeRec_of KX hcd) (hb _ _ _ _ ?_)
 !wpAny_newFunctionEnv_cells S.kind hkind λenv he s1 x=>?_
 subst he
 !⟨lim.keeps x.toInCall.keep,codeAny_func ?_⟩
 #⟨t,ht,hq⟩:=hbody A outer s H vs Q E (hr.deeper _) hsp
 have I:Inv (BM CX P w K mg base N qual scope f cdv A outer s H E) [] (start N vs) H s1:=Es S hr.hd e0 hl r x
 !ABi (ht [] s1 (start N vs) H _ I hq) (λfl s' hs=>?_) λe s' hs=>hs
 have fin:∀{σ':St}{H':Hp}{v:V}{u:Value},Inv (BM CX P w K mg base N qual scope f cdv A outer s H E) [] σ' H' s'->bi v u->Q v H'->CE outer P w H s Q u s' :=
  λ{σ' H' v u} J rv q=>⟨v,H',J.os,J.bare,J.base,J.hok,rv,q⟩
 cases fl with
 | ret u =>
  #⟨v,σ',H',J,rv,q⟩:=hs
  ~fin J rv q
 | next =>
  #⟨σ',H',J,q⟩:=hs
  ~fin (v:=V.non) (u:=ABb) J rfl q
 | brk =>
  #⟨_,_,_,q⟩:=hs
  ~AD2 q
 | cont =>
  #⟨_,_,_,q⟩:=hs
  ~AD2 q
end L2
namespace L2
open PySem PySem.Spec PyProof.Rows
section
variable{X:Cx}{x:Str}{p pos:Pos}{e:Expr}{es:List Expr}{t:TA}{id T:String}{r:List V->Hp->VK->Prop}
def tCB(r:List V->Hp->VK->Prop)(t:TA):TE:=λσ H Q=>t σ H λvs H1=>r vs H1 Q
¶Gs(hc:fY X (.builtin id) r)(hg:Gl X x)(hm:X.mg x=none)(hv:bootBuiltins x=some (.builtin id))(ha:PA X (e::es) t)(hn:x≠"__name__":=by decide)(hdb:(x==("__debug__":Str))=false:=by decide)
  (he:starEach (e::es) X.env=(false,eval e X.env)::starEach es X.env:=by rfl) (hpl:(backTo pos (starEach es X.env)).any (·.1)=false:=by rfl):PE X (.Call (.Name x p) (e::es) [] pos) (tCB r t):=by
 intro pins s σ H Q I h
 !ACR (jU I hg hm hv ?_ hn hdb)
 ~PyProof.Rows.callWith_builtin1 (thn (ha pos pins s σ H _ I h) λus s1 ⟨vs,H1,I1,r1,q1⟩=>hc pins s1 σ H1 vs us Q I1 r1 q1) he hpl
¶Dq(hc:fY X (.type T) r)(hg:Gl X x)(hm:X.mg x=none)(hv:bootBuiltins x=some (.type T))(ha:PA X (e::es) t)(hn:x≠"__name__":=by decide)(hdb:(x==("__debug__":Str))=false:=by decide)
  (he:starEach (e::es) X.env=(false,eval e X.env)::starEach es X.env:=by rfl) (hpl:(backTo pos (starEach es X.env)).any (·.1)=false:=by rfl):PE X (.Call (.Name x p) (e::es) [] pos) (tCB r t):=by
 intro pins s σ H Q I h
 !ACR (jU I hg hm hv ?_ hn hdb)
 ~ACC (thn (ha pos pins s σ H _ I h) λus s1 ⟨vs,H1,I1,r1,q1⟩=>hc pins s1 σ H1 vs us Q I1 r1 q1) he hpl
end
end L2
namespace HT
open PySem PyProof.Rows
¶rcLt_int(A:Around)(s:Shared)(a:Int)(t:Tok)(c:Int)(u:Tok)(prog:Program)(w:World)(E:Value->Shared->Prop)(Q:Value->Shared->Prop)(h:Q (.bool (decide (a<c))) s) :
  wpAny (model prog w) A (richCompare .Lt (.int a t) (.int c u)) Q E s :=
 (PyProof.Rows.lt_int h:wpAny (model prog w) A (compareOp .Lt (.int a t) (.int c u)) Q E s)
section
open PySem.SeqAt
open PySem.AutoSeq1 (wpAny_loadPart')
open PySem.MeetsSeq PySem.MeetsSeq2 PySem.MeetsSeq3
end
section
variable{prog:Program}{w:World}{A:Around}{E:Value->Shared->Prop}{s:Shared}
¶cat_tup{t b:Addr}{vs ws:List Value}{Q:Value->Shared->Prop}(ht:IsTup s.heap t vs.toArray)(hb:IsTup s.heap b ws.toArray)(hv:vs≠[])
  (h1:ws=[]->Q (.ref t) s) (h2:ws≠[]->Q (.ref s.heap.objs.size) { s with heap:=s.heap.push { cls:=.type "tuple",data:=.seq (vs++ws).toArray } })
  (hsz:vs.length+ws.length<=sizeLine):wpAny (model prog w) A (binaryOp .Add (.ref t) (.ref b)) Q E s:=by
 #⟨⟨cls,dd,data,sl⟩,ho,hc,n,hd⟩:=id ht
 #⟨⟨cls2,dd2,data2,sl2⟩,ho2,hc2,n2,hd2⟩:=id hb
 simp only at hc hd hc2 hd2
 subst hc hd hc2 hd2
 have e:vs.toArray++ws.toArray=(vs++ws).toArray:=by simp
 by_cases hw:ws=[]
 ·~concat_meets ⟨_,ho,rfl⟩ ⟨_,ho2,rfl⟩ noFill_tuple_add seq_tuple_add ADh ADY (ADS _ _)
   (tuple_addW1 t b vs.toArray ws.toArray n n2 dd dd2 sl sl2 (by simpa using hv) (by simp[hw])) ⟨ho,ho2,h1 hw⟩
 ·!concat_meets ⟨_,ho,rfl⟩ ⟨_,ho2,rfl⟩ noFill_tuple_add seq_tuple_add ADh ADY (ADS _ _)
   (tuple_addW2 t b vs.toArray ws.toArray n n2 dd dd2 sl sl2 (by simpa using hv) (by simpa using hw) (by rw[AAB,AAB];~hsz)) ⟨ho,ho2,?_⟩
  rw[e]
  ~h2 hw
def sIx(n d:Nat):Option Int->Nat
 | none=>d
 | some v=>if v<0 then(v+(n:Int)).toNat else min v.toNat n
¶sIx_none(n d:Nat):sIx n d none=d:=rfl
¶sIx_nat(n d k:Nat):sIx n d (some (k:Int))=min k n:=by
 show (if (k:Int)<0 then((k:Int)+(n:Int)).toNat else min (k:Int).toNat n)=min k n
 rw[if_neg ¤,ABr]
¶Ma(n d:Nat)(hd:d<=n)(o:Option Int):sIx n d o<=n:=by
 cases o with
 | none=>~hd
 | some v =>
  show (if v<0 then(v+(n:Int)).toNat else min v.toNat n)<=n
  by_cases hv:v<0
  ·rw[if_pos hv];&
  ·rw[if_neg hv];~Nat.min_le_right _ _
¶Fd(v:Int)(n d:Nat):(if v<0 then max (v+(n:Int)) 0 else min v (n:Int))=((sIx n d (some v):Nat):Int):=by
 show (if v<0 then max (v+(n:Int)) 0 else min v (n:Int))=(((if v<0 then(v+(n:Int)).toNat else min v.toNat n):Nat):Int)
 by_cases hv:v<0
 ·simp only[if_pos hv];&
 ·simp only[if_neg hv];&
¶BI(lo hi:Option Int)(n:Nat):ADC lo hi 1 (n:Int)=(((sIx n 0 lo:Nat):Int),((sIx n n hi:Nat):Int)):=by
 have h1:¬((1:Int)<0):=¤
 unfold ADC
 simp only[h1,if_false]
 !Prod.ext ?_ ?_
 ·cases lo with
  | none=>rfl
  | some v=>~Fd v n 0
 ·cases hi with
  | none=>rfl
  | some v=>~Fd v n n
¶AU(i j:Nat):ACV (i:Int) (j:Int) 1=j-i:=by
 unfold ACV
 have h1:(1:Int) > 0:=¤
 simp only[h1,if_true,Int.ediv_one]
 split<;>&
¶qp{v:Value}{o:Option Int}{Q:Option Int->Shared->Prop}(p:IsPart v o)(h:Q o s):wpAny (model prog w) A (Builtin.Slice.slicePartIndex v) Q E s:=by
 cases p with
 | none=>~slicePart_none h
 | int i t=>~slicePart_int h
¶fZ{sl:Addr}{vl vu:Value}{lo hi:Option Int}{n:Nat}{Q:Int×Int×Nat->Shared->Prop}(hs:s.heap.IsSliceOf sl vl vu .none)(pl:IsPart vl lo)(pu:IsPart vu hi)
  (h:Q (((sIx n 0 lo:Nat):Int),1,sIx n n hi-sIx n 0 lo) s):wpAny (model prog w) A (AEI (.ref sl) (pure (n:Int))) Q E s:=by
 #⟨os,hos,hcs,hds⟩:=id hs
 unfold AEI Builtin.Slice.sliceFields
 !AA0 (AA0 (ABH hos hds (x:=vl) rfl (AA0 (ABH hos hds (x:=vu) rfl (AA0 (ABH hos hds (x:=.none) rfl (AA3 ?_)))))))
 !AA0 (slicePart_none ?_)
 show wpAny _ _ (if ((1:Int)==0)=true then _ else _) _ _ s
 rw[if_neg (by decide)]
 !AA0 (qp pl (AA0 (qp pu (AA0 (AA3 ?_)))))
 show wpAny _ _ (match ADC lo hi 1 (n:Int)with | (lo,hi)=>pure (lo,(1:Int),ACV lo hi 1)) _ _ s
 rw[BI lo hi n]
 show wpAny _ _ (pure (((sIx n 0 lo:Nat):Int),(1:Int),ACV ((sIx n 0 lo:Nat):Int) ((sIx n n hi:Nat):Int) 1)) _ _ s
 rw[AU]
 ~AA3 h
¶Go(xs:Array Value)(i k:Nat):((AAe k).filterMap λ(m:Nat)=>xs[((i:Int)+(m:Int)*1).toNat]?).toArray=((xs.toList.drop i).take k).toArray:=by
 have e:(λ(m:Nat)=>xs[((i:Int)+(m:Int)*1).toNat]?)=λm=>xs[i+m]?:=by
  funext m
  have:((i:Int)+(m:Int)*1).toNat=i+m:=¤
  rw[this]
 rw[e]
 have:=pick_run xs i k
 rw[List.filterMap_map]at this
 have e2:((λx=>xs[x]?) ∘ λx=>i+x)=λm=>xs[i+m]?:=rfl
 rw[e2]at this
 rw[this]
¶getItem_tuple_cut{t sl:Addr}{items:Array Value}{vl vu:Value}{lo hi:Option Int}{Q:Value->Shared->Prop}(ht:IsTup s.heap t items)(hs:s.heap.IsSliceOf sl vl vu .none)(pl:IsPart vl lo)(pu:IsPart vu hi)
  (hw:¬(sIx items.size 0 lo=0/\sIx items.size items.size hi=items.size))
  (h:Q (.ref s.heap.objs.size) { s with heap:=s.heap.push { cls:=.type "tuple",data:=.seq ((items.toList.drop (sIx items.size 0 lo)).take (sIx items.size items.size hi-sIx items.size 0 lo)).toArray } })
  (hsz:items.size<=sizeLine):wpAny (model prog w) A (getItem (.ref t) (.ref sl)) Q E s:=by
 have htake:sizeOk (.seq ((items.toList.drop (sIx items.size 0 lo)).take (sIx items.size items.size hi-sIx items.size 0 lo)).toArray):=by
  show ((items.toList.drop (sIx items.size 0 lo)).take (sIx items.size items.size hi-sIx items.size 0 lo)).toArray.size<=sizeLine
  rw[AAB,AAh,ABd,AAO]
  &
 have hj:sIx items.size items.size hi<=items.size:=Ma _ _ (AAC _) hi
 #⟨os,hos,hcs,hds⟩:=id hs
 have hTs:s.TypeIs (.ref sl) "slice":=⟨os,hos,hcs⟩
 unfold getItem
 try with_reducible !AAp ?_
 first | !AA0 (AA3 ?_) | skip
 !AA0 (wpAny_sequenceKey ht.typeIs (by decide) ?_)
 !AA0 (AAl (name:=AA1 "__getitem__") ht.typeIs ABI
  (AAm ABI ht.typeIs entry_tuple_getitem ?_ (args_tuple_getitem _ _)))
 show wpAny _ _ (ACJ (.ref t) >>= _) _ _ s
 !AA0 (tupleItemsOf_ ht ?_)
 !AA0 (ACg hTs ?_)
 rw[if_pos (by decide)]
 !AA0 (fZ hs pl pu ?_)
 have hno:¬((((sIx items.size 0 lo:Nat):Int)==0&&(1:Int)==1&&(sIx items.size items.size hi-sIx items.size 0 lo)==items.size)=true):=by
  intro q
  rw[AAD,AAD]at q
  have q1:((sIx items.size 0 lo:Nat):Int)=0:=eq_of_beq q.1.1
  have q2:sIx items.size items.size hi-sIx items.size 0 lo=items.size:=eq_of_beq q.2
  ~hw ⟨¤,¤⟩
 show wpAny _ _ (if (((sIx items.size 0 lo:Nat):Int)==0&&(1:Int)==1&&(sIx items.size items.size hi-sIx items.size 0 lo)==items.size)=true then _ else _) _ _ s
 rw[if_neg hno,Go]
 first
  | ~AA0 (m:=ACb _) (AAj (AA3 ⟨_,rfl,AA3 h⟩) htake)
  | ~AA0 (m:=ACb _) (AAj (AA0 (AA3 (AA3 ⟨_,rfl,AA3 h⟩))) htake)
  | ~AA0 (AA0 (m:=ACb _) (AAj (AA3 (AA3 ⟨_,rfl,AA3 h⟩)) htake))
  | ~AA0 (AA0 (m:=ACb _) (AAj (AA3 ⟨_,rfl,AA3 h⟩) htake))
end
end HT
namespace L2
open PySem PySem.Spec PyProof.Rows
abbrev TO:=St->Hp->(Option Int->Hp->Prop)->Prop
def PO(X:Cx)(e:Option Expr)(t:TO):Prop :=
 ∀(pins:List (Addr×Obj)) (s:Shared) (σ:St) (H:Hp) (Q:Option Int->Hp->Prop),Inv X pins σ H s->t σ H Q ->
  wpAny (model X.prog X.w) X.A (evalPart e X.env) (λu s'=>∃o H',Inv X pins σ H' s'/\IsPart u o/\Q o H') X.xe s
def Jk:TO:=λ_ H Q=>Q none H
def tPart(t:TE):TO:=λσ H Q=>t σ H λx H1=>∃i,x=.int i/\Q (some i) H1
section
variable{X:Cx}{e:Expr}{te:TE}{lo hi:Option Expr}{tl th:TO}{pos p2:Pos}
¶JG:PO X none Jk:=by
 intro pins s σ H Q I h
 rw[evalPart_none]
 ~AA3 ⟨none,H,I,.none,h⟩
¶JF(h:PE X e te):PO X (some e) (tPart te):=by
 intro pins s σ H Q I hw
 rw[evalPart_some]
 !thn (h pins s σ H _ I hw) λu s1 ⟨x,H1,I1,r1,q1⟩=>?_
 #⟨i,rfl,q⟩:=q1
 #⟨t,rfl⟩:=r1
 ~⟨some i,H1,I1,.int i t,q⟩
def SlR(X:Cx)(r:V->Option Int->Option Int->Hp->VK->Prop):Prop :=
 ∀(pins:List (Addr×Obj)) (s:Shared) (σ:St) (H:Hp) (x:V) (v vl vu:Value) (lo hi:Option Int) (sl:Addr) (Q:VK),Inv X pins σ H s->bi x v->s.heap.IsSliceOf sl vl vu .none->IsPart vl lo->IsPart vu hi->r x lo hi H Q ->
  ∃T id,typeLookup (.type T) "__getitem__" = pure (some (.builtin id))/\s.TypeIs v T/\wpAny (model X.prog X.w) X.A (getItem v (.ref sl)) (EP X pins σ Q) X.xe s
def tSl(r:V->Option Int->Option Int->Hp->VK->Prop)(te:TE)(tl th:TO):TE:=λσ H Q=>te σ H λx H1=>tl σ H1 λl H2=>th σ H2 λu H3=>r x l u H3 Q
¶Gq{r:V->Option Int->Option Int->Hp->VK->Prop}(hr:SlR X r)(he:PE X e te)(hl:PO X lo tl)(hu:PO X hi th):PE X (.Subscript e (.Slice lo hi none p2) pos) (tSl r te tl th):=by
 intro pins s σ H Q I h
 !Subscript_ (thn (he pins s σ H _ I h) λv s1 ⟨x,H1,I1,r1,q1⟩=>?_)
 !wpAny_Slice (thn (hl pins s1 σ H1 _ I1 q1) λvl s2 ⟨l,H2,I2,pl,q2⟩=>thn (hu pins s2 σ H2 _ I2 q2) λvu s3 ⟨u,H3,I3,pu,q3⟩=>?_)
 rw[evalPart_none]
 !AA3 ?_
 have I4:Inv X pins σ H3 { s3 with heap:=s3.heap.push { cls:=.type "slice",data:=.fields #[vl,vu,.none] } }:=I3.kept (t':=s3.toks) λb ob q=>AA4 _ q
 #⟨T,id,hT,ht,hg⟩:=hr pins { s3 with heap:=s3.heap.push { cls:=.type "slice",data:=.fields #[vl,vu,.none] } } σ H3 x v vl vu l u s3.heap.objs.size Q I4 r1 (Heap.IsSliceOf.new ..) pl pu q3
 show wpAny (model X.prog X.w) X.A (subscriptTail e (.Slice lo hi none p2) v (.ref s3.heap.objs.size)) (EP X pins σ Q) X.xe { s3 with heap:=s3.heap.push { cls:=.type "slice",data:=.fields #[vl,vu,.none] } }
 ~tail_any (ops:=[.ref s3.heap.objs.size,v]) ht hT hg (by with_unfolding_all rfl)
def IJ(xs:List V)(lo hi:Option Int):List V:=(xs.drop (HT.sIx xs.length 0 lo)).take (HT.sIx xs.length xs.length hi-HT.sIx xs.length 0 lo)
¶oX(xs:List V)(lo hi:Option Int):(IJ xs lo hi).length<=xs.length:=by
 unfold IJ
 rw[AAh,ABd]
 &
def rSlT(K:AA5):V->Option Int->Option Int->Hp->VK->Prop:=λx lo hi H Q=>∃a xs,x=.ref a/\SqT K H a xs /\
 ¬(HT.sIx xs.length 0 lo=0/\HT.sIx xs.length xs.length hi=xs.length)/\∀p,H p=none->Q (.ref p) (upd H p (.tup (IJ xs lo hi)))
¶LX:SlR X (rSlT X.K):=by
 intro pins s σ H x v vl vu lo hi sl Q I rx hs pl pu h
 #⟨a,xs,rfl,hx,hw,q⟩:=h
 cases rx
 #⟨its,r,ht,hz⟩:=I.tuple hx
 have hlen:its.toArray.size=xs.length:=by rw[AAB];~r.length.symm
 !⟨"tuple",_,ABI.lookup,ht.typeIs,?_⟩
 !HT.getItem_tuple_cut ht hs pl pu (by rw[hlen];~hw) ?_ (by rw[hlen];~hz)
 rw[hlen]
 !⟨.ref s.heap.objs.size,_,I.laid (t':=s.toks) (o:=.tup (IJ xs lo hi)) (λb ob q=>AA4 _ q) (AAC _) ?_,rfl,q _ (I.hok.fresh (AAC _))⟩
 ~⟨ABN (oX xs lo hi) hz,_,(r.drop (HT.sIx xs.length 0 lo)).take (HT.sIx xs.length xs.length hi-HT.sIx xs.length 0 lo),Ih.new _ _⟩
def rCatT(K:AA5):R2:=λx y H Q=>∃a b xs ys,x=.ref a/\y=.ref b/\SqT K H a xs/\SqT K H b ys/\xs≠[]/\xs.length+ys.length<=sizeLine /\
 (ys=[]->Q (.ref a) H)/\(ys≠[]->∀p,H p=none->Q (.ref p) (upd H p (.tup (xs++ys))))
¶aL.nil_iff{xs:List V}{us:List Value}(r:aL xs us):us=[]↔xs=[]:=by
 cases r with
 | nil=>simp
 | cons _ _=>simp
¶JP:OpR X (binaryOp .Add) (rCatT X.K):=by
 intro pins s σ H x y v u Q I rx ry h
 #⟨a,b,xs,ys,rfl,rfl,ha,hb,hx,hz,q1,q2⟩:=h
 cases rx
 cases ry
 #⟨its,r1,p1,_⟩:=I.tuple ha
 #⟨its2,r2,p2,_⟩:=I.tuple hb
 !HT.cat_tup p1 p2 (λz=>hx (r1.nil_iff.mp z)) (λz=>⟨.ref a,H,I,rfl,q1 (r2.nil_iff.mp z)⟩) (λz=>?_) (by rw[←r1.length,←r2.length];~hz)
 !⟨.ref s.heap.objs.size,_,I.laid (t':=s.toks) (o:=.tup (xs++ys)) (λb ob q=>AA4 _ q) (AAC _) ?_,rfl,q2 (λw=>z (r2.nil_iff.mpr w)) _ (I.hok.fresh (AAC _))⟩
 ~⟨by rw[AA8];~hz,_,r1.append r2,Ih.new _ _⟩
end
end L2
namespace L2
open PySem PySem.Spec PyProof.Rows
def ixN(n:Nat)(i:Int):Option Nat:=if 0<=i then(if i<n then some i.toNat else none)else if -(n:Int)<=i then some (i+n).toNat else none
def atI{α:Type}(xs:List α)(i:Int):Option α:=(ixN xs.length i).bind λj=>xs[j]?
¶Eo{n:Nat}{i:Int}{j:Nat}(h:ixN n i=some j):seqIndex? i n=some j/\j<n/\-(n:Int)<=i/\i<n:=by
 unfold ixN at h
 by_cases h0:0<=i
 ·rw[if_pos h0]at h
  by_cases h1:i<n
  ·rw[if_pos h1]at h
   have e:i.toNat=j:=AAR h
   ~⟨by rw[seqIndex_of h0 h1,e],¤,¤,h1⟩
  ·rw[if_neg h1]at h;cases h
 ·rw[if_neg h0]at h
  by_cases h1:-(n:Int)<=i
  ·rw[if_pos h1]at h
   have e:(i+n).toNat=j:=AAR h
   ~⟨by rw[seqIndex_neg ¤ h1,e],¤,h1,¤⟩
  ·rw[if_neg h1]at h;cases h
¶yR{α:Type}{xs:List α}{i:Int}{v:α}(h:atI xs i=some v):∃j,seqIndex? i xs.length=some j/\xs[j]?=some v/\j<xs.length/\-(xs.length:Int)<=i/\i<xs.length:=by
 unfold atI at h
 cases e:ixN xs.length i with
 | none=>rw[e]at h;cases h
 | some j =>
  rw[e]at h
  #⟨h1,h2,h3,h4⟩:=Eo e
  ~⟨j,h1,h,h2,h3,h4⟩
¶bG{α:Type}{xs:List α}{j:Nat}{v:α}(h:xs[j]?=some v):atI xs (j:Int)=some v:=by
 have hj:j<xs.length:=(AA2.mp h).1
 have e:ixN xs.length (j:Int)=some j:=by
  unfold ixN
  rw[if_pos ¤,if_pos ¤];simp
 unfold atI;rw[e];~h
def sX(b:Expr):Prop:=∀o i,subscripted b false o i=operate [o,i] (getItem o i)
def IxR(X:Cx)(r:R2):Prop :=
 ∀(value slice:Expr) (pins:List (Addr×Obj)) (s:Shared) (σ:St) (H:Hp) (x y:V) (v u:Value) (Q:VK),Inv X pins σ H s->bi x v->bi y u->r x y H Q ->
  subscripted slice false v u=operate [v,u] (getItem v u)->wpAny (model X.prog X.w) X.A (subscriptTail value slice v u) (EP X pins σ Q) X.xe s
def MtR(X:Cx)(id:String)(r:V->List V->Hp->VK->Prop):Prop :=
 ∀(pins:List (Addr×Obj)) (s:Shared) (σ:St) (H:Hp) (x:V) (xs:List V) (v:Value) (us:List Value) (Q:VK),Inv X pins σ H s->bi x v->aL xs us->r x xs H Q ->
  wpAny (model X.prog X.w) X.A (call (.builtin id) (v::us)) (EP X pins σ Q) X.xe s
section
variable{X:Cx}{a b:Expr}{ta tb:TE}{pos:Pos}
¶IxR.or{r r':R2}(h:IxR X r)(h':IxR X r'):IxR X (λx y H Q=>r x y H Q\/r' x y H Q):=by
 intro value slice pins s σ H x y v u Q I rx ry q hs
 rcases q with q | q
 ·~h value slice pins s σ H x y v u Q I rx ry q hs
 ·~h' value slice pins s σ H x y v u Q I rx ry q hs
¶MA{r:R2}(hr:IxR X r)(ha:PE X a ta)(hb:PE X b tb)(hs:sX b):PE X (.Subscript a b pos) (tOp r ta tb):=by
 intro pins s σ H Q I h
 ~Subscript_ (binT ha hb I h λv u s2 x y H2 I2 rx ry q=>hr a b pins s2 σ H2 x y v u Q I2 rx ry q (hs _ _))
def rIxL(K:AA5):R2:=λx y H Q=>∃p xs i v,x=.ref p/\y=.int i/\SqL K H p xs/\atI xs i=some v/\Q v H
def rIxT(K:AA5):R2:=λx y H Q=>∃p xs i v,x=.ref p/\y=.int i/\SqT K H p xs/\atI xs i=some v/\Q v H
def rIxS:R2:=λx y H Q=>∃z i c,x=.str z/\y=.int i/\z.length<=sizeLine/\atI z.cps.toList i=some c/\Q (.str ⟨#[c]⟩) H
¶Ku:IxR X (rIxL X.K):=by
 intro value slice pins s σ H x y v u Q I rx ry h hs
 #⟨p,xs,i,z,rfl,rfl,hq,he,q⟩:=h
 cases rx
 #⟨t,rfl⟩:=ry
 #⟨its,r,pl,hz⟩:=I.list hq
 #⟨j,h1,h2,h3,h4,h5⟩:=yR he
 #⟨w,ew,rw'⟩:=r.get h2
 have hl:=r.length
 have hn:=qC
 have fin:EP X pins σ Q w s:=⟨z,H,I,rw',q⟩
 by_cases h0:0<=i
 ·have hj:i.toNat=j:=by
   rw[seqIndex_of h0 h5]at h1
   ~AAR h1
  ~item_listR pl.isList h0 ¤ (by rw[hj];simpa using ew) fin hs
 ·have hj:(i+(its.toArray.size:Int)).toNat=j:=by
   rw[seqIndex_neg ¤ h4]at h1
   rw[AAB,←hl]
   ~AAR h1
  ~subscriptTail_builtinR (x:=w) pl.isList.typeIs slot_list_getitem.lookup
   (wpAny_getItem_list_neg (Q:=λr s'=>r=w/\EP X pins σ Q r s') pl.isList ¤ (by rw[AAB]<;>&) ¤ (by rw[hj];simpa using ew) ⟨rfl,fin⟩) hs
¶No:IxR X (rIxT X.K):=by
 intro value slice pins s σ H x y v u Q I rx ry h hs
 #⟨p,xs,i,z,rfl,rfl,hq,he,q⟩:=h
 cases rx
 #⟨t,rfl⟩:=ry
 #⟨its,r,pl,hz⟩:=I.tuple hq
 #⟨j,h1,h2,h3,h4,h5⟩:=yR he
 #⟨w,ew,rw'⟩:=r.get h2
 have hl:=r.length
 have hn:=qC
 have fin:EP X pins σ Q w s:=⟨z,H,I,rw',q⟩
 ~subscriptTail_builtinR (x:=w) pl.typeIs slot_tuple_getitem.lookup
  (getItem_tuple (j:=j) (Q:=λr s'=>r=w/\EP X pins σ Q r s') pl ¤ ¤ (by rw[AAB,←hl];~h1) (by simpa using ew) ⟨rfl,fin⟩) hs
¶Np:IxR X rIxS:=by
 intro value slice pins s σ H x y v u Q I rx ry h hs
 #⟨z,i,c,rfl,rfl,hz,he,q⟩:=h
 #⟨t,rfl⟩:=rx
 #⟨t',rfl⟩:=ry
 #⟨j,h1,h2,h3,h4,h5⟩:=yR he
 have hl:z.cps.toList.length=z.length:=by simp[Str.length]
 rw[hl]at h1 h4 h5
 have hn:=qC
 ~tail_any (typeIs_str s z t) slot_str_getitem.lookup (getItem_str (c:=c) (by
  have e1:decide (i < -(2 ^ 63:Int))=false:=decide_eq_false ¤
  have e2:decide (i ≥ 2 ^ 63)=false:=decide_eq_false ¤
  rw[e1,e2,Bool.or_false]) (by rw[h1];simpa using h2) ⟨.str ⟨#[c]⟩,H,I.tok _,⟨_,rfl⟩,q⟩) hs
def rIx(K:AA5):R2:=λx y H Q=>rIxL K x y H Q\/rIxT K x y H Q\/rIxS x y H Q
¶Nq:IxR X (rIx X.K):=Ku.or (No.or Np)
¶Bm(its:List Value)(n j:Nat)(u:Value):ABZ (·.setIfInBounds j u) { cls:=.type "list",data:=.seq its.toArray n }={ cls:=.type "list",data:=.seq (its.set j u).toArray n }:=by
 simp[ABZ]
¶Inv.lst{pins:List (Addr×Obj)}{σ:St}{H:Hp}{s:Shared}{p:Addr}{xs:List V}(I:Inv X pins σ H s)(h:H p=some (.lst xs)) :
  ∃(its:List Value) (n:Nat),aL xs its/\s.heap.get? p=some { cls:=.type "list",data:=.seq its.toArray n }/\xs.length<=sizeLine:=by
 #⟨z,its,n,r,e⟩:=I.hok p _ h
 ~⟨its,n,r,e,z⟩
¶Inv.lstUpd{pins:List (Addr×Obj)}{σ:St}{H:Hp}{s:Shared}{p:Addr}{xs ys:List V}{its its':List Value}{n n':Nat}{f:Obj->Obj}(I:Inv X pins σ H s)(h:H p=some (.lst xs))
  (ho:s.heap.get? p=some { cls:=.type "list",data:=.seq its.toArray n }) (hf:f { cls:=.type "list",data:=.seq its.toArray n }={ cls:=.type "list",data:=.seq its'.toArray n' }) (r:aL ys its') (hz:ys.length<=sizeLine) (t:Nat) :
  Inv X pins σ (upd H p (.lst ys)) { s with heap:=s.heap.update p f,toks:=t }:=by
 have e:(s.heap.update p f).get? p=some { cls:=.type "list",data:=.seq its'.toArray n' }:=by
  rw[AAZ f ho (by rw[hf]<;>rfl),hf]
 !I.write (x:=p) (e:=p) (by rw[h];trivial) (.inl rfl) (λb u hb q=>(ABE _ _ (AAz hb)).trans q) ⟨_,e⟩ ?_
 ~⟨hz,its',n',r,e⟩
def rSetL:V->V->V->Hp->(Hp->Prop)->Prop:=λo i v H Q=>∃p xs k j,o=.ref p/\i=.int k/\H p=some (.lst xs)/\ixN xs.length k=some j/\Q (upd H p (.lst (xs.set j v)))
¶Gb:PSet X rSetL:=by
 intro pins s σ H o i v ov iv u Q I ro ri rv h
 #⟨p,xs,k,j,rfl,rfl,hp,hj,q⟩:=h
 cases ro
 #⟨t,rfl⟩:=ri
 #⟨its,n,r,ho,hz⟩:=I.lst hp
 #⟨h1,h2,h3,h4⟩:=Eo hj
 have hl:=r.length
 have hn:=qC
 have I':Inv X pins σ (upd H p (.lst (xs.set j v))) { s with heap:=s.heap.update p (ABZ (·.setIfInBounds j u)) } :=
  I.lstUpd hp ho (Bm its n j u) (r.set rv j) (by rw[ABQ];~hz) s.toks
 by_cases h0:0<=k
 ·have hk:k.toNat=j:=by
   rw[seqIndex_of h0 h4]at h1
   ~AAR h1
  ~PySem.W.ki_setAt ho h0 ¤ (by rw[AAB,←hl];~h4) (by rw[hk];~⟨_,I',q⟩)
 ·have hk:(k+(its.toArray.size:Int)).toNat=j:=by
   rw[seqIndex_neg ¤ h3]at h1
   rw[AAB,←hl]
   ~AAR h1
  ~PySem.W.ki_setBack ho ¤ (by rw[AAB,←hl];~h3) ¤ (by rw[hk];~⟨_,I',q⟩)
¶uz(lo hi:Option Int)(n:Nat):(sliceBounds lo hi none n).1=((HT.sIx n 0 lo:Nat):Int)/\(sliceBounds lo hi none n).2.1=((HT.sIx n n hi:Nat):Int)/\(sliceBounds lo hi none n).2.2=1:=by
 !⟨?_,?_,rfl⟩
 ·cases lo with
  | none=>simp[sliceBounds,HT.sIx]
  | some i =>
   simp only[sliceBounds,HT.sIx,Option.getD_none,show (1:Int) > 0 by decide,if_true]
   by_cases h:i<0
   ·simp only[h,if_true]<;>&
   ·simp only[h,if_false]<;>&
 ·cases hi with
  | none=>simp[sliceBounds,HT.sIx]
  | some i =>
   simp only[sliceBounds,HT.sIx,Option.getD_none,show (1:Int) > 0 by decide,if_true]
   by_cases h:i<0
   ·simp only[h,if_true]<;>&
   ·simp only[h,if_false]<;>&
¶rA(its:List Value)(lo hi:Option Int):slicePick its.toArray lo hi none=((its.drop (HT.sIx its.length 0 lo)).take (HT.sIx its.length its.length hi-HT.sIx its.length 0 lo)).toArray:=by
 #⟨h1,h2,h3⟩:=uz lo hi its.toArray.size
 unfold slicePick
 rw[h1,h2,h3]
 simp only[sliceRange_one,pick_run,AAB]<;>rfl
def rSlL(K:AA5):V->Option Int->Option Int->Hp->VK->Prop:=λx lo hi H Q=>∃a xs,x=.ref a/\SqL K H a xs/\∀p,H p=none->Q (.ref p) (upd H p (.lst (IJ xs lo hi)))
¶Jo:SlR X (rSlL X.K):=by
 intro pins s σ H x v vl vu lo hi sl Q I rx hs pl pu h
 #⟨a,xs,rfl,hx,q⟩:=h
 cases rx
 #⟨its,r,ht,hz⟩:=I.list hx
 have hlen:=r.length
 !⟨"list",_,slot_list_getitem.lookup,ht.isList.typeIs,?_⟩
 !wpAny_getItem_list_slice ht.isList hs pl pu .none (by simp) ?_ (by rw[AAB]<;>&)
 rw[rA,←hlen]
 !⟨.ref s.heap.objs.size,_,I.laid (t':=s.toks) (o:=.lst (IJ xs lo hi)) (λb ob q=>AA4 _ q) (AAC _) ?_,rfl,q _ (I.hok.fresh (AAC _))⟩
 ~⟨ABN (oX xs lo hi) hz,_,0,(r.drop (HT.sIx xs.length 0 lo)).take (HT.sIx xs.length xs.length hi-HT.sIx xs.length 0 lo),AAE _ rfl⟩
¶wt:fY X (.builtin "len") (λxs H Q=>∃p ys,xs=[.ref p]/\(SqL X.K H p ys\/SqT X.K H p ys)/\Q (.int ys.length) H):=by
 intro pins s σ H xs us Q I r h
 #⟨p,ys,rfl,hq,q⟩:=h
 #⟨u,rfl,rx⟩:=BV r
 cases rx
 have hn:=qC
 rcases hq with hq | hq
 ·#⟨its,r',pl,hz⟩:=I.list hq
  have hlen:=r'.length
  ~Calls.call_len_list pl.isList (by simp only[AAB]<;>&) ⟨.int ys.length,H,I.tok _,⟨s.toks+1,by rw[AAB,hlen]⟩,q⟩
 ·#⟨its,r',pl,hz⟩:=I.tuple hq
  have hlen:=r'.length
  ~len_tuple pl (by simp only[AAB]<;>&) ⟨.int ys.length,H,I.tok _,⟨s.toks+1,by rw[AAB,hlen]⟩,q⟩
¶wo:fY X (.builtin "len") (λxs H Q=>∃z,xs=[.str z]/\z.length<=sizeLine/\Q (.int z.length) H):=by
 intro pins s σ H xs us Q I r h
 #⟨z,rfl,hz,q⟩:=h
 #⟨u,rfl,t,rfl⟩:=BV r
 have hn:=qC
 ~len_str ¤ ⟨.int z.length,H,I.tok _,⟨_,rfl⟩,q⟩
¶fY.or{f:Value}{r r':List V->Hp->VK->Prop}(h:fY X f r)(h':fY X f r'):fY X f (λxs H Q=>r xs H Q\/r' xs H Q):=by
 intro pins s σ H xs us Q I rs q
 rcases q with q | q
 ·~h pins s σ H xs us Q I rs q
 ·~h' pins s σ H xs us Q I rs q
¶wn:fY X (.type "list") (λxs H Q=>∃p ys,xs=[.ref p]/\(SqL X.K H p ys\/SqT X.K H p ys)/\∀l,H l=none->Q (.ref l) (upd H l (.lst ys))):=by
 intro pins s σ H xs us Q I r h
 #⟨p,ys,rfl,hq,q⟩:=h
 #⟨u,rfl,rx⟩:=BV r
 cases rx
 have fin:∀(its:List Value),aL ys its->ys.length<=sizeLine->∀(h':Heap) (c':Nat),(∀b o',s.heap.get? b=some o'->h'.get? b=some o') ->
   h'.get? s.heap.objs.size=some { cls:=.type "list",dict:=none,data:=.seq its.toArray c',slots:=#[] }->EP X pins σ Q (.ref s.heap.objs.size) { s with heap:=h' }:=λits r' hz h' c' kp e =>
  ⟨.ref s.heap.objs.size,_,I.laid (t':=s.toks) kp (AAC _) (show cL X.prog X.w _ h' _ (.lst ys)from⟨hz,its,c',r',e⟩),rfl,q _ (I.hok.fresh (AAC _))⟩
 rcases hq with hq | hq
 ·#⟨its,r',pl,hz⟩:=I.list hq
  have hlen:=r'.length
  #⟨o,ho,hc,n,hd⟩:=pl.isList
  ~call_list_seq p (.inl rfl) ho hc hd (λh' c' kp e=>fin its r' hz h' c' kp e) (by simp only[AAB]<;>&)
 ·#⟨its,r',pl,hz⟩:=I.tuple hq
  have hlen:=r'.length
  #⟨o,ho,hc,n,hd⟩:=pl
  ~call_list_seq p (.inr rfl) ho hc hd (λh' c' kp e=>fin its r' hz h' c' kp e) (by simp only[AAB]<;>&)
¶sV:fY X (.type "tuple") (λxs H Q=>∃p ys,xs=[.ref p]/\((SqL X.K H p ys/\∀l,H l=none->Q (.ref l) (upd H l (.tup ys)))\/(SqT X.K H p ys/\Q (.ref p) H))):=by
 intro pins s σ H xs us Q I r h
 #⟨p,ys,rfl,h⟩:=h
 #⟨u,rfl,rx⟩:=BV r
 cases rx
 rcases h with⟨hq,q⟩|⟨hq,q⟩
 ·#⟨its,r',pl,hz⟩:=I.list hq
  have hlen:=r'.length
  !call_tuple_list pl.isList (λh' kp=>?_) (by simp only[AAB]<;>&)
  have I1:Inv X pins σ H { s with heap:=h' }:=I.kept (t':=s.toks) kp
  have I2:Inv X pins σ (upd H h'.objs.size (.tup ys)) { s with heap:=h'.push { cls:=.type "tuple",data:=.seq its.toArray } } :=
   I1.laid (t':=s.toks) (λb o e=>AA4 _ e) (AAC _) (show cL X.prog X.w _ _ _ (.tup ys)from⟨hz,its,r',Ih.new _ _⟩)
  ~⟨.ref h'.objs.size,_,I2,rfl,q _ (I1.hok.fresh (AAC _))⟩
 ·#⟨its,r',pl,hz⟩:=I.tuple hq
  ~call_tuple_same pl ⟨.ref p,H,I,rfl,q⟩
def tyV(K:AA5)(T:String)(x:V)(H:Hp):Prop:=match x with
 | .str _=>T = "str"
 | .int _=>T = "int"
 | .ref p=>(T = "list"/\∃xs,SqL K H p xs)\/(T = "tuple"/\∃o,K.lookup p=some o/\o.cls=.type "tuple"/\o.dict=none) \/
   (T = "dict"/\((∃kvs,H p=some (.dK kvs))\/∃kvs,H p=some (.dT kvs)))\/(T = "set"/\∃S n,H p=some (.set S n))
 | _=>False
¶LP{pins:List (Addr×Obj)}{σ:St}{H:Hp}{s:Shared}{T:String}{x:V}{v:Value}(I:Inv X pins σ H s)(r:bi x v)(ty:tyV X.K T x H) :
  s.TypeIs v T/\∀a,v=.ref a->∃ob,s.heap.get? a=some ob/\ob.dict=none:=by
 cases x with
 | str z =>
  #⟨t,rfl⟩:=r
  cases (show T = "str" from ty)
  ~⟨typeIs_str s z t,λ_ e=>nomatch e⟩
 | int i =>
  #⟨t,rfl⟩:=r
  cases (show T = "int" from ty)
  ~⟨typeIs_int s i t,λ_ e=>nomatch e⟩
 | ref p =>
  cases r
  rcases ty with⟨rfl,xs,hq⟩|⟨rfl,o,hk,hc,hd⟩|⟨rfl,hk⟩|⟨rfl,S,n,hk⟩
  ·#⟨its,_,pl,_⟩:=I.list hq
   !⟨pl.isList.typeIs,λa e=>?_⟩
   cases e
   #⟨o,n,e,c,hd,_⟩:=pl
   ~⟨o,e,hd⟩
  ·!⟨⟨o,I.kIn p o hk,hc⟩,λa e=>?_⟩
   cases e
   ~⟨o,I.kIn _ o hk,hd⟩
  ·have z:∃o,s.heap.get? p=some o/\o.ExactDict:=by
    rcases hk with⟨kvs,hk⟩|⟨kvs,hk⟩
    ·#⟨_,_,_,_,o,_,_,e,ex,_⟩:=I.hok p _ hk
     ~⟨o,e,ex⟩
    ·#⟨_,_,_,_,o,_,_,e,ex,_⟩:=I.hok p _ hk
     ~⟨o,e,ex⟩
   #⟨o,e,ex⟩:=z
   !⟨⟨o,e,ex.1⟩,λa e2=>?_⟩
   cases e2
   ~⟨o,e,ex.2.1⟩
  ·#⟨o,_,_,_,e,ex,_⟩:=I.hok p _ hk
   !⟨⟨o,e,ex.1⟩,λa e2=>?_⟩
   cases e2
   ~⟨o,e,ex.2.1⟩
 | _=>~AD2 ty
def tBM(K:AA5)(T:String)(r:V->List V->Hp->VK->Prop)(to:TE)(t:TA):TE:=λσ H Q=>to σ H λx H1=>tyV K T x H1/\t σ H1 λxs H2=>r x xs H2 Q
variable{o e:Expr}{es:List Expr}{to:TE}{t:TA}{name:Str}{apos cpos:Pos}{T id:String}{r:V->List V->Hp->VK->Prop}
¶MC(pa:PlainAttrs T)(slot:Slot T name id)(hty:typeOf (.builtin id)=pure (.type "method_descriptor"))(hm:MtR X id r)(ho:PE X o to)(ha:PA X (e::es) t)
  (hbase:attributeBase o name X.env (eval o X.env)=eval o X.env:=by rfl)
  (hfew:((backTo cpos (starEach (e::es) X.env)).all (λx=>!x.1)&&(backToKw cpos (keywordEach [] X.env)).all (λx=>x.1.isSome)
   && decide ((e::es).length+([]:List Keyword).length+(if ([]:List Keyword).isEmpty then 0 else 1)<30))=true:=by rfl)
  (hline:(apos.endLine==cpos.line)=true:=by rfl) (hs:starEach (e::es) X.env=(false,eval e X.env)::starEach es X.env:=by rfl) (hplain:(backTo cpos (starEach es X.env)).any (·.1)=false:=by rfl) :
  PE X (.Call (.Attribute o name apos) (e::es) [] cpos) (tBM X.K T r to t):=by
 intro pins s σ H Q I h
 !wpAny_Call_method_late hbase hfew hline rfl (thn (ho pins s σ H _ I h) λv s1 ⟨x,H1,I1,r1,ty,q1⟩=>?_)
 #⟨h1,h2⟩:=LP I1 r1 ty
 !⟨T,id,pa,slot,hty,h1,h2,?_⟩
 have hA:=ha cpos pins s1 σ H1 _ I1 q1
 rw[hs]at hA ⊢
 !Calls.callWith_builtin (by show (false||(backTo cpos (starEach es X.env)).any (·.1))=false;rw[hplain]<;>rfl) (Calls.evalArgs_plain ?_)
 ~thn hA λus s2 ⟨vs,H2,I2,r2,q2⟩=>hm pins s2 σ H2 x vs v us Q I2 r1 r2 q2
/- xs.append(e),list.index on a module's tuple .. are MtR facts of 06m -/
end
end L2
namespace L2
open PySem PySem.Spec PyProof.Rows
def MtM(X:Cx)(id:String)(r:V->List V->Hp->VK->Prop):Prop :=
 ∀(pins:List (Addr×Obj)) (s:Shared) (σ:St) (H:Hp) (x:V) (xs:List V) (v:Value) (us:List Value) (Q:VK),Inv X pins σ H s->bi x v->aL xs us->r x xs H Q ->
  wpAny (model X.prog X.w) X.A (call (.builtin id) (v::us)) (EP X pins σ Q) X.xe s
¶aL.one:∀{x:V}{us:List Value},aL [x] us->∃u,us=[u]/\bi x u
 | _,_,.cons r .nil=>⟨_,rfl,r⟩
¶aL.two:∀{x y:V}{us:List Value},aL [x,y] us->∃u v,us=[u,v]/\bi x u/\bi y v
 | _,_,_,.cons r (.cons q .nil)=>⟨_,_,rfl,r,q⟩
section
variable{X:Cx}{pins:List (Addr×Obj)}{σ:St}{H:Hp}{s:Shared}{l b:Addr}{xs ys zs:List V}
¶Inv.lset{its its':List Value}{n:Nat}{f:Array Value->Array Value}{t':Nat}(I:Inv X pins σ H s)(hH:H l=some (.lst xs))
  (e:s.heap.get? l=some { cls:=.type "list",data:=.seq its.toArray n }) (hf:f its.toArray=its'.toArray) (hv:aL ys its') (hz:ys.length<=sizeLine) :
  Inv X pins σ (upd H l (.lst ys)) { s with heap:=s.heap.update l (ABZ f),toks:=t' }:=by
 have q:=PySem.IsL.update e f
 rw[hf]at q
 !I.write (x:=l) (e:=l) (by rw[hH];~trivial) (.inl rfl) (λb' u hb hu=>(ABE s.heap (ABZ f) (AAz hb)).trans hu) ⟨_,q⟩ ?_
 ~⟨hz,its',_,hv,q⟩
¶Inv.lnew{its:List Value}{t':Nat}(I:Inv X pins σ H s)(hv:aL ys its)(hz:ys.length<=sizeLine) :
  Inv X pins σ (upd H s.heap.objs.size (.lst ys)) { s with heap:=s.heap.push { cls:=.type "list",data:=.seq its.toArray },toks:=t' } :=
 I.laid (λ_ _ q=>AA4 _ q) (AAC _) ⟨hz,its,0,hv,AAE _ rfl⟩
¶Inv.fresh(I:Inv X pins σ H s):H s.heap.objs.size=none:=I.hok.fresh (AAC _)
¶Inv.lstM(I:Inv X pins σ H s)(hH:H l=some (.lst xs)):xs.length<=sizeLine/\∃(its:List Value) (n:Nat),aL xs its/\xs.length=its.length/\s.heap.get? l=some { cls:=.type "list",data:=.seq its.toArray n }:=by
 #⟨z,its,n,r,e⟩:=I.hok l _ hH
 ~⟨z,its,n,r,r.length,e⟩
¶GF{n:Nat}(h:n<=sizeLine):ADT n=false:=by
 unfold ADT
 ~decide_eq_false ¤
end
section
variable{X:Cx}
def Jv:V->List V->Hp->VK->Prop:=λx vs H Q=>∃l xs y,x=.ref l/\vs=[y]/\H l=some (.lst xs)/\xs.length<sizeLine/\Q .non (upd H l (.lst (xs++[y])))
¶DO:MtM X "list.append" Jv:=by
 intro pins s σ H x vs v us Q I rx rv h
 #⟨l,xs,y,rfl,rfl,hH,hz,q⟩:=h
 cases rx
 #⟨u,rfl,ru⟩:=rv.one
 #⟨z,its,n,r,hl,e⟩:=I.lstM hH
 !call_meets F.slot_list_append ⟨_,e,rfl⟩ F.entry_list_append (F.args_list_append_2 _ _) (PySem.list_append l its.toArray n u (by rw[AAB];&)) ⟨e,?_⟩
 !⟨.non,_,I.lset (its':=its++[u]) hH e (by simp) (r.append (.cons ru .nil)) ?_,rfl,q⟩
 rw[AA8,AAX]
 &
def Ju:V->List V->Hp->VK->Prop:=λx vs H Q=>∃l b xs zs,x=.ref l/\vs=[.ref b]/\H l=some (.lst xs)/\H b=some (.lst zs)/\xs.length+zs.length<=sizeLine/\Q .non (upd H l (.lst (xs++zs)))
¶DN:MtM X "list.extend" Ju:=by
 intro pins s σ H x vs v us Q I rx rv h
 #⟨l,b,xs,zs,rfl,rfl,hH,hB,hz,q⟩:=h
 cases rx
 #⟨u,rfl,ru⟩:=rv.one
 cases ru
 #⟨z,its,n,r,hl,e⟩:=I.lstM hH
 #⟨z2,its2,n2,r2,hl2,e2⟩:=I.lstM hB
 have hsz:its.toArray.size+its2.toArray.size<=sizeLine:=by rw[AAB,AAB];&
 have hlong:¬(!its.toArray.isEmpty&&ADT (its.toArray.size+its2.toArray.size))=true:=by
  rw[GF hsz,ADw]
  ~AAb
 !call_meets F.slot_list_extend ⟨_,e,rfl⟩ F.entry_list_extend (F.args_list_extend_2 _ _)
  (AutoSeq1.list_extend_list_list_0 l its.toArray n b its2.toArray n2 hlong (by rw[AAB];&) ¤) ⟨e,e2,?_⟩
 !⟨.non,_,I.lset (its':=its++its2) hH e (by simp) (r.append r2) ?_,rfl,q⟩
 rw[AA8]
 &
def rCat:R2:=λx y H Q=>∃l b xs zs,x=.ref l/\y=.ref b/\H l=some (.lst xs)/\H b=some (.lst zs)/\xs.length+zs.length<=sizeLine/\∀p,H p=none->Q (.ref p) (upd H p (.lst (xs++zs)))
¶ML:OpR X (binaryOp .Add) rCat:=by
 intro pins s σ H x y v u Q I rx ry h
 #⟨l,b,xs,zs,rfl,rfl,hH,hB,hz,q⟩:=h
 cases rx
 cases ry
 #⟨z,its,n,r,hl,e⟩:=I.lstM hH
 #⟨z2,its2,n2,r2,hl2,e2⟩:=I.lstM hB
 !PySem.P.add_list e e2 ?_ (by rw[AAB,AAB];&)
 have ea:its.toArray++its2.toArray=(its++its2).toArray:=by simp
 rw[ea]
 ~⟨.ref _,_,I.lnew (t':=s.toks) (r.append r2) (by rw[AA8];&),rfl,q _ I.fresh⟩
end
section
variable{prog:Program}{w:World}{A:Around}{E:Value->Shared->Prop}{s:Shared}
end
section
variable{X:Cx}
end
end L2
namespace Att
open PySem PySem.W PySem.Calls PyProof.Rows
¶oF{P:Params}{h:Heap}:∀(ns:List Int) (vs:List Value),WellAll P h vs (ns.map WData.int)->IntsAre vs ns:=by
 intro ns
 induction ns with
 | nil =>
  intro vs w
  rw[ACh]at w
  cases w
  ~.nil
 | cons n ns ih =>
  intro vs w
  rw[AAL]at w
  cases w with
  | cons a b =>
   cases a
   ~.cons _ _ (ih _ b)
¶CJ{l:OpenLaw}{n:Nat}(hn:l.most=some n){P:Params}{h:Heap}{args:List WData}{vals:List Value}
  (hpre:l.row.toRowW.claim.pre args=true) (hwl:WellAll P h vals args) :
  ∃a vs ns,vals=[AB3 a]/\args=[WData.list (ns.map WData.int)]/\h.get? a=some { cls:=.type "list",data:=.seq vs.toArray }/\IntsAre vs ns/\ns.length<=n:=by
 have hsh:WShape.hasAll [] args [.list .int]=true:=(pre_splitW hpre).1
 have hc:l.pre.holds [] { args:=args }=true:=(pre_splitW hpre).2
 #⟨d,r,rfl,h1,h2⟩:=hasAllW_cons hsh
 #rfl:=hasAllW_nil h2
 #⟨xs,rfl,h3⟩:=hasW_list h1
 #⟨ns,rfl⟩:=items_int h3
 have hlen:ns.length<=n:=by
  unfold OpenLaw.pre at hc
  have h4:(WTm.not (.lt (.lit (.int (n:Int))) (.len (.arg 0)))).holds [] { args:=[.list (ns.map .int)] }=true:=by
   have h4:=(holds_andW hc).1
   rw[hn]at h4
   ~h4
  have h5:=condW_of h4 (w_not (w_lt w_lit (w_len_list (w_arg rfl))))
  rw[AA6]at h5
  !Nat.le_of_not_lt λq=>?_
  have q':(n:Int)<((ns.length:Nat):Int):=¤
  first
   | (rw[decide_eq_true q']at h5;~absurd h5 (by decide))
   | (simp at h5;&)
 cases hwl with
 | cons w1 w2 =>
  cases w2
  cases w1 with
  | list ho hall=>~⟨_,_,ns,rfl,rfl,ho,oF ns _ hall,hlen⟩
¶Dh(l:OpenLaw)(args:List WData):l.row.toRowW.claim.post args (.bool true) args=true :=
 postW_of (r:=l.row.toRowW) (X:=(true==true))
  (show WShape.has [] (.bool true) .bool=true by first | rfl | decide | simp[WShape.has,WShape.arms,WShape.armsAll])
  (show (WTm.eq .res (.lit (.bool true))).value [] { args:=args,res:=some (.bool true),after:=args }=some (.bool (true==true))from w_eq_bool (w_res rfl) w_lit) rfl
¶attach_call{l:OpenLaw}{n:Nat}{q:Program}{loose:List Str}{XP:(Str->Option Value)->Heap->Prop}{YP:World->Heap->Prop}{d:DefRec}
  (hn:l.most=some n) (hdf:d.params.defaults=[])
  (call:∀(w:World) (s₀ s₁:Shared) (mg mb:Str->Option Value) (fa:Addr) (o:Obj) (pm cd doc:Value) (a:Addr) (vs:List Value) (ns:List Int),
   Ground q loose [] XP w s₀ mg mb s₁.heap->YP w s₁.heap ->
   s₁.heap.get? fa=some o->o.data=.func (docDef d.name d.params d.body d.scope pm cd doc)->s₁.heap.CodeRec cd d.name->mg d.name=some (.ref fa) ->
   s₁.heap.get? a=some { cls:=.type "list",data:=.seq vs.toArray }->IntsAre vs ns->ns.length<=n->s₁.gens = #[] ->
   codeAny (model l.prog w) callerA (.call (.ref fa) ⟨[.ref a],[]⟩) (λr s'=>r=.ok (.ret (.bool true))/\OldK s₁.heap s'.heap/\s'.os=s₁.os/\AllBare s'.gens) s₁) :
  WalkO q loose XP YP l.row.toRowW d [] (λf vs=>PySem.call f vs):=by
 intro w s₀ s₁ mg mb G Y fa o pm cd doc dV kV ho hd hcd hD hmg hg args vals as hpre hlay hrd hwl hlo
 obtain rfl:dV=.none:=Dflts.none hD hdf
 obtain rfl:kV=.none:=Dflts.noKw hD
 #⟨a,vs,ns,rfl,rfl,hobj,hints,hlen⟩:=CJ hn hpre hwl
 !enter_call (ADR (call w s₀ s₁ mg mb fa o pm cd doc a vs ns G Y ho (fd_plain hd) hcd hmg hobj hints hlen hg) λr s' hq=>?_)
 #⟨rfl,h2,h3,h4⟩:=hq
 ~⟨.inl ⟨.bool true,.bool true,[],rfl,λ_=>rfl,.bool true,Dh l _,λ_=>⟨ADm,λ_ hm=>(nomatch hm)⟩⟩,h2,h3,h4⟩
section
variable{prog:Program}{w:World}{A:Around}{E:Value->Shared->Prop}{s:Shared}{K:Frag}
def zL(h:Heap):Heap:={ h with objs:=#[] }
¶kQ(h:Heap)(b:Addr):(zL h).get? b=none:=by
 cases e:(zL h).get? b with
 | none=>rfl
 | some o=>~absurd (AAG e) (ABy _)
def ledger(h:Heap)(L d:Addr):List (Addr×Obj):=(AAe h.objs.size).filterMap λa=>if a=L\/a=d then none else(h.get? a).map λo=>(a,o)
¶mem_ledger{h:Heap}{L d a:Addr}{o:Obj}:(a,o)∈ledger h L d↔a≠L/\a≠d/\h.get? a=some o:=by
 unfold ledger
 rw[List.mem_filterMap]
 constructor
 ·rintro⟨b,_,e⟩
  split at e
  ·cases e
  ·rename_i hb
   #⟨o',ho,e'⟩:=ABp.mp e
   cases e'
   ~⟨λq=>hb (.inl q),λq=>hb (.inr q),ho⟩
 ·rintro⟨n1,n2,ho⟩
  !⟨a,AAo.mpr (AAG ho),?_⟩
  rw[if_neg (show ¬(a=L\/a=d)from λq=>q.elim n1 n2),ho]<;>rfl
¶news_ledger{h:Heap}{L d:Addr}{od:Obj}(hne:d≠L)(ho:h.get? d=some od):News (zL h) L h ([]++(d,od)::ledger h L d):=by
 rintro⟨a,o⟩ hp
 rcases AAH.mp hp with e | hp
 ·cases e
  ~⟨ho,hne,kQ _ _⟩
 ·#⟨n1,n2,e⟩:=mem_ledger.mp hp
  ~⟨e,n1,kQ _ _⟩
¶fr_all{h:Heap}{L:Addr}{m:Str->Option Value}(n:h.Ns L m):Fr (zL h) L h m :=
 ⟨n,λb o e=>(by rw[kQ]at e;cases e),AAT _⟩
end
end Att
namespace L2
open PySem PySem.Spec PyProof.Rows
¶tM:∀{vs:List Value}{ns:List Int},IntsAre vs ns->aL (ns.map V.int) vs
 | _,_,.nil=>.nil
 | _,_,.cons n t h=>.cons ⟨t,rfl⟩ (tM h)
def Only(H:Hp):Prop:=∀b,H b=none\/∃o xs,H b=some (.frz o (.lst xs))
¶GW{P:Program}{w:World}{K:AA5}{mg mb:Str->Option Value}{CX:CXT}{k:Nat}{fa a:Addr}{fd:FuncData}{x:Str}{sp:Sp}{s₁:Shared}{vs:List Value}{ns:List Int}
  (KX:K.In s₁.heap) (hns:s₁.heap.Ns mainGlobals mg) (hb:s₁.heap.Ns builtinsNs mb) (hbb:∀x:Str,x≠"__name__"->mb x=bootBuiltins x) (hlim:s₁.heap.NoLimit) (hg:s₁.gens = #[])
  (ha:s₁.heap.get? a=some { cls:=.type "list",data:=.seq vs.toArray }) (hi:IntsAre vs ns) (hl:ns.length<=sizeLine) (hr:Room k callerA)
  (F:∀base:Heap,K.In base->base.Ns mainGlobals mg->FnOk P w K mg base CX k fa fd [x] sp) (hbind:∀(s:Shared) (u:Value),BindsTo s fd ⟨[u],[]⟩ [(x,u)])
  (hsp:∀H:Hp,Only H->SqL K H a (ns.map V.int)->sp [.ref a] H (λv _=>v=.bl true) λ_ _ _=>False)
  (hCX:∀H e s',CX [] H s₁ (λ_ _ _=>False) e s'->False) :
  codeAny (model P w) callerA (.call (.ref fa) ⟨[.ref a],[]⟩) (λr s'=>r=.ok (.ret (.bool true))/\OldK s₁.heap s'.heap/\s'.os=s₁.os/\AllBare s'.gens) s₁:=by
 have rv:=tM hi
 have lenV:=hi.length
 -- from an abstract heap in which nothing but the script may be tracked
 have core:∀H:Hp,Only H->SqL K H a (ns.map V.int)->HOk P w H s₁.heap->(∀b,H b≠none->b=a)->(H a≠none->K.lookup a=none) ->
   codeAny (model P w) callerA (.call (.ref fa) ⟨[.ref a],[]⟩) (λr s'=>r=.ok (.ret (.bool true))/\OldK s₁.heap s'.heap/\s'.os=s₁.os/\AllBare s'.gens) s₁:=by
  intro H hO hS hok hA hK
  have base_of:∀{b:Addr}{o:Obj},s₁.heap.get? b=some o->H b=none->(Hl s₁.heap H).get? b=some o:=λe n=>Hk e n
  have noA:∀{b:Addr}{o:Obj}{es:Array DictEntry}{ep:Nat},s₁.heap.get? b=some o->o.data=.dict es ep->H b=none:=λ{b o es ep} e d=>by
   cases q:H b with
   | none=>rfl
   | some u =>
    have e':b=a:=hA b (by rw[q];simp)
    subst e'
    rw[ha]at e;cases e
    have d':Data.seq vs.toArray _=Data.dict es ep:=d
    cases d'
  have nsK:∀{b:Addr}{m:Str->Option Value},s₁.heap.Ns b m->(Hl s₁.heap H).Ns b m:=λ{b m} ⟨o,es,ep,e,d,r⟩=>⟨o,es,ep,base_of e (noA e d),d,r⟩
  have hKb:K.In (Hl s₁.heap H):=λb o e=>base_of (KX b o e) (by
   cases q:H b with
   | none=>rfl
   | some u =>
    have e':b=a:=hA b (by rw[q];simp)
    subst e'
    rw[hK (by rw[q];simp)]at e;cases e)
  have hM:Mod K mg (Hl s₁.heap H):=⟨hKb,nsK hns,⟨mb,nsK hb,hbb⟩,let ⟨mc,h1,h2⟩:=hlim;⟨mc,nsK h1,h2⟩⟩
  have e0:Env0 P w K mg (Hl s₁.heap H) callerA [] s₁ H:=⟨rfl,hM,λb o e=>JY e,Nat.le_of_eq (Ez _ _),trivial,λb hb=>absurd (show b∈([]:List Addr)from hb) (by simp),hok,.of_eq hg⟩
  !ADR ((F _ hKb (nsK hns)).run callerA [] s₁ H ⟨[.ref a],[]⟩ [.ref a] [.ref a] _ _ hr e0 (hbind s₁ (.ref a)) (.cons rfl .nil) (hsp H hO hS)) λr s' h=>?_
  cases r with
  | error e=>~(hCX H e s' h).elim
  | ok fl =>
   cases fl with
   | next=>~AD2 h
   | brk=>~AD2 h
   | cont=>~AD2 h
   | ret u =>
    #⟨v,H',os,bare,un,hok',r',q⟩:=h
    have q':v=.bl true:=q
    subst q'
    obtain rfl:u=AD1 true:=r'
    !⟨rfl,OldK.of_keep λb o e=>?_,os,bare⟩
    cases q:H b with
    | none=>~un.keep b o e q (by intro z;~absurd (show b∈([]:List Addr)from z) (by simp)) (by simp)
    | some u =>
     rcases hO b with z | ⟨ob,xs,z⟩
     ·rw[q]at z;cases z
     ·have z2:=un.frzs b ob _ z
      #⟨e1,_⟩:=hok b _ z
      #⟨e2,_⟩:=hok' b _ z2
      rw[e]at e1;cases e1
      ~e2
 cases hk:K.lookup a with
 | some o =>
  -- the script is one of the module's own objects
  have e:=KX a o hk
  rw[ha]at e
  cases e
  !core (λ_=>none) (λ_=>.inl rfl) (.inr ⟨_,vs.toArray,_,hk,rfl,rfl,rfl,by rw[AAB,lenV];~hl,by simpa using rv⟩) (λb u z=>by have z':(none:Option HO)=some u:=z;cases z') (λb z=>absurd rfl z) λz=>absurd rfl z
 | none =>
  !core (λb=>if b=a then some (.frz { cls:=.type "list",data:=.seq vs.toArray } (.lst (ns.map V.int)))else none) (λb=>?_) (.inl (.inr ⟨{ cls:=.type "list",data:=.seq vs.toArray },if_pos rfl⟩)) (λb u z=>?_) (λb z=>?_) λ_=>hk
  ·by_cases hb:b=a
   ·~.inr ⟨_,_,if_pos hb⟩
   ·~.inl (if_neg hb)
  ·by_cases hb:b=a
   ·have z':=(if_pos hb).symm.trans z
    cases z'
    subst hb
    ~⟨ha,by rw[AA6];~hl,vs,_,rv,ha⟩
   ·have z':=(if_neg hb).symm.trans z
    cases z'
  ·by_cases hb:b=a
   ·~hb
   ·~absurd (if_neg hb) z
end L2
namespace L2
open PySem PySem.Spec PyProof.Rows
abbrev KOf{K:AA5}{h:Heap}(_:K.In h):AA5:=K
¶walk_of{l:PySem.W.OpenLaw}{n k:Nat}{q:Program}{loose:List Str}{XP:(Str->Option Value)->Heap->Prop}{YP:World->Heap->Prop}{d:DefRec}{K:Params->AA5}{CX:World->CXT}{sp:World->Sp}{x:Str}
  (hn:l.most=some n) (hn2:n<=sizeLine) (hdf:d.params.defaults=[]) (hr:Room k callerA)
  (hY:∀(w:World) (h:Heap),YP w h->(K w.params).In h)
  (F:∀(w:World) (mg:Str->Option Value) (fa:Addr) (h:Heap),(K w.params).In h->h.Ns mainGlobals mg->mg d.name=some (.ref fa) ->
   ∃fd:FuncData,(∀(s:Shared) (u:Value),BindsTo s fd ⟨[u],[]⟩ [(x,u)]) /\
    ∀base:Heap,(K w.params).In base->base.Ns mainGlobals mg->FnOk l.prog w (K w.params) mg base (CX w) k fa fd [x] (sp w))
  (hsp:∀(w:World) (H:Hp) (a:Addr) (ns:List Int),ns.length<=n->Only H->SqL (K w.params) H a (ns.map V.int)->sp w [.ref a] H (λv _=>v=.bl true) λ_ _ _=>False)
  (hCX:∀(w:World) (H:Hp) (s:Shared) (e:Value) (s':Shared),CX w [] H s (λ_ _ _=>False) e s'->False) :
  PySem.W.WalkO q loose XP YP l.row.toRowW d [] (λf vs=>PySem.call f vs):=by
 !Att.attach_call hn hdf λw s₀ s₁ mg mb fa o pm cd doc a vs ns G Y ho hd hcd hmg hobj hints hlen hg=>?_
 have KX:=hY w _ Y
 #⟨fd,hb,hF⟩:=F w mg fa _ KX G.T.g hmg
 ~GW KX G.T.g G.T.b G.T.builtins G.T.nolimit hg hobj hints (ABN hlen hn2) hr hF hb (λH hO hS=>hsp w H a ns hlen hO hS) λH e s'=>hCX w H s₁ e s'
end L2
namespace L2
open PySem PySem.Spec PyProof.Rows
def ju(s:Stmt):Arguments:=match s with
 | .FunctionDef _ a _ _ _ _ _ _ _ _=>a
 | _=>{ posonlyargs:=[],args:=[],vararg:=none,kwonlyargs:=[],kw_defaults:=[],kwarg:=none,defaults:=[] }
def cI(s:Stmt):List Stmt:=match s with
 | .FunctionDef _ _ b _ _ _ _ _ _ _=>b
 | _=>[]
def ak(s:Stmt):Scope:=match s with
 | .FunctionDef _ _ _ _ _ _ sc _ _ _=>sc
 | _=>{ kind:=.function,names:=[],isGenerator:=false,isCoroutine:=false }
abbrev CX0:CXT:=λ_ _ _ _ _ _=>False
abbrev E0:XK:=λ_ _ _=>False
¶pass0{X:Cx}:Fu CX0 X E0:=λ_ _ _ _ _ _ _ h=>h.elim
structure Fun(K:AA5)(x qual:Str)(st:Stmt)(f:Addr)(fd:FuncData):Prop where
 ex:∃(oc:Value) (od:Option Addr) (kV doc pm:Value) (an:Option Addr) (cdv ct:Value) (osl:Array (Option Value)),
  fd=ACf x qual (ju st) (cI st) (ak st) .none kV doc pm an cdv ct/\K.lookup f=some ⟨oc,od,.func fd,osl⟩/\AEM K cdv qual=true
 kp:ACU K (.ref f)=true
section
variable{P:Program}{w:World}{K:AA5}{mg:Str->Option Value}{base:Heap}
¶Fun.ok{x qual:Str}{st:Stmt}{f:Addr}{fd:FuncData}{N ps:List Str}{k:Nat}{sp:Sp}(F:Fun K x qual st f fd)(S:FnScope N ps (ak st))(len:∀vs H Q E,sp vs H Q E->vs.length=ps.length)
  (hbody:∀(cdv:Value) (A:Around) (outer:List Env) (s:Shared) (H:Hp) (vs:List V) (Q:VK) (E:XK),Room k (A.deeper (envOfC qual (ak st) s.heap.objs.size f cdv))->sp vs H Q E ->
   ∃t,PSs (BM CX0 P w K mg base N qual (ak st) f cdv A outer s H E).nox (cI st) t/\t { nx:=λ_ H'=>Q .non H',rt:=Q } (start N vs) H):FnOk P w K mg base CX0 (k+1) f fd ps sp:=by
 #⟨oc,od,kV,doc,pm,an,cdv,ct,osl,rfl,lk,hcd⟩:=F.ex
 !fn_of lk hcd S len λA outer s H vs Q E hr hsp=>?_
 #⟨t,h,q⟩:=hbody cdv A outer s H vs Q E hr hsp
 ~⟨t,h.nox,q⟩
¶Fun.binds{x qual:Str}{st:Stmt}{f:Addr}{fd:FuncData}{ps:List Str}(F:Fun K x qual st f fd)
  (h:∀(kV doc pm:Value) (an:Option Addr) (cdv ct:Value) (us:List Value),us.length=ps.length->bindArgs (ACf x qual (ju st) (cI st) (ak st) .none kV doc pm an cdv ct) ⟨us,[]⟩=pure (ps.zip us)):wO K fd ps []:=by
 #⟨oc,od,kV,doc,pm,an,cdv,ct,osl,rfl,lk,hcd⟩:=F.ex
 ~.all (h kV doc pm an cdv ct)
¶NJ{x qual:Str}{st:Stmt}{f:Addr}{oc:Value}{od an:Option Addr}{osl:Array (Option Value)}{kV doc pm cdv ct:Value}(l:K.lookup f=some ⟨oc,od,.func (ACf x qual (ju st) (cI st) (ak st) .none kV doc pm an cdv ct),osl⟩)
  (c:AEM K cdv qual=true) (k:ACU K (.ref f)=true):Fun K x qual st f (ACf x qual (ju st) (cI st) (ak st) .none kV doc pm an cdv ct):=⟨⟨oc,od,kV,doc,pm,an,cdv,ct,osl,rfl,l,c⟩,k⟩
end
¶small1000{n:Nat}(h:n<=1000):n<sizeLine:=Nat.lt_of_le_of_lt h (by decide)
section
variable{X:Cx}
¶pv(i:Nat){x:Str}{pos:Pos}(hN:X.N[i]?=some x:=by rfl)(hv:Vis X.env.scope x:=by first | ~Or.inl rfl | ~Or.inr (Or.inl rfl) | ~Or.inr (Or.inr rfl))(hd:(x==("__debug__":Str))=false:=by decide)
  (hcd:(x==("__classdict__":Str))=false:=by decide):PE X (.Name x pos) (tVar i):=Dp hN hv hd hcd
end
¶bH{A B:Prop}(h:B):if false=true then A else B:=by
 rw[if_neg AAb]
 ~h
¶bb{A B:Prop}(h:A):if true=true then A else B:=by
 rw[if_pos rfl]
 ~h
end L2
namespace L2
open PySem PySem.Spec PyProof.Rows
section
variable{κ:Type}[DecidableEq κ]
def Je(kvs:List (κ×V))(k:κ):Option V:=(kvs.find? λkv=>decide (kv.1=k)).map (·.2)
def wQ(kvs:List (κ×V))(k:κ)(v:V):List (κ×V) :=
 if (kvs.any λkv=>decide (kv.1=k))=true then kvs.map (λkv=>if kv.1=k then(kv.1,v)else kv)else kvs++[(k,v)]
¶yW{p:κ×V}{r:List (κ×V)}{k:κ}(e:p.1=k):Je (p::r) k=some p.2:=by simp[Je,AB7,e]
¶yX{p:κ×V}{r:List (κ×V)}{k:κ}(e:¬p.1=k):Je (p::r) k=Je r k:=by simp[Je,AB7,e]
¶yY(k:κ):∀kvs:List (κ×V),(kvs.any λkv=>decide (kv.1=k))=(Je kvs k).isSome
 | []=>rfl
 | p::r=>by
  rw[ABe]
  by_cases e:p.1=k
  ·simp only[yW e,decide_eq_true e,Bool.true_or,Option.isSome_some]
  ·rw[yX e,decide_eq_false e,Bool.false_or];~yY k r
¶jq(kvs:List (κ×V))(k:κ)(v:V):(wQ kvs k v).length<=kvs.length+1:=by
 unfold wQ
 split
 ·rw[AA6];&
 ·rw[AA8,AAA,AAW];&
¶Oz.isSome_eq{o:Option V}{u:Option Value}(r:Oz o u):o.isSome=u.isSome:=by
 cases o with
 | none=>cases u with
  | none=>rfl
  | some _=>~(show False from r).elim
 | some _=>cases u with
  | none=>~(show False from r).elim
  | some _=>rfl
¶KV.any{kvs:List (κ×V)}{vs:List (κ×Value)}(r:KV kvs vs)(k:κ):(kvs.any λkv=>decide (kv.1=k))=vs.any λkv=>decide (kv.1=k):=by
 unfold KV at r
 induction r with
 | nil=>rfl
 | cons h t ih=>rw[ABe,ABe,ih,h.1]
¶KV.repl{kvs:List (κ×V)}{vs:List (κ×Value)}(r:KV kvs vs)(k:κ){y:V}{u:Value}(ry:bi y u) :
  KV (kvs.map λkv=>if kv.1=k then(kv.1,y)else kv) (vs.map λkv=>if kv.1=k then(kv.1,u)else kv):=by
 unfold KV at r ⊢
 induction r with
 | nil=>~.nil
 | @cons p q ps qs h t ih =>
  rw[AAL,AAL]
  !.cons ?_ ih
  #⟨h1,h2⟩:=h
  by_cases e:p.1=k
  ·rw[if_pos e,if_pos (h1.symm.trans e)];~⟨h1,ry⟩
  ·rw[if_neg e,if_neg (λz=>e (h1.trans z))];~⟨h1,h2⟩
¶KV.put{kvs:List (κ×V)}{vs:List (κ×Value)}(r:KV kvs vs)(k:κ){y:V}{u:Value}(ry:bi y u):KV (wQ kvs k y) (stored vs k u):=by
 unfold wQ stored
 rw[r.any k]
 by_cases e:(vs.any λkv=>decide (kv.1=k))=true
 ·rw[if_pos e,if_pos e];~r.repl k ry
 ·rw[if_neg e,if_neg e];~Paired.snoc r ⟨rfl,ry⟩
¶KV.length{kvs:List (κ×V)}{vs:List (κ×Value)}(r:KV kvs vs):kvs.length=vs.length:=AES r
end
¶Kr{P:Program}{w:World}{k:Key}{u:Value}(r:bi (kV k) u):(cj P w).is k u=true:=by
 cases k with
 | inl i=>#⟨t,e⟩:=(show ∃t,u=Value.int i t from r);subst e;~xU P w i t
 | inr x=>#⟨t,e⟩:=(show ∃t,u=Value.str x t from r);subst e;~xT P w x t
¶vM{P:Program}{w:World}:∀{ks:List Key}{us:List Value},aL (ks.map kV) us->ItemsAre (cj P w) ks us
 | [],_,r=>by rw[ACh]at r;cases r;~.nil
 | k::ks,_,r=>by
  rw[AAL]at r
  cases r with
  | cons h t=>~.cons (Kr h) (vM t)
abbrev KT(H:Hp):List (List Key×V)->List (List Key×Addr×Value)->Prop:=Paired λp q=>p.1=q.1/\H q.2.1=some (.tup (p.1.map kV))/\bi p.2 q.2.2
¶KT.val{H:Hp}{kvs:List (List Key×V)}{xs:List (List Key×Addr×Value)}(r:KT H kvs xs)(k:List Key):Oz (Je kvs k) ((atKey xs k).map (·.2)):=by
 induction r with
 | nil=>~AD3
 | @cons p q ps qs h t ih =>
  #⟨h1,_,h2⟩:=h
  by_cases e:p.1=k
  ·have e':q.1=k:=h1.symm.trans e
   have b:atKey (q::qs) k=some q.2:=by simp[atKey,AB7,e']
   rw[yW e,b];~h2
  ·have e':¬q.1=k:=λz=>e (h1.trans z)
   have b:atKey (q::qs) k=atKey qs k:=by simp[atKey,AB7,e']
   rw[yX e,b];~ih
¶KT.repl{H:Hp}{kvs:List (List Key×V)}{xs:List (List Key×Addr×Value)}(r:KT H kvs xs)(k:List Key){y:V}{u:Value}(ry:bi y u) :
  KT H (kvs.map λkv=>if kv.1=k then(kv.1,y)else kv) (xs.map (putAt k u)):=by
 induction r with
 | nil=>~.nil
 | @cons p q ps qs h t ih =>
  rw[AAL,AAL]
  !.cons ?_ ih
  #⟨h1,h2,h3⟩:=h
  unfold putAt
  by_cases e:p.1=k
  ·rw[if_pos e,if_pos (h1.symm.trans e)];~⟨h1,h2,ry⟩
  ·rw[if_neg e,if_neg (λz=>e (h1.trans z))];~⟨h1,h2,h3⟩
¶KT.put{H:Hp}{kvs:List (List Key×V)}{xs:List (List Key×Addr×Value)}(r:KT H kvs xs)(k:List Key){b:Addr}{y:V}{u:Value}(hb:H b=some (.tup (k.map kV)))(ry:bi y u) :
  KT H (wQ kvs k y) (storedH xs k b u):=by
 have e:(kvs.any λkv=>decide (kv.1=k))=(atKey xs k).isSome:=by
  rw[yY,(r.val k).isSome_eq,Option.isSome_map]
 unfold wQ storedH
 rw[e]
 by_cases q:(atKey xs k).isSome=true
 ·rw[if_pos q,if_pos q];~r.repl k ry
 ·rw[if_neg q,if_neg q];~Paired.snoc r ⟨rfl,hb,ry⟩
¶KT.keeps{H H':Hp}{kvs:List (List Key×V)}{xs:List (List Key×Addr×Value)}(r:KT H kvs xs)(ht:∀b ys,H b=some (.tup ys)->H' b=some (.tup ys)):KT H' kvs xs :=
 Paired.mapP r λ_ _ z=>⟨z.1,ht _ _ z.2.1,z.2.2⟩
section
variable{P:Program}{w:World}{H:Hp}{h:Heap}{a:Addr}
¶Md{u:HO}(ok:HOk P w H h)(e:Rd H a u):cL P w H h a u:=e.ok ok
¶dk_rd{kvs:List (Key×V)}(ok:HOk P w H h)(e:Rd H a (.dK kvs)):kvs.length<=sizeLine/\(a==sysModules)=false/\∃vs,KV kvs vs/\h.DictOf (cj P w) a vs :=
 show cL P w H h a (.dK kvs)from Md ok e
¶NZ{kvs:List (Key×V)}(ok:HOk P w H h)(e:H a=some (.dK kvs)):kvs.length<=sizeLine/\(a==sysModules)=false/\∃vs,KV kvs vs/\h.DictOf (cj P w) a vs:=dk_rd ok (.inl e)
¶Ix{ks:List Key}(ok:HOk P w H h)(e:H a=some (.tup (ks.map kV))):(tupleKind (cj P w)).is h ks a:=by
 #⟨_,its,r,o,h1,h2,⟨n,h3⟩,_⟩:=(show cL P w H h a (.tup (ks.map kV))from ok a _ e)
 ~⟨o,its.toArray,n,h1,h2,h3,by simpa using vM r⟩
¶dt_rd{kvs:List (List Key×V)}(ok:HOk P w H h)(e:Rd H a (.dT kvs)):kvs.length<=sizeLine/\(a==sysModules)=false /\
  ∃xs,KT H kvs xs/\h.DictOfH (tupleKind (cj P w)) a xs:=by
 #⟨z,y,xs,r,o,es,ep,h1,h2,h3,h4,h5⟩:=(show cL P w H h a (.dT kvs)from Md ok e)
 !⟨z,y,xs,r,o,es,ep,h1,h2,h3,h4,λx hx=>?_,h5⟩
 have all:∀{l:List (List Key×V)}{m:List (List Key×Addr×Value)},KT H l m->∀x∈m,(tupleKind (cj P w)).is h x.1 x.2.1:=by
  intro l m q
  induction q with
  | nil=>intro x hx;~nomatch hx
  | @cons p q ps qs hq t ih =>
   intro x hx
   rcases AAH.mp hx with e | hx
   ·subst e
    ~Ix ok (by rw[←hq.1];~hq.2.1)
   ·~ih x hx
 ~all r x hx
¶dt_of{kvs:List (List Key×V)}(ok:HOk P w H h)(e:H a=some (.dT kvs)):kvs.length<=sizeLine/\(a==sysModules)=false /\
  ∃xs,KT H kvs xs/\h.DictOfH (tupleKind (cj P w)) a xs:=dt_rd ok (.inl e)
end
def DPut(H:Hp)(a:Addr)(y v:V)(H':Hp):Prop :=
 (∃kvs k,H a=some (.dK kvs)/\y=kV k/\kvs.length<sizeLine/\H'=upd H a (.dK (wQ kvs k v))) \/
 ∃kvs k b,H a=some (.dT kvs)/\y=.ref b/\H b=some (.tup (k.map kV))/\kvs.length<sizeLine/\H'=upd H a (.dT (wQ kvs k v))
section
variable{X:Cx}{pins:List (Addr×Obj)}{σ:St}{H:Hp}{s:Shared}{a:Addr}{y v:V}{u r:Value}{o:Option V}{A:Around}{E:Value->Shared->Prop}
¶Inv.big(I:Inv X pins σ H s):sysModules<s.heap.objs.size:=by
 have h:mainGlobals<s.heap.objs.size:=(I.mod.glob.keeps I.bk).lt
 ~ADx (by decide) h
¶sU{h':Heap}{t':Nat}{ob:HO}(I:Inv X pins σ H s)(mu:Mut (H a))(hs:ABO a s.heap h')(he:∃q,h'.get? a=some q)(new:cL X.prog X.w (upd H a ob) h' a ob) :
  Inv X pins σ (upd H a ob) { s with heap:=h',toks:=t' } :=
 I.write (x:=a) (e:=a) mu (.inl rfl) (λb q hb z=>(hs.2 b hb).trans z) he new
¶II{P:Program}{w:World}{H':Hp}{h':Heap}{kvs:List (Key×V)}{vs:List (Key×Value)}(z:kvs.length<=sizeLine)(hd:(a==sysModules)=false)(rel:KV kvs vs)(dd:h'.DictOf (cj P w) a vs) :
  cL P w H' h' a (.dK kvs):=⟨z,hd,vs,rel,dd⟩
¶EZ{H':Hp}{Q:Unit->Shared->Prop}(hu:A.units+1<cLine)(I:Inv X pins σ H s)(g:DPut H a y v H')(ry:bi y u)(rv:bi v r)(h:∀s',Inv X pins σ H' s'->Q () s') :
  wpAny (model X.prog X.w) A (setItem (.ref a) u r) Q E s:=by
 rcases g with⟨kvs,k,e,ey,l,eH⟩|⟨kvs,k,b,e,ey,eb,l,eH⟩
 ·subst ey eH
  #⟨z,hd,vs,rel,dd⟩:=NZ I.hok e
  have hz:vs.length<=sizeLine:=by rw[←rel.length];~z
  have hl:(wQ kvs k v).length<=sizeLine:=by have:=jq kvs k v;&
  !wpAny_setItem_pairs (hsz:=hz) (Kr ry) dd λh' dd' hs=>h _ ?_
  have he:∃q,h'.get? a=some q:=let ⟨q,_,_,hq,_⟩:=dd';⟨q,hq⟩
  ~sU I (by rw[e];~AD3) hs he (II hl hd (rel.put k rv) dd')
 ·subst ey eH
  cases (show u=AB3 b from ry)
  #⟨z,hd,xs,rel,dd⟩:=dt_of I.hok e
  have hz:xs.length<=sizeLine:=by rw[←AES rel];~z
  have hl:(wQ kvs k v).length<=sizeLine:=by have:=jq kvs k v;&
  !wpAny_setItem_heap (hsz:=hz) (tupleKind_room_in1 hu) (Ix I.hok eb) dd λh' dd' hs=>h _ ?_
  #⟨q,es,ep,hq,h2,h3,h4,_,h5⟩:=dd'
  !sU I (by rw[e];~AD3) hs ⟨q,hq⟩ ⟨hl,hd,_,(rel.put k eb rv).keeps λc ys ec=>?_,q,es,ep,hq,h2,h3,h4,h5⟩
  rw[aJ (xR ec e (λz=>nomatch z))]
  ~ec
end
section
variable{X:Cx}{pins:List (Addr×Obj)}{σ:St}{H:Hp}{s:Shared}{a:Addr}{kvs:List (Key×V)}{k:Key}{u:Value}{A:Around}{E:Value->Shared->Prop}
end
def sDPut(td ty tv:TE):TS:=λD σ H=>tv σ H λv H1=>td σ H1 λx H2=>ty σ H2 λy H3=>∃a H4,x=.ref a/\DPut H3 a y v H4/\D.nx σ H4
section
variable{X:Cx}{o i e value:Expr}{pos pos' tpos:Pos}{td ty tv:TE}
¶JD(hu:X.A.units+1<cLine)(ho:PE X o td)(hi:PE X i ty)(hv:PE X value tv)(hs:swapsWith value (some (.Subscript o i pos')) pos.line X.env=pure false) :
  PS X (.Assign [.Subscript o i pos'] value pos) (sDPut td ty tv):=by
 intro pins s σ H D I h
 !wpAny_Assign_Subscript (thn (hv pins s σ H _ I h) λr s1 ⟨v,H1,I1,rv,q1⟩=>thn (ho pins s1 σ H1 _ I1 q1) λu s2 ⟨x,H2,I2,rx,q2⟩=>thn (hi pins s2 σ H2 _ I2 q2) λiv s3 ⟨y,H3,I3,ry,a,H4,ex,g,q3⟩=>?_) hs
 subst ex
 obtain rfl:u=AB3 a:=rx
 ~EZ hu I3 g ry rv λs4 I4=>⟨σ,H4,I4,q3⟩
end
¶Hy{P:Program}{w:World}{H:Hp}(h:Heap)(hb:sysModules<h.objs.size):cL P w H (h.push { cls:=.type "dict",data:=.dict #[] }) h.objs.size (.dK []) :=
 ⟨AAT _,beq_eq_false_iff_ne.mpr (AAz (AAQ hb)),[],.nil,Heap.DictOf.new h⟩
section
variable{X:Cx}{pos:Pos}
end
def Cu:List (TE×TE)->St->Hp->(List (V×V)->Hp->Prop)->Prop
 | [],_,H,Q=>Q [] H
 | (tk,tv)::r,σ,H,Q=>tk σ H λx H1=>tv σ H1 λy H2=>Cu r σ H2 λps H3=>Q ((x,y)::ps) H3
abbrev VV:List (V×V)->List (Value×Value)->Prop:=Paired λp q=>bi p.1 q.1/\bi p.2 q.2
def PPs(X:Cx)(pos:Pos)(keys:List (Option Expr))(values:List Expr)(trs:List (TE×TE)):Prop :=
 ∀(pins:List (Addr×Obj)) (s:Shared) (σ:St) (H:Hp) (Q:List (V×V)->Hp->Prop),Inv X pins σ H s->Cu trs σ H Q ->
  wpAny (model X.prog X.w) X.A (evalPairs (pairTrees keys values X.env pos)) (λvs s'=>∃ps H',Inv X pins σ H' s'/\VV ps vs/\Q ps H') X.xe s
¶JE{X:Cx}{pos:Pos}:PPs X pos [] [] []:=λpins s σ H Q I h=>pairTrees_nil_walk ⟨[],H,I,.nil,h⟩
¶Gn{X:Cx}{pos:Pos}{k v:Expr}{ks:List (Option Expr)}{vs:List Expr}{tk tv:TE}{trs:List (TE×TE)}(hk:PE X k tk)(hv:PE X v tv)(hr:PPs X pos ks vs trs) :
  PPs X pos (some k::ks) (v::vs) ((tk,tv)::trs):=λpins s σ H Q I h =>
 pairTrees_cons_walk (thn (hk pins s σ H _ I h) λu s1 ⟨x,H1,I1,rx,q1⟩=>thn (hv pins s1 σ H1 _ I1 q1) λw2 s2 ⟨y,H2,I2,ry,q2⟩ =>
  thn (hr pins s2 σ H2 _ I2 q2) λws s3 ⟨ps,H3,I3,rel,q3⟩=>⟨(x,y)::ps,H3,I3,.cons ⟨rx,ry⟩ rel,q3⟩)
def qy(kvs more:List (Key×V)):List (Key×V):=more.foldl (λacc kv=>wQ acc kv.1 kv.2) kvs
¶KV.merge:∀{more:List (Key×V)}{rs:List (Key×Value)}{kvs:List (Key×V)}{vs:List (Key×Value)},KV more rs->KV kvs vs->KV (qy kvs more) (merged vs rs):=by
 intro more rs kvs vs r
 unfold KV at r
 induction r generalizing kvs vs with
 | nil=>intro q;~q
 | @cons p q ps qs h t ih =>
  intro r0
  have e:KV (wQ kvs p.1 p.2) (stored vs q.1 q.2):=by
   have:=r0.put p.1 h.2
   rw[←h.1];~this
  ~ih e
¶jT:∀(more kvs:List (Key×V)),(qy kvs more).length<=kvs.length+more.length
 | [],kvs=>by show kvs.length<=kvs.length+0;&
 | p::r,kvs=>by
  have h1:=jT r (wQ kvs p.1 p.2)
  have h2:=jq kvs p.1 p.2
  show (qy (wQ kvs p.1 p.2) r).length<=_
  rw[AAA];&
¶qI{P:Program}{w:World}:∀{kvs:List (Key×V)}{ws:List (Value×Value)},VV (kvs.map λkv=>(kV kv.1,kv.2)) ws->∃rs,Carries (cj P w) ws rs/\KV kvs rs
 | [],_,r=>by rw[ACh]at r;cases r;~⟨[],AD3,.nil⟩
 | p::kvs,_,r=>by
  rw[AAL]at r
  cases r with
  | @cons a b as bs h t =>
   #⟨rs,c,q⟩:=qI (P:=P) (w:=w) t
   #⟨b1,b2⟩:=b
   ~⟨(p.1,b2)::rs,⟨Kr h.1,rfl,c⟩,.cons ⟨rfl,h.2⟩ q⟩
def tDisp(trs:List (TE×TE)):TE:=λσ H Q=>∀p,H p=none->Cu trs σ (upd H p (.dK [])) λps H2=>H2 p=some (.dK [])/\∃kvs:List (Key×V),ps=kvs.map (λkv=>(kV kv.1,kv.2))/\kvs.length<=15/\Q (.ref p) (upd H2 p (.dK (qy [] kvs)))
¶JJ{X:Cx}{pos:Pos}{keys:List (Option Expr)}{values:List Expr}{trs:List (TE×TE)}(h:PPs X pos keys values trs)(hall:keys.all (·.isSome)=true)(hl:keys.length=values.length)(h0:keys≠[])
  (h15:keys.length<=15):PE X (.Dict keys values pos) (tDisp trs):=by
 intro pins s σ H Q I q
 have hn:=I.hok.fresh (AAC s.heap.objs.size)
 have I1:=I.laid (a:=s.heap.objs.size) (o:=.dK []) (h':=s.heap.push { cls:=.type "dict",data:=.dict #[] }) (t':=s.toks) (λ_ _ q=>AA4 _ q) (AAC _) (Hy s.heap I.big)
 !wpAny_Dict_walk (knd:=cj X.prog X.w) hall hl h0 h15 (thn (h pins _ σ _ _ I1 (q _ hn)) λws s2 ⟨ps,H2,I2,rel,e,kvs,ep,lk,q2⟩=>?_)
 subst ep
 #⟨rs,c,rk⟩:=qI (P:=X.prog) (w:=X.w) rel
 #⟨z,hd,vs0,r0,dd⟩:=NZ I2.hok e
 cases r0
 !⟨rs,c,dd,λh' dd' hs=>⟨.ref s.heap.objs.size,_,?_,rfl,q2⟩⟩
 have hz:(qy [] kvs).length<=sizeLine:=by
  have h1:=jT kvs []
  rw[AAW]at h1
  rw[ABm];&
 have he:∃q,h'.get? s.heap.objs.size=some q:=let ⟨q,_,_,hq,_⟩:=dd';⟨q,hq⟩
 ~sU I2 (by rw[e];~AD3) hs he (II hz hd (rk.merge .nil) dd')
end L2
namespace DL
open PySem
¶jv(env:Env):∀(names:List (Str×NameKind)) (acc:List (Str×Addr)),
  (∀p∈names,p.2=ABP->∃c,env.cells.lookup p.1=some c) ->
  ∃cl,(forIn (m:=Sem) names acc λ(p:Str×NameKind) (r:List (Str×Addr)) =>
    if (p.2==ABP)=true then(do let a ←cellOf env p.1;pure (AE9 ((p.1,a)::r)))else pure (AE9 r))=pure cl /\
   (∀z c,cl.lookup z=some c->acc.lookup z=some c\/env.cells.lookup z=some c) /\
   (∀z c,acc.lookup z=some c->∃c',cl.lookup z=some c') /\
   (∀p∈names,p.2=ABP->∃c,cl.lookup p.1=some c)
 | [],acc,_=>⟨acc,rfl,λ_ _ h=>.inl h,λz c h=>⟨c,h⟩,λ_ h=>nomatch h⟩
 | (n,k)::bn,acc,hyp=>by
  by_cases hk:k=ABP
  ·subst hk
   #⟨c0,hc0⟩:=hyp (n,.free) AAI rfl
   #⟨cl,e,h1,h2,h3⟩:=jv env bn ((n,c0)::acc) λp hp=>hyp p (AA9 _ hp)
   have ce:cellOf env n=pure c0:=by unfold cellOf;rw[hc0]
   have own:∃c',cl.lookup n=some c':=h2 n c0 (by simp[ABY])
   !⟨cl,?_,λz c hz=>?_,λz c hz=>?_,λp hp hf=>?_⟩
   ·rw[AEA]
    simp only[beq_self_eq_true,if_true,ce,pure_bind]
    ~e
   ·rcases h1 z c hz with q | q
    ·rw[ABY]at q
     by_cases hz':(z==n)=true
     ·rw[hz']at q
      have:z=n:=by simpa using hz'
      subst this
      cases q
      ~.inr hc0
     ·have hz'':(z==n)=false:=by simpa using hz'
      rw[hz'']at q
      ~.inl q
    ·~.inr q
   ·by_cases hz':z=n
    ·subst hz';~own
    ·!h2 z c ?_
     rw[ABY]
     have hz'':(z==n)=false:=by simpa using hz'
     rw[hz'']
     ~hz
   ·rcases AAH.mp hp with rfl | hp
    ·~own
    ·~h3 p hp hf
  ·have hb:(k==ABP)=false:=by simpa using hk
   #⟨cl,e,h1,h2,h3⟩:=jv env bn acc λp hp=>hyp p (AA9 _ hp)
   !⟨cl,?_,h1,h2,λp hp hf=>?_⟩
   ·rw[AEA]
    simp only[hb,AAF,if_false,pure_bind]
    ~e
   ·rcases AAH.mp hp with rfl | hp
    ·~absurd hf hk
    ·~h3 p hp hf
¶lQ{scope:Scope}{env:Env}(hyp:∀p∈scope.names,p.2=ABP->∃c,env.cells.lookup p.1=some c) :
  ∃cl,closureFor scope env=pure cl/\(∀z c,cl.lookup z=some c->env.cells.lookup z=some c)/\(∀p∈scope.names,p.2=ABP->∃c,cl.lookup p.1=some c):=by
 #⟨cl,e,h1,h2,h3⟩:=jv env scope.names [] hyp
 !⟨cl,?_,λz c hz=>?_,h3⟩
 ·unfold closureFor
  simp only[bind_pure]
  ~e
 ·rcases h1 z c hz with q | q
  ·simp at q
  ·~q
¶gK{env:Env}:∀{names:List (Str×NameKind)}{x:Str}{k:NameKind},
  (names.map λ(p:Str×NameKind)=>if (p.2==ABP&&env.scope.kind==.function&&env.kindOf p.1==some .cell)=true then(p.1,AET)else(p.1,p.2)).lookup x=some k ->
   (names.lookup x=some k\/(k=AET/\names.lookup x=some .free))
 | [],_,_,h=>by simp at h
 | (n,j)::bn,x,k,h=>by
  have ih:=@gK env bn x k
  rw[AAL,ABY]at h
  by_cases hx:(x==n)=true
  ·have hl:List.lookup x ((n,j)::bn)=some j:=by rw[ABY,hx]
   rw[hl]
   by_cases hc:(j==ABP&&env.scope.kind==.function&&env.kindOf n==some .cell)=true
   ·simp only[hc,if_true,hx]at h
    cases h
    have:j=ABP:=by
     simp only[AAD]at hc
     simpa using hc.1.1
    ~.inr ⟨rfl,by rw[this]⟩
   ·simp only[hc,AAF,if_false,hx]at h
    ~.inl h
  ·have hx':(x==n)=false:=by simpa using hx
   have hl:List.lookup x ((n,j)::bn)=List.lookup x bn:=by rw[ABY,hx']
   rw[hl]
   !ih ?_
   by_cases hc:(j==ABP&&env.scope.kind==.function&&env.kindOf n==some .cell)=true
   ·simp only[hc,if_true,hx']at h
    ~h
   ·simp only[hc,AAF,if_false,hx']at h
    ~h
section
variable{prog:Program}{w:World}{A:Around}{R:Result->Shared->Prop}{s:Shared}
¶qW(ifs:List Expr)(env:Env):compTests ifs env =
  (forIn ifs true λc r=>if r=true then do let ok ←isTrue c env (eval c env);pure (AE9 ok)else pure (AE9 r)):=by
 unfold compTests
 simp only[bind_pure]
¶BD{elt target iter:Expr}{ifs:List Expr}{scope:Scope}{pos:Pos}{it acc:Value}{env:Env}(J:Nat->Shared->Prop)(ne:Value->Shared->Prop)
  (hne:∀e s',ne e s'->notedBy (model prog w) A env (λe s'=>R (.error e) s') e s')
  (turn:∀n s,J n s->wpAny (model prog w) A (pyNext it) (λr s1=>match r with
   | none=>R (.ok .next) s1
   | some v=>wpAny (model prog w) A (letOwnedTupleGo target it v) (λ_ s2=>wpAny (model prog w) A (assign target env v) (λ_ s3 =>
     wpAny (model prog w) A (compTests ifs env) (λok s4 =>
      if ok=true then wpAny (model prog w) A (eval elt env) (λy s5=>wpAny (model prog w) A (call (.builtin "list.append") [acc,y]) (λ_ s6=>∃m,m<n/\J m s6) ne s5) ne s4
      else ∃m,m<n/\J m s4) ne s3) ne s2) ne s1) ne s)
  (n:Nat) (h:J n s):codeAny (model prog w) A (.compLoop (.ListComp elt [⟨target,iter,ifs,0⟩] scope pos) 0 it acc env) R s:=by
 !codeAny_loop rfl J (λn s hJ=>?_) n h
 show wpAny _ A ((compTurn (.ListComp elt [⟨target,iter,ifs,0⟩] scope pos) 0 it acc env).onRaise (λx=>do noteFrame x env;theTreesLotGoes x)) _ _ s
 !wpAny_noted ?_
 rw[compTurn_list]
 !AA0 (wpAny_standAt (AA0 (ABi (turn n s hJ) (λr s1 h1=>?_) hne)))
 cases r with
 | none=>~AA3 h1
 | some v =>
  !AA0 (ABi h1 (λ_ s2 h2=>?_) hne)
  !AA0 (ABi h2 (λ_ s3 h3=>?_) hne)
  rw[qW]at h3
  !AA0 (ABi h3 (λok s4 h4=>?_) hne)
  cases ok with
  | false=>~AA3 ⟨rfl,h4⟩
  | true =>
   ~AA0 (AA0 (ABi h4 (λy s5 h5=>AA0 (ABi h5 (λ_ s6 h6=>AA3 (AA3 ⟨rfl,h6⟩)) hne)) hne))
end
end DL
namespace L2
open PySem PySem.Spec PyProof.Rows DL
¶lK{env:Env}:∀{names:List (Str×NameKind)}{x:Str},names.lookup x=some .free ->
  ((names.map λ(p:Str×NameKind)=>if (p.2==ABP&&env.scope.kind==.function&&env.kindOf p.1==some .cell)=true then(p.1,AET)else(p.1,p.2)).lookup x=some .cell \/
   (names.map λ(p:Str×NameKind)=>if (p.2==ABP&&env.scope.kind==.function&&env.kindOf p.1==some .cell)=true then(p.1,AET)else(p.1,p.2)).lookup x=some .free)
 | [],_,h=>by simp at h
 | (n,j)::bn,x,h=>by
  have ih:=@lK env bn x
  rw[AAL,ABY]
  rw[ABY]at h
  by_cases hc:(j==ABP&&env.scope.kind==.function&&env.kindOf n==some .cell)=true
  ·by_cases hx:(x==n)=true
   ·simp[hc,hx]
   ·have hx':(x==n)=false:=by simpa using hx
    rw[hx']at h
    simp only[hc,if_true,hx']
    ~ih h
  ·by_cases hx:(x==n)=true
   ·rw[hx]at h
    cases h
    right
    simp only[hc,AAF,if_false,hx]
   ·have hx':(x==n)=false:=by simpa using hx
    rw[hx']at h
    simp only[hc,AAF,if_false,hx']
    ~ih h
def blk(X:Cx)(N':List Str)(scope:Scope)(cl:List (Str×Addr))(s₀:Shared)(H₀:Hp)(ex:List Addr):Cx :=
 { X with N:=N',s₀:=s₀,H₀:=H₀,env:=compEnvC scope cl s₀.heap.objs.size X.env,outer:=X.stack,ex:=ex,fn:=λ_=>false,pn:=[],xe:=λ_ _=>False }
structure BlkSc(X:Cx)(N':List Str)(nt:Nat)(js:List Nat)(scope:Scope):Prop where
 kind:scope.kind=.function
 nocell:∀y∈scope.names,y.2≠.cell
 loc:∀y∈scope.names,y.2=.local->scope.names.lookup y.1=some .local
 free:∀y∈scope.names,y.2=.free->(X.env.kindOf y.1=some .cell\/X.env.kindOf y.1=some .free)
 len:N'.length=nt+js.length
 fr:∀(k j:Nat),js[k]?=some j->∃x,N'[nt+k]?=some x/\X.N[j]?=some x/\scope.names.lookup x=some .free/\(X.env.kindOf x=some .cell\/X.env.kindOf x=some .free)
def bst(nt:Nat)(js:List Nat)(σ:St):St:=ADv nt none++js.map λj=>(σ[j]?).join
¶Fk(nt:Nat)(js:List Nat)(σ:St):(bst nt js σ).length=nt+js.length:=by simp[bst]
¶Lp{nt:Nat}{js:List Nat}{σ:St}{i:Nat}{v:V}(h:(bst nt js σ)[i]?=some (some v)):∃k j,i=nt+k/\js[k]?=some j/\σ[j]?=some (some v):=by
 unfold bst at h
 by_cases hi:i<nt
 ·rw[AAJ (by simpa using hi),ACi]at h
  simp[hi]at h
 ·rw[AAg (by simpa using AD4.mp hi),ACz,AAU]at h
  cases e:js[i-nt]? with
  | none=>rw[e]at h;cases h
  | some j =>
   rw[e]at h
   !⟨i-nt,j,¤,e,?_⟩
   have h':(σ[j]?).join=some v:=by simpa using h
   cases q:σ[j]? with
   | none=>rw[q]at h';cases h'
   | some o=>rw[q]at h';~congrArg some h'
def PTs(X:Cx)(ifs:List Expr)(t:TT):Prop :=
 ∀(pins:List (Addr×Obj)) (s:Shared) (σ:St) (H:Hp) (Q:Bool->Hp->Prop),Inv X pins σ H s->t σ H Q->wpAny (model X.prog X.w) X.A (compTests ifs X.env) (TP X pins σ Q) X.xe s
def ttNil:TT:=λ_ H Q=>Q true H
¶Jz{X:Cx}:PTs X [] ttNil:=λpins s σ H Q I h=>by
 rw[qW]
 ~wpAny_tests_nil ⟨H,I,h⟩
¶Jy{X:Cx}{c:Expr}{t:TT}(h:PT X c t):PTs X [c] t:=λpins s σ H Q I hq=>by
 rw[qW]
 ~wpAny_tests_one (h pins s σ H Q I hq)
def tLC(nt:Nat)(js:List Nat)(wi:TI)(g:TG)(tt:TT)(te:TE):TE:=λσ H Q=>wi σ H λJ H1=>∃W:Nat->Nat->List V->St->Hp->Prop,(∃m,W 0 m [] (bst nt js σ) H1) /\
 ∀i m vs τ H,W i m vs τ H->(J.stop i H/\∀p,H p=none->Q (.ref p) (upd H p (.lst vs))) \/
  (J.go i H/\∀x H',J.yld i H x H'->g x τ H' λτ2 H2=>tt τ2 H2 λb H3=>if b=true then te τ2 H3 λy H4=>vs.length<sizeLine/\∃m',m' < m/\W (i+1) m' (vs++[y]) τ2 H4 else ∃m',m' < m/\W (i+1) m' vs τ2 H3)
abbrev dy(its:List Value)(k:Nat):Obj:={ cls:=.type "list",data:=.seq its.toArray k }
section
variable{X:Cx}{pins:List (Addr×Obj)}{σ:St}{H:Hp}{s:Shared}
¶Inv.blkOk{N':List Str}{nt:Nat}{js:List Nat}{scope:Scope}{cl:List (Str×Addr)}{fp:List Addr}{ob:Obj}(B:BlkSc X N' nt js scope)(I:Inv X pins σ H s)
  (hcl1:∀z c,cl.lookup z=some c->X.env.cells.lookup z=some c) (hcl2:∀p∈scope.names,p.2=ABP->∃c,cl.lookup p.1=some c) (hf:∀b∈fp,An X pins H b) (hfs:∀b∈fp,b<s.heap.objs.size) :
  (blk X N' scope cl { s with heap:=s.heap.push ob } H (s.heap.objs.size::fp)).Ok:=by
 have J:Inv X pins σ H { s with heap:=s.heap.push ob }:=I.kept (t':=s.toks) λb o e=>AA4 _ e
 have ltc:∀z c,cl.lookup z=some c->c<s.heap.objs.size:=λz c e=>by
  #⟨v,q⟩:=I.cell z c (hcl1 z c e)
  ~q.lt
 have hC:(s.heap.push ob).objs.size=s.heap.objs.size+1:=AB1 ..
 !⟨I.ok.mod,B.kind,I.ok.glob,I.ok.blt,AAC _,λy z c h1 h2=>I.ok.inj y z c (hcl1 y c h1) (hcl1 z c h2),λy hy=>?_,λy c h=>?_,I.ok.hd,I.ok.frames,.inl rfl,λb hb=>?_,λb o e=>?_,?_,λb o e hb=>?_,λb hb=>?_,J.stack,I.stkFree⟩
 ·have key:scope.names.lookup y=some .free:=by
   rcases hy with hy | hy
   ·rcases gK (env:=X.env) (names:=scope.names) (x:=y) (k:=.cell) hy with q | ⟨_,q⟩
    ·~absurd rfl (B.nocell _ (ABf q))
    ·~q
   ·rcases gK (env:=X.env) (names:=scope.names) (x:=y) (k:=.free) hy with q | ⟨q,_⟩
    ·~q
    ·cases q
  ~hcl2 (y,.free) (ABf key) rfl
 ·~absurd (show false=true from h) (by decide)
 ·show b≠(s.heap.push ob).objs.size/\∀x c,cl.lookup x=some c->c≠b
  rw[hC]
  rcases AAH.mp hb with rfl | hb
  ·~⟨AAQ (AB6 _),λx c e=>AAQ (ltc x c e)⟩
  ·~⟨AAQ (ACA (hfs b hb)),λx c e=>(hf b hb).2.2.2.2.1 x c (hcl1 x c e)⟩
 ·~⟨AA4 _ (I.bs b o e).1,(I.bs b o e).2⟩
 ·show X.base.objs.size<=(s.heap.push ob).objs.size
  rw[hC]
  ~Nat.le_succ_of_le (ABN I.ok.bsz I.sz)
 ·rcases AAH.mp hb with rfl | hb
  ·~absurd (AAG (I.bs _ o e).1) (AAq _)
  ·rcases(hf b hb).2.2.2.1 with z | z
   ·~I.ok.noex b o e z
   ·~absurd (AAd (AAG (I.ok.bs b o e).1) z) (AAq _)
 ·intro hz
  have hz':=I.stkSub b hz
  rcases AAH.mp hb with rfl | hb
  ·rcases AAH.mp hz' with q | q
   ·~absurd I.lt (by rw[←q];~AAq _)
   ·~I.nofs (AAC _) q
  ·rcases AAH.mp hz' with q | q
   ·~(hf b hb).2.1 q
   ·~(hf b hb).2.2.1 q
¶Inv.blkStart{N':List Str}{nt:Nat}{js:List Nat}{scope:Scope}{cl:List (Str×Addr)}{fp:List Addr}{h1:Heap}{tk:Nat}{mm:Str->Option Value}(B:BlkSc X N' nt js scope)(I:Inv X pins σ H s)
  (hcl1:∀z c,cl.lookup z=some c->X.env.cells.lookup z=some c) (hcl2:∀p∈scope.names,p.2=ABP->∃c,cl.lookup p.1=some c) (hf:∀b∈fp,An X pins H b) (hfs:∀b∈fp,b<s.heap.objs.size)
  (old:∀b o,(s.heap.push (dy [] 0)).get? b=some o->h1.get? b=some o) (hn:h1.Ns (s.heap.push (dy [] 0)).objs.size mm) :
  Inv (blk X N' scope cl { s with heap:=s.heap.push (dy [] 0) } H (s.heap.objs.size::fp)) [(s.heap.objs.size,dy [] 0)] (bst nt js σ) H { s with heap:=h1,toks:=tk }:=by
 have old2:∀b o,s.heap.get? b=some o->h1.get? b=some o:=λb o e=>old b o (AA4 _ e)
 have hC:(s.heap.push (dy [] 0)).objs.size=s.heap.objs.size+1:=AB1 ..
 !⟨I.blkOk B hcl1 hcl2 hf hfs,rfl,I.bare,Un.kept old,⟨mm,hn,λi x v e1 e2 e3=>?_⟩,λx c e=>?_,?_,λx c e=>I.freeC x c (hcl1 x c e),λp hp=>?_,I.hok.kept old2,?_⟩
 ·#⟨k,j,rfl,hj,hσ⟩:=Lp e2
  #⟨x',n1,n2,lf,kf⟩:=B.fr k j hj
  have ex:x=x':=AAR (e1.symm.trans n1)
  subst ex
  #⟨m2,hn2,hl2⟩:=I.loc
  have vis:Vis X.env.scope x:=kf.elim (λz=>.inr (.inl z)) λz=>.inr (.inr z)
  #⟨u,r,look⟩:=hl2 j x v n2 hσ vis
  !⟨u,r,?_⟩
  rcases look with⟨q,_⟩|⟨q,c,hc,hcell⟩
  ·rcases kf with z | z<;>(rw[q]at z;cases z)
  ·#⟨c',hc'⟩:=hcl2 (x,.free) (ABf lf) rfl
   have:c'=c:=AAR ((hcl1 x c' hc').symm.trans hc)
   subst this
   ~.inr ⟨lK (env:=X.env) lf,c',hc',hcell.keeps old2⟩
 ·#⟨v,q⟩:=I.cell x c (hcl1 x c e)
  ~⟨v,q.keeps old2⟩
 ·~I.hok.fresh (by show s.heap.objs.size<=(s.heap.push (dy [] 0)).objs.size;rw[hC];~ADn _)
 ·have e:p=(s.heap.objs.size,dy [] 0):=by simpa [blk]using hp
  subst e
  !⟨old _ _ (AAE _ rfl),I.hok.fresh (AAC _),?_,?_,λv z=>by cases z⟩
  ·show s.heap.objs.size≠(s.heap.push (dy [] 0)).objs.size
   rw[hC]
   ~AAQ (AB6 _)
  ·intro hz
   rcases AAH.mp (I.stkSub _ hz)with q | q
   ·~absurd I.lt (by rw[←q];~AAq _)
   ·~I.nofs (AAC _) q
 ·rw[Fk]
  ~B.len.symm
¶Inv.blkEnd{N':List Str}{scope:Scope}{cl:List (Str×Addr)}{fp:List Addr}{τ:St}{H':Hp}{s':Shared}{h':Heap}{vs:List V}{its:List Value}{k:Nat}(I:Inv X pins σ H s)
  (hf:∀b∈fp,An X pins H b)
  (I4:Inv (blk X N' scope cl { s with heap:=s.heap.push (dy [] 0) } H (s.heap.objs.size::fp)) [(s.heap.objs.size,dy its k)] τ H' s')
  (rv:aL vs its) (hl:vs.length<=sizeLine) (sb:ABO (s.heap.push (dy [] 0)).objs.size s'.heap h') :
  Inv X pins σ (upd H' s.heap.objs.size (.lst vs)) { s' with heap:=h' }:=by
 have hC:(s.heap.push (dy [] 0)).objs.size=s.heap.objs.size+1:=AB1 ..
 have hDC:s.heap.objs.size≠(s.heap.push (dy [] 0)).objs.size:=by rw[hC];~AAQ (AB6 _)
 #⟨oD,fD,_⟩:=I4.pin (s.heap.objs.size,dy its k) (by simp[blk])
 have oD':s'.heap.get? s.heap.objs.size=some (dy its k):=oD
 have fD':H' s.heap.objs.size=none:=fD
 have fC:H' (s.heap.push (dy [] 0)).objs.size=none:=I4.free
 have u:Un (frs X.stack) (s.heap.objs.size::fp) H H' (s.heap.push (dy [] 0)) s'.heap:=I4.base
 have ne:∀b o,s.heap.get? b=some o->b≠s.heap.objs.size/\b≠(s.heap.push (dy [] 0)).objs.size:=λb o e=>by
  have:=AAG e
  ~⟨AAQ this,by rw[hC];~AAQ (ACA this)⟩
 have up:∀b o,s.heap.get? b=some o->(s.heap.push (dy [] 0)).get? b=some o:=λb o e=>AA4 _ e
 have nx:∀b o,s.heap.get? b=some o->b∉fp->b∉s.heap.objs.size::fp:=λb o e hx hz=>by
  rcases AAH.mp hz with q | q
  ·~(ne b o e).1 q
  ·~hx q
 !I.call' (s':={ s' with heap:=h' }) (ch:=fp) I4.os ⟨λb o e n hb hx=>?_,λb o e n hb hx=>?_,λb o e n hx=>?_,λb o e hx=>?_,λb xs e=>?_,λb o w e=>?_,λb ps e=>?_⟩ (λb w q=>?_) I4.bare λb hb=>?_
 ·~(sb.2 b (ne b o e).2).trans (u.keep b o (up b o e) n hb (nx b o e hx))
 ·#⟨sl,z⟩:=u.slot b o (up b o e) n hb (nx b o e hx)
  ~⟨sl,(sb.2 b (ne b o e).2).trans z⟩
 ·rw[aJ (ne b o e).1]
  ~u.free b o (up b o e) n (nx b o e hx)
 ·#⟨o',z⟩:=u.there b o (up b o e) (nx b o e hx)
  ~⟨o',(sb.2 b (ne b o e).2).trans z⟩
 ·have z:=u.tups b xs e
  rw[aJ (au z fD')]
  ~z
 ·have z:=u.frzs b o w e
  rw[aJ (au z fD')]
  ~z
 ·#⟨more,z⟩:=u.tbls b ps e
  ~⟨more,by rw[aJ (au z fD')];~z⟩
 ·by_cases hb:b=s.heap.objs.size
  ·subst hb
   rw[bB]at q
   cases q
   ~⟨hl,its,k,rv,(sb.2 _ hDC).trans oD'⟩
  ·rw[aJ hb]at q
   !(I4.hok b w q).stay (λc v hc r=>(sb.2 c ?_).trans r) (λc z=>by rw[aJ (au z fD')];~z) λc xs z=>by rw[aJ (au z fD')];~z
   rcases hc with rfl | hc
   ·~au q fC
   ·~au hc fC
 ·#⟨_,f1,_,f3,f4,f5⟩:=hf b hb
  ~⟨f3,f1,f4,f5⟩
¶Ej{elt tg iter:Expr}{ifs:List Expr}{scope:Scope}{pos:Pos}{N':List Str}{cl:List (Str×Addr)}{J:It}{fp:List Addr}{it:Addr}{tn:Nat->Heap->Prop}{g:TG}{tt:TT}{te:TE}{Q:VK}
  {W:Nat->Nat->List V->St->Hp->Prop}{R:Result->Shared->Prop}{s0:Shared}{H0:Hp}{D:Addr} (hc:X.calm=true)
  (hg:PG (blk X N' scope cl s0 H0 (D::fp)) tg g) (ht:PTs (blk X N' scope cl s0 H0 (D::fp)) ifs tt) (he:PE (blk X N' scope cl s0 H0 (D::fp)) elt te)
  (T:Turn X.prog X.w X.K tg J fp it tn) (hDf:D∉fp)
  (turn:∀i m vs τ H,W i m vs τ H->(J.stop i H/\∀p,H p=none->Q (.ref p) (upd H p (.lst vs))) \/
   (J.go i H/\∀x H',J.yld i H x H'->g x τ H' λτ2 H2=>tt τ2 H2 λb H3=>if b=true then te τ2 H3 λy H4=>vs.length<sizeLine/\∃m',m' < m/\W (i+1) m' (vs++[y]) τ2 H4 else ∃m',m' < m/\W (i+1) m' vs τ2 H3))
  (hstat:∀b∈fp,b≠s0.heap.objs.size/\b∉frs X.stack/\∀x c,cl.lookup x=some c->c≠b) (hDC:D≠s0.heap.objs.size) (hDs:D∉frs X.stack) (hDc:∀x c,cl.lookup x=some c->c≠D)
  (fin:∀τ H' s' vs its k,Inv (blk X N' scope cl s0 H0 (D::fp)) [(D,dy its k)] τ H' s'->aL vs its->vs.length<=sizeLine->Q (.ref D) (upd H' D (.lst vs))->R (.ok .next) s')
  (m0:Nat) {τ0:St}{s3:Shared}{H3:Hp} (I3:Inv (blk X N' scope cl s0 H0 (D::fp)) [(D,dy [] 0)] τ0 H3 s3) (st3:tn 0 s3.heap) (fr3:∀b∈fp,H3 b=none) (w0:W 0 m0 [] τ0 H3) :
  codeAny (model X.prog X.w) X.A (.compLoop (.ListComp elt [⟨tg,iter,ifs,0⟩] scope pos) 0 (.ref it) (.ref D) (compEnvC scope cl s0.heap.objs.size X.env)) R s3:=by
 have fok:∀{ob:Obj}{H':Hp},(∀b∈fp,H' b=none)->∀b∈fp,An (blk X N' scope cl s0 H0 (D::fp)) [(D,ob)] H' b:=λ{ob H'} hn b hb=>by
  #⟨a1,a2,a3⟩:=hstat b hb
  !⟨hn b hb,a1,a2,.inl (AA9 _ hb),a3,λp hp z=>?_⟩
  have e:p=(D,ob):=by simpa [blk]using hp
  subst e
  ~hDf (by rw[show D=b from z];~hb)
 !BD (λn s'=>∃i τ H' vs its k,Inv (blk X N' scope cl s0 H0 (D::fp)) [(D,dy its k)] τ H' s'/\tn i s'.heap/\(∀b∈fp,H' b=none)/\aL vs its/\vs.length<=sizeLine/\W i n vs τ H')
  (λ_ _=>False) (λ_ _ z=>z.elim) ?_ m0 ⟨0,τ0,H3,[],[],0,I3,st3,fr3,.nil,AAT _,w0⟩
 rintro n s' ⟨i,τ,H',vs,its,k,I',st',fr',rv,hl,w'⟩
 rcases turn i n vs τ H' w' with⟨stop,q⟩|⟨go,step⟩
 ·!thn (T.done (blk X N' scope cl s0 H0 (D::fp)) rfl rfl rfl hc i _ s' τ H' (λ_ _=>False) I' (fok fr') st' stop) λr s4 ⟨hr,I4⟩=>?_
  subst hr
  ~fin τ H' s4 vs its k I4 rv hl (q D (I'.pin (D,dy its k) (by simp[blk])).2.1)
 ·!thn (T.item (blk X N' scope cl s0 H0 (D::fp)) rfl rfl rfl hc i _ s' τ H' (λ_ _=>False) I' (fok fr') st' go) λr s4 ⟨u,hr,h4⟩=>?_
  subst hr
  !thn h4 λ_ s5 ⟨x,H5,I5,r5,y5,st5,fr5⟩=>?_
  have I5':=I5.pinned (fok fr5) (T.obj _ _ st5)
  !thn (hg _ s5 τ H5 x u _ I5' r5 (step x H5 y5)) λ_ s6 ⟨τ6,H6,I6,q6⟩=>?_
  !thn (ht _ s6 τ6 H6 _ I6 q6) λok s7 ⟨H7,I7,q7⟩=>?_
  have memF:∀{b:Addr}{o:Obj},b∈fp->s5.heap.get? b=some o->(b,o)∈(blk X N' scope cl s0 H0 (D::fp)).pn++([(D,dy its k)]++jN fp s5.heap):=λhb e=>AAc _ (AAc _ (ir hb e))
  cases ok with
  | false =>
   #⟨m',hm,w7⟩:=(show ∃m',m' < n/\W (i+1) m' vs τ6 H7 from q7)
   !⟨m',hm,i+1,τ6,H7,vs,its,k,I7.unpinned,T.keep _ _ _ st5 λb hb o e=>(I7.pin (b,o) (memF hb e)).1,λb hb=>?_,rv,hl,w7⟩
   #⟨o,e,_⟩:=T.obj _ _ st5 b hb
   ~(I7.pin (b,o) (memF hb e)).2.1
  | true =>
   !thn (he _ s7 τ6 H7 _ I7 q7) λyv s8 ⟨y,H8,I8,r8,q8⟩=>?_
   #⟨hsz,m',hm,w8⟩:=q8
   #⟨oD,fD,_⟩:=I8.pin (D,dy its k) (AAc _ (ACZ _ (by simp)))
   have fD':H8 D=none:=fD
   !append_at (its:=its.toArray) (n:=k) oD (λh9 sb9 o9=>?_) (by rw[AAB,←rv.length];~hl)
   have J8:Inv (blk X N' scope cl s0 H0 (D::fp)) (jN fp s5.heap) τ6 H8 s8:=I8.pins_of λp hp=>I8.pin p (AAc _ (AAc _ hp))
   have J9:Inv (blk X N' scope cl s0 H0 (D::fp)) (jN fp s5.heap) τ6 H8 { s8 with heap:=h9 }:=J8.turned (t':=s8.toks) (it:=D) (λb o hb e=>(sb9.2 b hb).trans e) fD' hDC (.inl AAI) hDc λp hp z=>by
    have hp':p∈jN fp s5.heap:=by simpa [blk]using hp
    ~hDf (by rw[←z];~(vA hp').1)
   have memG:∀{b:Addr}{o:Obj},b∈fp->s5.heap.get? b=some o->(b,o)∈(blk X N' scope cl s0 H0 (D::fp)).pn++jN fp s5.heap:=λhb e=>AAc _ (ir hb e)
   !⟨m',hm,i+1,τ6,H8,vs++[y],its++[yv],k+1,J9.pins_of λp hp=>?_,T.keep _ _ _ st5 λb hb o e=>(J9.pin (b,o) (memG hb e)).1,λb hb=>?_,rv.append (.cons r8 .nil),?_,w8⟩
   ·have e:p=(D,dy (its++[yv]) (k+1)):=by simpa using hp
    subst e
    !⟨?_,fD',hDC,hDs,λv z=>by cases z⟩
    rw[show dy (its++[yv]) (k+1)=({ cls:=.type "list",data:=.seq (its.toArray.push yv) (k+1) }:Obj) by rw[List.push_toArray]]
    ~o9
   ·#⟨o,e,_⟩:=T.obj _ _ st5 b hb
    ~(J9.pin (b,o) (memG hb e)).2.1
   ·rw[AA8]
    ~hsz
end
section
variable{X:Cx}
¶pe_lc{elt tg iter:Expr}{ifs:List Expr}{scope:Scope}{pos:Pos}{N':List Str}{nt:Nat}{js:List Nat}{wi:TI}{g:TG}{tt:TT}{te:TE}(B:BlkSc X N' nt js scope)(hc:X.calm=true)(hi:PI X tg iter wi)
  (hg:∀cl s0 H0 ex,PG (blk X N' scope cl s0 H0 ex) tg g) (ht:∀cl s0 H0 ex,PTs (blk X N' scope cl s0 H0 ex) ifs tt) (he:∀cl s0 H0 ex,PE (blk X N' scope cl s0 H0 ex) elt te)
  (hs:∀x,foldedSetIterable iter X.env x=pure x:=by intro _;rfl):PE X (.ListComp elt [⟨tg,iter,ifs,0⟩] scope pos) (tLC nt js wi g tt te):=by
 intro pins s σ H Q I h
 rw[eval_ListComp]
 #⟨cl,ecl,hcl1,hcl2⟩:=lQ (scope:=scope) (env:=X.env) λp hp hf=>I.ok.has p.1 (B.free p hp hf)
 !wpAny_comprehension_free (use:=none) rfl hs ecl B.kind B.loc ?_
 !thn (hi pins s σ H _ I h) λv s1 h1=>thn h1 λitv s2 h2=>?_
 #⟨it,fp,tn,J,H2,e,I2,T,st2,f2,W,⟨m0,w0⟩,turn⟩:=h2
 subst e
 !AAj (wpAny_newFunctionEnv B.nocell (by intro y hy;simp at hy) (λh1 hns1 hsb1=>?_) B.kind)
 have hfs:∀b∈fp,b<s2.heap.objs.size:=λb hb=>by
  #⟨o,e,_⟩:=T.obj _ _ st2 b hb
  ~AAG e
 have hC:(s2.heap.push (dy [] 0)).objs.size=s2.heap.objs.size+1:=AB1 ..
 have old:∀b o,(s2.heap.push (dy [] 0)).get? b=some o->h1.get? b=some o:=λb o e=>(hsb1.2 b (AAQ (AAG e))).trans (AA4 _ e)
 have I3:=I2.blkStart (tk:=s2.toks+([]:List (Str×Value)).length) B hcl1 hcl2 f2 hfs old hns1
 have st3:tn 0 h1:=T.keep _ _ _ st2 λb _ o e=>old b o (AA4 _ e)
 have hDf:s2.heap.objs.size∉fp:=λz=>AAq _ (hfs _ z)
 have hDs:s2.heap.objs.size∉frs X.stack:=λz=>by
  rcases AAH.mp (I2.stkSub _ z)with q | q
  ·~absurd I2.lt (by rw[←q];~AAq _)
  ·~I2.nofs (AAC _) q
 have hDC:s2.heap.objs.size≠(s2.heap.push (dy [] 0)).objs.size:=by rw[hC];~AAQ (AB6 _)
 have ltc:∀z c,cl.lookup z=some c->c<s2.heap.objs.size:=λz c e=>by
  #⟨v,q⟩:=I2.cell z c (hcl1 z c e)
  ~q.lt
 have hstat:∀b∈fp,b≠(s2.heap.push (dy [] 0)).objs.size/\b∉frs X.stack/\∀x c,cl.lookup x=some c->c≠b:=λb hb=>by
  !⟨by rw[hC];~AAQ (ACA (hfs b hb)),λz=>?_,λx c e=>(f2 b hb).2.2.2.2.1 x c (hcl1 x c e)⟩
  rcases AAH.mp (I2.stkSub b z)with q | q
  ·~(f2 b hb).2.1 q
  ·~(f2 b hb).2.2.1 q
 have loop:codeAny (model X.prog X.w) X.A (.compLoop (.ListComp elt [⟨tg,iter,ifs,0⟩] scope pos) 0 (.ref it) (.ref s2.heap.objs.size) (compEnvC scope cl (s2.heap.push (dy [] 0)).objs.size X.env))
   (compPost (model X.prog X.w) X.A X.xe none (EP X pins σ Q) (.ref s2.heap.objs.size) (s2.heap.push (dy [] 0)).objs.size) { s2 with heap:=h1,toks:=s2.toks+([]:List (Str×Value)).length }:=by
  !Ej (s0:={ s2 with heap:=s2.heap.push (dy [] 0) }) (H0:=H2) (N':=N') (Q:=Q) hc (hg _ _ _ _) (ht _ _ _ _) (he _ _ _ _) T hDf turn hstat hDC hDs (λx c e=>AAQ (ltc x c e)) ?_ m0 I3 st3 (λb hb=>(f2 b hb).1) w0
  intro τ H' s' vs its k I4 rv hl q
  #⟨mm,hn,_⟩:=id I4.loc
  ~⟨mm,hn,λh' sb=>⟨.ref s2.heap.objs.size,_,I2.blkEnd f2 I4 rv hl sb,rfl,q⟩⟩
 ~codeAny_compStart_list loop (T.self _ 0 _ _ _ st3 loop)
end
end L2
namespace L2
open PySem PySem.Spec PyProof.Rows DL
inductive D where
 | non | bl (b:Bool) | int (i:Int) | str (x:Str) | ty (n:String) | tup (ds:List D) | ref (n:Nat)
inductive MO where
 | lst (xs:List D)
 | fz (xs:List D)
 | kl (xs:List D)
 | dct (kvs:List (Str×D))
 | dkt (kvs:List (D×D))
abbrev Mem:=List MO
def MO.isL:MO->Bool
 | .dct _=>false
 | .dkt _=>false
 | _=>true
def rR(ks:List Str)(vs:List V):List (Key×V):=(ks.zip vs).map λp=>(AC6 p.1,p.2)
mutual
inductive Rep(K:AA5)(ρ:List Addr)(H:Hp):D->V->Prop
 | non:Rep K ρ H .non .non
 | bl (b:Bool):Rep K ρ H (.bl b) (.bl b)
 | int (i:Int):Rep K ρ H (.int i) (.int i)
 | str (x:Str):Rep K ρ H (.str x) (.str x)
 | ty (n:String):Rep K ρ H (.ty n) (.ty n)
 | tup {a:Addr}{vs:List V}{ds:List D} (h:SqT K H a vs) (r:Reps K ρ H ds vs):Rep K ρ H (.tup ds) (.ref a)
 | ref {n:Nat}{a:Addr} (h:ρ[n]?=some a):Rep K ρ H (.ref n) (.ref a)
inductive Reps(K:AA5)(ρ:List Addr)(H:Hp):List D->List V->Prop
 | nil:Reps K ρ H [] []
 | cons {d:D}{v:V}{ds:List D}{vs:List V} (h:Rep K ρ H d v) (t:Reps K ρ H ds vs):Reps K ρ H (d::ds) (v::vs)
end
def KList(K:AA5)(a:Addr)(xs:List V):Prop :=
 ∃(o:Obj) (its:Array Value) (n:Nat),K.lookup a=some o/\o.cls=.type "list"/\o.dict=none/\o.data=.seq its n/\its.size<=sizeLine/\aL xs its.toList
def eU:Nat->D->Bool
 | _,.str _=>true
 | _,.int _=>true
 | n+1,.tup ds=>ds.all (eU n)
 | _,_=>false
def hkD(w:World):Nat->D->Int
 | _,.str x=>hashStr w x
 | _,.int i=>hashInt i
 | n+1,.tup ds=>reduceHash (ABS (ds.map (hkD w n)))
 | _,_=>0
def dX(a:Addr)(xs:List (D×Addr×Value)):Program->World->Heap->Prop:=λ_ w h =>
 ∃(o:Obj) (es:Array DictEntry),h.get? a=some o/\o.ExactDict/\o.data=.dict es xs.length/\es.toList=xs.map λx=>⟨hkD w 8 x.1,.ref x.2.1,x.2.2⟩
def BP(K:AA5)(ρ:List Addr)(H:Hp)(p:D×D)(q:D×Addr×Value):Prop:=p.1=q.1/\eU 8 p.1=true/\Rep K ρ H p.1 (.ref q.2.1)/\∃v,Rep K ρ H p.2 v/\bi v q.2.2
def BO(K:AA5)(ρ:List Addr)(H:Hp)(a:Addr):MO->Prop
 | .lst ds=>∃vs,H a=some (.lst vs)/\Reps K ρ H ds vs
 | .fz ds=>∃o vs,H a=some (.frz o (.lst vs))/\Reps K ρ H ds vs
 | .kl ds=>∃vs,KList K a vs/\Reps K ρ H ds vs
 | .dct kvs=>∃vs,H a=some (.dK (rR (kvs.map (·.1)) vs))/\Reps K ρ H (kvs.map (·.2)) vs
 | .dkt kvs=>kvs.length<=sizeLine/\(a==sysModules)=false/\(kvs.map (·.1)).Nodup/\∃xs,H a=some (.ext (dX a xs))/\Paired (BP K ρ H) kvs xs
def isK(mo:Option MO):Prop:=∃ds,mo=some (.kl ds)
def aA(M:Mem)(n:Nat)(xs:List D):Prop:=M[n]?=some (.lst xs)\/M[n]?=some (.fz xs)\/M[n]?=some (.kl xs)
structure Sim(K:AA5)(ρ:List Addr)(M:Mem)(H:Hp):Prop where
 nd:∀(n m:Nat) (a:Addr),n≠m->ρ[n]?=some a->ρ[m]?=some a->isK M[n]?\/isK M[m]?
 len:ρ.length=M.length
 obj:∀(n:Nat) (a:Addr) (mo:MO),ρ[n]?=some a->M[n]?=some mo->BO K ρ H a mo
structure Grow(K:AA5)(ρ:List Addr)(H:Hp)(ρ':List Addr)(H':Hp):Prop where
 pre:ρ <+: ρ'
 tup:∀a xs,SqT K H a xs->SqT K H' a xs
¶Grow.refl{K:AA5}{ρ:List Addr}{H:Hp}:Grow K ρ H ρ H:=⟨ACc,λ_ _ h=>h⟩
¶Grow.trans{K:AA5}{ρ ρ1 ρ2:List Addr}{H H1 H2:Hp}(a:Grow K ρ H ρ1 H1)(b:Grow K ρ1 H1 ρ2 H2):Grow K ρ H ρ2 H2:=⟨a.pre.trans b.pre,λx xs h=>b.tup x xs (a.tup x xs h)⟩
¶bE{α:Type}{l l':List α}(h:l <+: l'){n:Nat}{a:α}(e:l[n]?=some a):l'[n]?=some a:=by
 #⟨t,rfl⟩:=h
 rw[AAJ (AA2.mp e).1]
 ~e
mutual
¶Rep.grow{K:AA5}{ρ ρ':List Addr}{H H':Hp}(g:Grow K ρ H ρ' H'):∀{d:D}{v:V},Rep K ρ H d v->Rep K ρ' H' d v
 | _,_,.non=>.non
 | _,_,.bl b=>.bl b
 | _,_,.int i=>.int i
 | _,_,.str x=>.str x
 | _,_,.ty n=>.ty n
 | _,_,.tup h r=>.tup (g.tup _ _ h) (Reps.grow g r)
 | _,_,.ref h=>.ref (bE g.pre h)
¶Reps.grow{K:AA5}{ρ ρ':List Addr}{H H':Hp}(g:Grow K ρ H ρ' H'):∀{ds:List D}{vs:List V},Reps K ρ H ds vs->Reps K ρ' H' ds vs
 | _,_,.nil=>.nil
 | _,_,.cons h t=>.cons (Rep.grow g h) (Reps.grow g t)
end
section
variable{K:AA5}{ρ ρ':List Addr}{H H':Hp}{M:Mem}
¶Reps.length:∀{ds:List D}{vs:List V},Reps K ρ H ds vs->ds.length=vs.length
 | _,_,.nil=>rfl
 | _,_,.cons _ t=>by rw[AAA,AAA,Reps.length t]
¶Reps.append:∀{ds es:List D}{vs ws:List V},Reps K ρ H ds vs->Reps K ρ H es ws->Reps K ρ H (ds++es) (vs++ws)
 | _,_,_,_,.nil,s=>s
 | _,_,_,_,.cons r t,s=>.cons r (Reps.append t s)
¶Reps.get:∀{ds:List D}{vs:List V}{i:Nat}{d:D},Reps K ρ H ds vs->ds[i]?=some d->∃v,vs[i]?=some v/\Rep K ρ H d v
 | _,_,_,_,.nil,e=>by simp at e
 | _,_,0,_,.cons r _,e=>by simp at e;subst e;~⟨_,rfl,r⟩
 | _,_,i+1,d,.cons _ t,e=>by
  #⟨v,h1,h2⟩:=Reps.get (i:=i) (d:=d) t (by simpa using e)
  ~⟨v,by simpa using h1,h2⟩
¶Reps.getV:∀{ds:List D}{vs:List V}{i:Nat}{v:V},Reps K ρ H ds vs->vs[i]?=some v->∃d,ds[i]?=some d/\Rep K ρ H d v
 | _,_,_,_,.nil,e=>by simp at e
 | _,_,0,_,.cons r _,e=>by simp at e;subst e;~⟨_,rfl,r⟩
 | _,_,i+1,d,.cons _ t,e=>by
  #⟨v,h1,h2⟩:=Reps.getV (i:=i) (v:=d) t (by simpa using e)
  ~⟨v,by simpa using h1,h2⟩
¶Reps.take:∀{ds:List D}{vs:List V} (n:Nat),Reps K ρ H ds vs->Reps K ρ H (ds.take n) (vs.take n)
 | _,_,0,_=>by simpa using .nil
 | _,_,_+1,.nil=>.nil
 | _,_,n+1,.cons r t=>.cons r (Reps.take n t)
¶Reps.drop:∀{ds:List D}{vs:List V} (n:Nat),Reps K ρ H ds vs->Reps K ρ H (ds.drop n) (vs.drop n)
 | _,_,0,r=>r
 | _,_,_+1,.nil=>.nil
 | _,_,n+1,.cons _ t=>Reps.drop n t
¶SqT.laid{a p:Addr}{xs:List V}{o:HO}(hp:H p=none)(h:SqT K H a xs):SqT K (upd H p o) a xs:=by
 rcases h with h | h
 ·rcases h with h | ⟨ob,h⟩
  ·~.inl (.inl (by rw[aJ (au h hp)];~h))
  ·~.inl (.inr ⟨ob,by rw[aJ (au h hp)];~h⟩)
 ·~.inr h
¶SqT.written{a p:Addr}{xs:List V}{vs:List V}{o:HO}(hp:H p=some (.lst vs))(h:SqT K H a xs):SqT K (upd H p o) a xs:=by
 rcases h with h | h
 ·rcases h with h | ⟨ob,h⟩
  ·~.inl (.inl (by rw[aJ (xR h hp (by intro z;cases z))];~h))
  ·~.inl (.inr ⟨ob,by rw[aJ (xR h hp (by intro z;cases z))];~h⟩)
 ·~.inr h
¶Grow.laid{p:Addr}{o:HO}(hp:H p=none):Grow K ρ H ρ (upd H p o):=⟨ACc,λ_ _ h=>SqT.laid hp h⟩
¶Grow.laidR{p:Addr}{o:HO}(hp:H p=none):Grow K ρ H (ρ++[p]) (upd H p o):=⟨ABK _ _,λ_ _ h=>SqT.laid hp h⟩
¶Sim.tracked(S:Sim K ρ M H){n:Nat}{a:Addr}(e:ρ[n]?=some a):(∃o,H a=some o)\/isK M[n]?:=by
 have hn:n<M.length:=by rw[←S.len];~(AA2.mp e).1
 have hm:M[n]?=some M[n]:=AA7 hn
 have h:=S.obj n a _ e hm
 rw[hm]
 cases hmo:M[n] with
 | lst ds=>rw[hmo]at h;#⟨vs,h,_⟩:=h;~.inl ⟨_,h⟩
 | fz ds=>rw[hmo]at h;#⟨o,vs,h,_⟩:=h;~.inl ⟨_,h⟩
 | kl ds=>~.inr ⟨ds,rfl⟩
 | dct kvs=>rw[hmo]at h;#⟨vs,h,_⟩:=h;~.inl ⟨_,h⟩
 | dkt kvs=>rw[hmo]at h;#⟨_,_,_,xs,h,_⟩:=h;~.inl ⟨_,h⟩
¶BO.grow{a:Addr}{mo:MO}(g:Grow K ρ H ρ' H')(hs:H' a=H a\/isK (some mo))(h:BO K ρ H a mo):BO K ρ' H' a mo:=by
 cases mo with
 | lst ds =>
  #⟨vs,e,r⟩:=h
  rcases hs with hs | ⟨_,z⟩
  ·~⟨vs,by rw[hs];~e,r.grow g⟩
  ·cases z
 | fz ds =>
  #⟨o,vs,e,r⟩:=h
  rcases hs with hs | ⟨_,z⟩
  ·~⟨o,vs,by rw[hs];~e,r.grow g⟩
  ·cases z
 | kl ds=>#⟨vs,e,r⟩:=h;~⟨vs,e,r.grow g⟩
 | dct kvs =>
  #⟨vs,e,r⟩:=h
  rcases hs with hs | ⟨_,z⟩
  ·~⟨vs,by rw[hs];~e,r.grow g⟩
  ·cases z
 | dkt kvs =>
  #⟨h1,h2,h3,xs,e,r⟩:=h
  rcases hs with hs | ⟨_,z⟩
  ·~⟨h1,h2,h3,xs,by rw[hs];~e,Paired.mapP r λ_ _ ⟨q1,q2,q3,v,q4,q5⟩=>⟨q1,q2,q3.grow g,v,q4.grow g,q5⟩⟩
  ·cases z
¶Sim.keeps{p:Addr}{o:HO}(S:Sim K ρ M H)(hp:H p=none){n:Nat}{a:Addr}{mo:MO}(e1:ρ[n]?=some a)(e2:M[n]?=some mo):upd H p o a=H a\/isK (some mo):=by
 rcases S.tracked e1 with⟨ob,hob⟩ | q
 ·~.inl (aJ (au hob hp))
 ·rw[e2]at q
  ~.inr q
¶Sim.laid{p:Addr}{o:HO}(S:Sim K ρ M H)(hp:H p=none):Sim K ρ M (upd H p o) :=
 ⟨S.nd,S.len,λn a mo e1 e2=>(S.obj n a mo e1 e2).grow (Grow.laid hp) (S.keeps hp e1 e2)⟩
¶bu{α:Type}{l:List α}{x y:α}{n:Nat}(h:(l++[x])[n]?=some y):l[n]?=some y\/(n=l.length/\y=x):=by
 by_cases hn:n<l.length
 ·rw[AAJ hn]at h
  ~.inl h
 ·have hn':n=l.length:=by
   have:=(AA2.mp h).1
   rw[AA8,AAX]at this
   &
  subst hn'
  rw[AAg (AAC _),ABz]at h
  simp at h
  ~.inr ⟨rfl,h.symm⟩
¶isK.more{mo:MO}{n:Nat}(h:isK M[n]?):isK (M++[mo])[n]?:=by
 #⟨ds,e⟩:=h
 ~⟨ds,by rw[AAJ (AA2.mp e).1];~e⟩
¶Sim.laidL{p:Addr}{ds:List D}{vs:List V}(S:Sim K ρ M H)(hp:H p=none)(r:Reps K ρ H ds vs):Sim K (ρ++[p]) (M++[.lst ds]) (upd H p (.lst vs)):=by
 have g:Grow K ρ H (ρ++[p]) (upd H p (.lst vs)):=Grow.laidR hp
 have old:∀(n:Nat),ρ[n]?=some p->isK M[n]?:=λn e=>by
  rcases S.tracked e with⟨o,q⟩ | q
  ·rw[hp]at q;cases q
  ·~q
 !⟨λn m a hnm e1 e2=>?_,by rw[AA8,AA8,S.len];rfl,λn a mo e1 e2=>?_⟩
 ·rcases bu e1 with f1 | ⟨f1,g1⟩
  ·rcases bu e2 with f2 | ⟨f2,g2⟩
   ·~(S.nd n m a hnm f1 f2).elim (λz=>.inl z.more) λz=>.inr z.more
   ·subst g2
    ~.inl (old n f1).more
  ·rcases bu e2 with f2 | ⟨f2,g2⟩
   ·subst g1
    ~.inr (old m f2).more
   ·~absurd (f1.trans f2.symm) hnm
 ·rcases bu e1 with f1 | ⟨f1,g1⟩
  ·have hn:n<M.length:=by rw[←S.len];~(AA2.mp f1).1
   rw[AAJ hn]at e2
   ~(S.obj n a mo f1 e2).grow g (S.keeps hp f1 e2)
  ·subst g1 f1
   rw[S.len,AAg (AAC _),ABz]at e2
   simp at e2
   subst e2
   ~⟨vs,bB,r.grow g⟩
¶Sim.last{p:Addr}(S:Sim K ρ M H):(ρ++[p])[M.length]?=some p:=by
 rw[←S.len,AAg (AAC _),ABz]
 rfl
¶Sim.write{n:Nat}{a:Addr}{ds ds':List D}{vs vs':List V}(S:Sim K ρ M H)(e1:ρ[n]?=some a)(hM:M[n]?=some (.lst ds))(hH:H a=some (.lst vs))(r:Reps K ρ H ds' vs') :
  Sim K ρ (M.set n (.lst ds')) (upd H a (.lst vs'))/\Grow K ρ H ρ (upd H a (.lst vs')):=by
 have g:Grow K ρ H ρ (upd H a (.lst vs')):=⟨ACc,λ_ _ h=>SqT.written hH h⟩
 have hk:∀m,m≠n->(M.set n (.lst ds'))[m]?=M[m]?:=λm hm=>AAt (AAz hm)
 have notK:¬isK M[n]?:=λ⟨_,z⟩=>by rw[hM]at z;cases z
 !⟨⟨λm m' b hne f1 f2=>?_,by rw[ABQ];~S.len,λm b mo f1 f2=>?_⟩,g⟩
 ·have q:=S.nd m m' b hne f1 f2
  by_cases h1:m=n
  ·subst h1
   rw[hk m' (AAz hne)]
   ~.inr (q.resolve_left notK)
  ·rw[hk m h1]
   by_cases h2:m'=n
   ·subst h2
    ~.inl (q.resolve_right notK)
   ·rw[hk m' h2]
    ~q
 by_cases hm:m=n
 ·subst hm
  have hb:b=a:=AAR (f1.symm.trans e1)
  subst hb
  rw[ABD (by rw[←S.len];~(AA2.mp e1).1)]at f2
  cases f2
  ~⟨vs',bB,r.grow g⟩
 ·rw[hk m hm]at f2
  by_cases hb:b=a
  ·subst hb
   have q:=S.nd m n b hm f1 e1
   have q':=q.resolve_right notK
   rw[f2]at q'
   ~(S.obj m b mo f1 f2).grow g (.inr q')
  ·~(S.obj m b mo f1 f2).grow g (.inl (aJ hb))
¶aA.seq(S:Sim K ρ M H){n:Nat}{a:Addr}{xs:List D}(h:aA M n xs)(e:ρ[n]?=some a):∃vs,SqL K H a vs/\Reps K ρ H xs vs:=by
 rcases h with h | h | h
 ·#⟨vs,q,r⟩:=S.obj n a _ e h
  ~⟨vs,.inl (.inl q),r⟩
 ·#⟨o,vs,q,r⟩:=S.obj n a _ e h
  ~⟨vs,.inl (.inr ⟨o,q⟩),r⟩
 ·#⟨vs,q,r⟩:=S.obj n a _ e h
  ~⟨vs,.inr q,r⟩
¶Sim.get(S:Sim K ρ M H){n:Nat}{mo:MO}(e:M[n]?=some mo):∃a,ρ[n]?=some a/\BO K ρ H a mo:=by
 have hn:n<ρ.length:=by rw[S.len];~(AA2.mp e).1
 ~⟨ρ[n],AA7 hn,S.obj n _ mo (AA7 hn) e⟩
end
abbrev SD:=List (Option D)
structure SRep(K:AA5)(ρ:List Addr)(H:Hp)(S:SD)(σ:St):Prop where
 len:S.length=σ.length
 get:∀(i:Nat) (d:D),S[i]?=some (some d)->∃v,σ[i]?=some (some v)/\Rep K ρ H d v
¶SRep.grow{K:AA5}{ρ ρ':List Addr}{H H':Hp}{S:SD}{σ:St}(r:SRep K ρ H S σ)(g:Grow K ρ H ρ' H'):SRep K ρ' H' S σ :=
 ⟨r.len,λi d e=>let ⟨v,h1,h2⟩:=r.get i d e;⟨v,h1,h2.grow g⟩⟩
¶SRep.set{K:AA5}{ρ:List Addr}{H:Hp}{S:SD}{σ:St}(r:SRep K ρ H S σ)(i:Nat){d:D}{v:V}(h:Rep K ρ H d v):SRep K ρ H (S.set i (some d)) (σ.set i (some v)):=by
 !⟨by rw[ABQ,ABQ];~r.len,λj e hj=>?_⟩
 by_cases hij:i=j
 ·subst hij
  by_cases hl:i<S.length
  ·rw[ABD hl]at hj
   cases hj
   ~⟨v,by rw[ABD (by rw[←r.len];~hl)],h⟩
  ·rw[ABV (by rw[ABQ];&)]at hj
   cases hj
 ·rw[AAt hij]at hj
  rw[AAt hij]
  ~r.get j e hj
abbrev DK:=D->Mem->Prop
abbrev DTE:=SD->Mem->DK->Prop
abbrev DTT:=SD->Mem->(Bool->Mem->Prop)->Prop
abbrev DTA:=SD->Mem->(List D->Mem->Prop)->Prop
structure DEnds where
 nx:SD->Mem->Prop
 rt:DK
 bk:SD->Mem->Prop:=λ_ _=>False
 ct:SD->Mem->Prop:=λ_ _=>False
abbrev DTS:=DEnds->SD->Mem->Prop
abbrev DTG:=D->SD->Mem->(SD->Mem->Prop)->Prop
abbrev FH:=List D->SD->Mem->(SD->Mem->Prop)->Prop
abbrev DR2:=D->D->Mem->DK->Prop
abbrev DR1:=D->Mem->DK->Prop
abbrev DRA:=List D->Mem->DK->Prop
section
variable(K:AA5)
inductive VQ(ρ:List Addr)(H:Hp)(Q:DK)(v:V)(H':Hp):Prop
 | mk (d:D) (M':Mem) (ρ':List Addr) (s:Sim K ρ' M' H') (g:Grow K ρ H ρ' H') (r:Rep K ρ' H' d v) (q:Q d M')
inductive BQ(ρ:List Addr)(H:Hp)(Q:Bool->Mem->Prop)(b:Bool)(H':Hp):Prop
 | mk (M':Mem) (ρ':List Addr) (s:Sim K ρ' M' H') (g:Grow K ρ H ρ' H') (q:Q b M')
inductive AQ(ρ:List Addr)(H:Hp)(Q:List D->Mem->Prop)(vs:List V)(H':Hp):Prop
 | mk (ds:List D) (M':Mem) (ρ':List Addr) (s:Sim K ρ' M' H') (g:Grow K ρ H ρ' H') (r:Reps K ρ' H' ds vs) (q:Q ds M')
inductive SQ(ρ:List Addr)(H:Hp)(Q:SD->Mem->Prop)(σ':St)(H':Hp):Prop
 | mk (S':SD) (M':Mem) (ρ':List Addr) (s:Sim K ρ' M' H') (g:Grow K ρ H ρ' H') (r:SRep K ρ' H' S' σ') (q:Q S' M')
structure Ups(ρ:List Addr)(H:Hp)(F:DEnds)(E:Ends):Prop where
 nx:∀σ' H',SQ K ρ H F.nx σ' H'->E.nx σ' H'
 rt:∀v H',VQ K ρ H F.rt v H'->E.rt v H'
 bk:∀σ' H',SQ K ρ H F.bk σ' H'->E.bk σ' H'
 ct:∀σ' H',SQ K ρ H F.ct σ' H'->E.ct σ' H'
inductive lowE(t:DTE)(σ:St)(H:Hp)(R:VK):Prop
 | mk (S:SD) (M:Mem) (ρ:List Addr) (Q:DK) (s:Sim K ρ M H) (sr:SRep K ρ H S σ) (q:t S M Q) (k:∀v H',VQ K ρ H Q v H'->R v H')
inductive lowT(t:DTT)(σ:St)(H:Hp)(R:Bool->Hp->Prop):Prop
 | mk (S:SD) (M:Mem) (ρ:List Addr) (Q:Bool->Mem->Prop) (s:Sim K ρ M H) (sr:SRep K ρ H S σ) (q:t S M Q) (k:∀v H',BQ K ρ H Q v H'->R v H')
inductive lowA(t:DTA)(σ:St)(H:Hp)(R:List V->Hp->Prop):Prop
 | mk (S:SD) (M:Mem) (ρ:List Addr) (Q:List D->Mem->Prop) (s:Sim K ρ M H) (sr:SRep K ρ H S σ) (q:t S M Q) (k:∀v H',AQ K ρ H Q v H'->R v H')
inductive lowS(t:DTS)(E:Ends)(σ:St)(H:Hp):Prop
 | mk (S:SD) (M:Mem) (ρ:List Addr) (F:DEnds) (s:Sim K ρ M H) (sr:SRep K ρ H S σ) (q:t F S M) (k:Ups K ρ H F E)
inductive lowG(g:DTG)(v:V)(σ:St)(H:Hp)(R:St->Hp->Prop):Prop
 | mk (d:D) (S:SD) (M:Mem) (ρ:List Addr) (Q:SD->Mem->Prop) (s:Sim K ρ M H) (sr:SRep K ρ H S σ) (r:Rep K ρ H d v) (q:g d S M Q) (k:∀σ' H',SQ K ρ H Q σ' H'->R σ' H')
inductive lowGs(g:FH)(vs:List V)(σ:St)(H:Hp)(R:St->Hp->Prop):Prop
 | mk (ds:List D) (S:SD) (M:Mem) (ρ:List Addr) (Q:SD->Mem->Prop) (s:Sim K ρ M H) (sr:SRep K ρ H S σ) (r:Reps K ρ H ds vs) (q:g ds S M Q) (k:∀σ' H',SQ K ρ H Q σ' H'->R σ' H')
inductive lowR(r:DR2)(vx vy:V)(H:Hp)(R:VK):Prop
 | mk (x y:D) (M:Mem) (ρ:List Addr) (Q:DK) (s:Sim K ρ M H) (r1:Rep K ρ H x vx) (r2:Rep K ρ H y vy) (q:r x y M Q) (k:∀v H',VQ K ρ H Q v H'->R v H')
inductive lowU(r:DR1)(vx:V)(H:Hp)(R:VK):Prop
 | mk (x:D) (M:Mem) (ρ:List Addr) (Q:DK) (s:Sim K ρ M H) (r1:Rep K ρ H x vx) (q:r x M Q) (k:∀v H',VQ K ρ H Q v H'->R v H')
inductive lowC(r:DRA)(vs:List V)(H:Hp)(R:VK):Prop
 | mk (ds:List D) (M:Mem) (ρ:List Addr) (Q:DK) (s:Sim K ρ M H) (r1:Reps K ρ H ds vs) (q:r ds M Q) (k:∀v H',VQ K ρ H Q v H'->R v H')
end
def DE(X:Cx)(e:Expr)(t:DTE):Prop:=PE X e (lowE X.K t)
def DT(X:Cx)(e:Expr)(t:DTT):Prop:=PT X e (lowT X.K t)
def DW(X:Cx)(e:Expr)(t:DTT):Prop:=PW X e (lowT X.K t)
def DA(X:Cx)(es:List Expr)(t:DTA):Prop:=PA X es (lowA X.K t)
def DS(X:Cx)(st:Stmt)(t:DTS):Prop:=PS X st (lowS X.K t)
def DSs(X:Cx)(st:List Stmt)(t:DTS):Prop:=PSs X st (lowS X.K t)
def DG(X:Cx)(tg:Expr)(g:DTG):Prop:=PG X tg (lowG X.K g)
def DGs(X:Cx)(tg:List Expr)(g:FH):Prop:=PGs X tg (lowGs X.K g)
def OpD(X:Cx)(f:Value->Value->Sem Value)(r:DR2):Prop:=OpR X f (lowR X.K r)
def UnD(X:Cx)(f:Value->Sem Value)(r:DR1):Prop:=UnR X f (lowU X.K r)
def mh(X:Cx)(f:Value)(r:DRA):Prop:=fY X f (lowC X.K r)
section
variable{K:AA5}{ρ ρ1:List Addr}{H H1:Hp}
¶VQ.trans{Q:DK}{v:V}{H':Hp}(g:Grow K ρ H ρ1 H1)(h:VQ K ρ1 H1 Q v H'):VQ K ρ H Q v H':=by
 #⟨d,M',ρ',s,g',r,q⟩:=h
 ~⟨d,M',ρ',s,g.trans g',r,q⟩
¶BQ.trans{Q:Bool->Mem->Prop}{v:Bool}{H':Hp}(g:Grow K ρ H ρ1 H1)(h:BQ K ρ1 H1 Q v H'):BQ K ρ H Q v H':=by
 #⟨M',ρ',s,g',q⟩:=h
 ~⟨M',ρ',s,g.trans g',q⟩
¶SQ.trans{Q:SD->Mem->Prop}{v:St}{H':Hp}(g:Grow K ρ H ρ1 H1)(h:SQ K ρ1 H1 Q v H'):SQ K ρ H Q v H':=by
 #⟨d,M',ρ',s,g',r,q⟩:=h
 ~⟨d,M',ρ',s,g.trans g',r,q⟩
¶Ups.trans{F:DEnds}{E:Ends}(g:Grow K ρ H ρ1 H1)(h:Ups K ρ H F E):Ups K ρ1 H1 F E :=
 ⟨λσ' H' q=>h.nx σ' H' (SQ.trans g q),λv H' q=>h.rt v H' (VQ.trans g q),λσ' H' q=>h.bk σ' H' (SQ.trans g q),λσ' H' q=>h.ct σ' H' (SQ.trans g q)⟩
¶VQ.now{Q:DK}{d:D}{v:V}{M:Mem}(s:Sim K ρ M H)(r:Rep K ρ H d v)(q:Q d M):VQ K ρ H Q v H:=⟨d,M,ρ,s,.refl,r,q⟩
end
section
variable{K:AA5}{ρ:List Addr}{H:Hp}{v:V}{vs:List V}
¶Rep.inv_non(h:Rep K ρ H .non v):v=.non:=by cases h;rfl
¶Rep.inv_bl{b:Bool}(h:Rep K ρ H (.bl b) v):v=.bl b:=by cases h;rfl
¶Rep.inv_int{i:Int}(h:Rep K ρ H (.int i) v):v=.int i:=by cases h;rfl
¶Rep.inv_str{x:Str}(h:Rep K ρ H (.str x) v):v=.str x:=by cases h;rfl
¶Rep.inv_ty{n:String}(h:Rep K ρ H (.ty n) v):v=.ty n:=by cases h;rfl
¶Rep.inv_tup{ds:List D}(h:Rep K ρ H (.tup ds) v):∃a vs,v=.ref a/\SqT K H a vs/\Reps K ρ H ds vs:=by cases h with | tup h r=>~⟨_,_,rfl,h,r⟩
¶Rep.inv_ref{n:Nat}(h:Rep K ρ H (.ref n) v):∃a,v=.ref a/\ρ[n]?=some a:=by cases h with | ref h=>~⟨_,rfl,h⟩
¶aL.inv_cons{x:V}{us:List Value}(h:aL (x::vs) us):∃u ws,us=u::ws/\bi x u/\aL vs ws:=by cases h with | cons h t=>~⟨_,_,rfl,h,t⟩
¶aL.inv_nil{us:List Value}(h:aL [] us):us=[]:=by cases h;rfl
¶Reps.inv_nil(h:Reps K ρ H [] vs):vs=[]:=by cases h;rfl
¶Reps.inv_cons{d:D}{ds:List D}(h:Reps K ρ H (d::ds) vs):∃v ws,vs=v::ws/\Rep K ρ H d v/\Reps K ρ H ds ws:=by cases h with | cons h t=>~⟨_,_,rfl,h,t⟩
end
end L2
namespace L2
open PySem PySem.Spec PyProof.Rows DL
¶PE.imp{X:Cx}{e:Expr}{t t':TE}(h:PE X e t')(i:∀σ H R,t σ H R->t' σ H R):PE X e t:=λpins s σ H R I q=>h pins s σ H R I (i σ H R q)
¶PT.imp{X:Cx}{e:Expr}{t t':TT}(h:PT X e t')(i:∀σ H R,t σ H R->t' σ H R):PT X e t:=λpins s σ H R I q=>h pins s σ H R I (i σ H R q)
¶PW.imp{X:Cx}{e:Expr}{t t':TT}(h:PW X e t')(i:∀σ H R,t σ H R->t' σ H R):PW X e t:=λw pins s σ H R I q=>h w pins s σ H R I (i σ H R q)
¶PA.imp{X:Cx}{e:List Expr}{t t':TA}(h:PA X e t')(i:∀σ H R,t σ H R->t' σ H R):PA X e t:=λpos pins s σ H R I q=>h pos pins s σ H R I (i σ H R q)
¶PS.imp{X:Cx}{e:Stmt}{t t':TS}(h:PS X e t')(i:∀E σ H,t E σ H->t' E σ H):PS X e t:=λpins s σ H R I q=>h pins s σ H R I (i R σ H q)
¶PSs.imp{X:Cx}{e:List Stmt}{t t':TS}(h:PSs X e t')(i:∀E σ H,t E σ H->t' E σ H):PSs X e t:=λpins s σ H R I q=>h pins s σ H R I (i R σ H q)
¶OpR.imp{X:Cx}{f:Value->Value->Sem Value}{r r':R2}(h:OpR X f r')(i:∀x y H R,r x y H R->r' x y H R):OpR X f r:=λpins s σ H x y v u R I a b q=>h pins s σ H x y v u R I a b (i x y H R q)
¶fY.imp{X:Cx}{f:Value}{r r':List V->Hp->VK->Prop}(h:fY X f r')(i:∀xs H R,r xs H R->r' xs H R):fY X f r:=λpins s σ H xs us R I a q=>h pins s σ H xs us R I a (i xs H R q)
section
variable{X:Cx}{a b c:Expr}{ta tb tc:DTE}{pos:Pos}
def af(i:Nat):DTE:=λS M Q=>match S[i]? with
 | some (some d)=>Q d M
 | _=>False
def dC(d:D):DTE:=λ_ M Q=>Q d M
¶GL{K:AA5}{i:Nat}(σ:St)(H:Hp)(R:VK)(h:lowE K (af i) σ H R):tVar i σ H R:=by
 #⟨S,M,ρ,Q,s,r,q,k⟩:=h
 unfold af at q
 cases e:S[i]? with
 | none=>rw[e]at q;~q.elim
 | some o =>
  cases o with
  | none=>rw[e]at q;~q.elim
  | some d =>
   rw[e]at q
   #⟨v,hv,rv⟩:=r.get i d e
   ~⟨v,hv,k v H (VQ.now s rv q)⟩
¶d_var{i:Nat}{x:Str}(hN:X.N[i]?=some x:=by rfl)(hv:Vis X.env.scope x:=by first | ~Or.inl rfl | ~Or.inr (Or.inl rfl) | ~Or.inr (Or.inr rfl))(hd:(x==("__debug__":Str))=false:=by decide)
  (hcd:(x==("__classdict__":Str))=false:=by decide):DE X (.Name x pos) (af i):=PE.imp (Dp hN hv hd hcd) GL
def cV:D->Option V
 | .non=>some .non
 | .bl b=>some (.bl b)
 | .int i=>some (.int i)
 | .str x=>some (.str x)
 | .ty n=>some (.ty n)
 | _=>none
¶Fi{K:AA5}{ρ:List Addr}{H:Hp}{d:D}{v:V}(h:cV d=some v):Rep K ρ H d v:=by
 cases d with
 | non=>cases h;~.non
 | bl b=>cases h;~.bl b
 | int b=>cases h;~.int b
 | str b=>cases h;~.str b
 | ty b=>cases h;~.ty b
 | tup b=>cases h
 | ref b=>cases h
¶qA{K:AA5}{d:D}{v:V}(hd:cV d=some v)(σ:St)(H:Hp)(R:VK)(h:lowE K (dC d) σ H R):tC v σ H R:=by
 #⟨S,M,ρ,Q,s,r,q,k⟩:=h
 ~k v H (VQ.now s (Fi hd) q)
¶d_int{i:Int}{j:Nat}:DE X (.Constant (.int i) j pos) (dC (.int i)):=PE.imp MB (qA rfl)
¶d_bl{i:Bool}{j:Nat}:DE X (.Constant (.bool i) j pos) (dC (.bl i)):=PE.imp MD (qA rfl)
¶d_non{j:Nat}:DE X (.Constant .none j pos) (dC .non):=PE.imp My (qA rfl)
¶d_str{i:Str}{j:Nat}:DE X (.Constant (.str i) j pos) (dC (.str i)):=PE.imp Mv (qA rfl)
¶Oh{x:Str}{d:D}{v:V}{u:Value}(hm:X.mg x=some u)(hd:cV d=some v)(r:bi v u)(hg:Gl X x:=by rfl)(hb:(x==("__debug__":Str))=false:=by decide):DE X (.Name x pos) (dC d):=PE.imp (xK hg hm r hb) (qA hd)
¶Og{x:Str}{T:String}(hm:X.mg x=none)(hv:bootBuiltins x=some (.type T))(hg:Gl X x:=by rfl)(hn:x≠"__name__":=by decide)(hb:(x==("__debug__":Str))=false:=by decide):DE X (.Name x pos) (dC (.ty T)) :=
 PE.imp (JM (v:=.ty T) hg hm hv rfl hn hb) (qA rfl)
¶low2{K:AA5}{S:SD}{M:Mem}{ρ:List Addr}{σ:St}{H:Hp}{P:D->D->Mem->Prop}{G:V->V->Hp->Prop}(s:Sim K ρ M H)(r:SRep K ρ H S σ)(h:ta S M λx M1=>tb S M1 λy M2=>P x y M2)
  (k:∀x y vx vy M2 ρ2 H2,Sim K ρ2 M2 H2->Grow K ρ H ρ2 H2->Rep K ρ2 H2 x vx->Rep K ρ2 H2 y vy->P x y M2->G vx vy H2):lowE K ta σ H λvx H1=>lowE K tb σ H1 λvy H2=>G vx vy H2:=by
 !⟨S,M,ρ,_,s,r,h,λvx H1 ⟨x,M1,ρ1,s1,g1,r1,q1⟩=>⟨S,M1,ρ1,_,s1,r.grow g1,q1,λvy H2 ⟨y,M2,ρ2,s2,g2,r2,q2⟩=>?_⟩⟩
 ~k x y vx vy M2 ρ2 H2 s2 (g1.trans g2) (r1.grow g2) r2 q2
def dOp(r:DR2)(ta tb:DTE):DTE:=λS M Q=>ta S M λx M1=>tb S M1 λy M2=>r x y M2 Q
¶rS{K:AA5}{r:DR2}(σ:St)(H:Hp)(R:VK)(h:lowE K (dOp r ta tb) σ H R):tOp (lowR K r) (lowE K ta) (lowE K tb) σ H R:=by
 #⟨S,M,ρ,Q,s,sr,q,k⟩:=h
 ~low2 s sr q λx y vx vy M2 ρ2 H2 s2 g2 r1 r2 q2=>⟨x,y,M2,ρ2,Q,s2,r1,r2,q2,λv H' w=>k v H' (VQ.trans g2 w)⟩
¶d_op{op:Operator}{r:DR2}(ho:OpD X (binaryOp op) r)(ha:DE X a ta)(hb:DE X b tb):DE X (.BinOp a op b pos) (dOp r ta tb):=PE.imp (pe_op ho ha hb) rS
¶d_cmp{op:CmpOp}{r:DR2}(ho:OpD X (compareOp op) r)(ha:DE X a ta)(hb:DE X b tb)(hm:behindInMarks op b=false:=by with_unfolding_all rfl):DE X (.Compare a [op] [b] pos) (dOp r ta tb):=PE.imp (JK ho ha hb hm) rS
def az(t:DTE):DTT:=λS M Q=>t S M λx M'=>match x with
 | .bl b=>Q b M'
 | _=>False
¶jS{K:AA5}{t:DTE}(σ:St)(H:Hp)(R:Bool->Hp->Prop)(h:lowT K (az t) σ H R):Jj (lowE K t) σ H R:=by
 #⟨S,M,ρ,Q,s,sr,q,k⟩:=h
 !⟨S,M,ρ,_,s,sr,q,λv H' ⟨d,M',ρ',s',g',r',q'⟩=>?_⟩
 cases r' with
 | bl b=>~⟨b,rfl,k b H' ⟨M',ρ',s',g',q'⟩⟩
 | _=>~q'.elim
¶NS{op:CmpOp}{r:DR2}(ho:OpD X (compareOp op) r)(ha:DE X a ta)(hb:DE X b tb)(hm:behindInMarks op b=false:=by with_unfolding_all rfl):DT X (.Compare a [op] [b] pos) (az (dOp r ta tb)):=by
 !PT.imp (Dg ho ha hb hm) λσ H R h=>?_
 #⟨S,M,ρ,Q,s,sr,q,k⟩:=jS σ H R h
 ~rS σ H _ ⟨S,M,ρ,Q,s,sr,q,k⟩
¶NQ{e:Expr}{t:DTE}(h:DE X e t)(he:∀whole,isTrue e X.env whole=(do let v ←whole;standAt e.pos;holding [v] (truthy v)):=by intro _;rfl):DT X e (az t):=PT.imp (Ml h he) jS
def onB(z:D)(k:Bool->Prop):Prop:=match z with
 | .bl b=>k b
 | _=>False
¶va{b:Bool}{k:Bool->Prop}:onB (.bl b) k=k b:=rfl
def eN(r r':DR2)(ta tb tc:DTE):DTE:=λS M Q=>ta S M λx M1=>tb S M1 λy M2=>r x y M2 λz M3=>onB z λb=>if b=true then tc S M3 λw M4=>r' y w M4 Q else Q (.bl false) M3
¶qz{K:AA5}{r r':DR2}(σ:St)(H:Hp)(R:VK)(h:lowE K (eN r r' ta tb tc) σ H R):Cv (lowR K r) (lowR K r') (lowE K ta) (lowE K tb) (lowE K tc) σ H R:=by
 #⟨S,M,ρ,Q,s,sr,q,k⟩:=h
 !low2 s sr q λx y vx vy M2 ρ2 H2 s2 g2 r1 r2 q2=>⟨x,y,M2,ρ2,_,s2,r1,r2,q2,λvz H3 ⟨z,M3,ρ3,s3,g3,r3,q3⟩=>?_⟩
 cases r3 with
 | bl b =>
  cases b with
  | false=>~⟨false,rfl,bH (k _ H3 ⟨_,M3,ρ3,s3,g2.trans g3,.bl false,(show Q (.bl false) M3 from q3)⟩)⟩
  | true =>
   !⟨true,rfl,bb ⟨S,M3,ρ3,_,s3,sr.grow (g2.trans g3),(show tc S M3 _ from q3),λvw H4 ⟨w,M4,ρ4,s4,g4,r4,q4⟩=>?_⟩⟩
   ~⟨y,w,M4,ρ4,Q,s4,r2.grow (g3.trans g4),r4,q4,λv H' w'=>k v H' (VQ.trans ((g2.trans g3).trans g4) w')⟩
 | _=>~q3.elim
¶Lj{op op':CmpOp}{r r':DR2}(ho:OpD X (compareOp op) r)(ho':OpD X (compareOp op') r')(ha:DE X a ta)(hb:DE X b tb)(hc:DE X c tc)(hm:lastMarks [op,op'] [b,c]=false:=by with_unfolding_all rfl) :
  DE X (.Compare a [op,op'] [b,c] pos) (eN r r' ta tb tc):=PE.imp (Gr ho ho' ha hb hc hm) qz
¶Hv{op op':CmpOp}{r r':DR2}(ho:OpD X (compareOp op) r)(ho':OpD X (compareOp op') r')(ha:DE X a ta)(hb:DE X b tb)(hc:DE X c tc)(hm:lastMarks [op,op'] [b,c]=false:=by with_unfolding_all rfl) :
  DT X (.Compare a [op,op'] [b,c] pos) (az (eN r r' ta tb tc)):=by
 !PT.imp (Gj ho ho' ha hb hc hm) λσ H R h=>?_
 #⟨S,M,ρ,Q,s,sr,q,k⟩:=jS σ H R h
 ~qz σ H _ ⟨S,M,ρ,Q,s,sr,q,k⟩
variable{tA tB:DTT}{bn:List Expr}
def Fb(t u:DTT):DTT:=λS M Q=>t S M λb M1=>if b=true then u S M1 Q else Q false M1
def dOr(t u:DTT):DTT:=λS M Q=>t S M λb M1=>if b=true then Q true M1 else u S M1 Q
def gi(t:DTT):DTT:=λS M Q=>t S M λb M1=>Q (!b) M1
¶KJ(ha:DT X a tA):DW X (.BoolOp .And [a] pos) tA:=Jw ha
¶NO(ha:DT X a tA):DW X (.BoolOp .Or [a] pos) tA:=Mi ha
¶NP(ha:DT X a tA)(hb:DW X (.BoolOp .And (b::bn) pos) tB):DW X (.BoolOp .And (a::b::bn) pos) (Fb tA tB):=by
 !PW.imp (Mj ha hb) λσ H R ⟨S,M,ρ,Q,s,sr,q,k⟩=>⟨S,M,ρ,_,s,sr,q,λc H1 ⟨M1,ρ1,s1,g1,q1⟩=>?_⟩
 cases c with
 | true=>~bb ⟨S,M1,ρ1,Q,s1,sr.grow g1,(show tB S M1 Q from q1),λv H' w=>k v H' (BQ.trans g1 w)⟩
 | false=>~bH (k false H1 ⟨M1,ρ1,s1,g1,q1⟩)
¶dw_or(ha:DT X a tA)(hb:DW X (.BoolOp .Or (b::bn) pos) tB):DW X (.BoolOp .Or (a::b::bn) pos) (dOr tA tB):=by
 !PW.imp (pw_or ha hb) λσ H R ⟨S,M,ρ,Q,s,sr,q,k⟩=>⟨S,M,ρ,_,s,sr,q,λc H1 ⟨M1,ρ1,s1,g1,q1⟩=>?_⟩
 cases c with
 | false=>~bH ⟨S,M1,ρ1,Q,s1,sr.grow g1,(show tB S M1 Q from q1),λv H' w=>k v H' (BQ.trans g1 w)⟩
 | true=>~bb (k true H1 ⟨M1,ρ1,s1,g1,q1⟩)
¶dw_t{t:DTT}{e:Expr}(h:DW X e t):DT X e t:=PW.pt h
¶NR(ha:DT X a tA):DT X (.UnaryOp .Not a pos) (gi tA) :=
 PT.imp (Mm ha) λσ H R ⟨S,M,ρ,Q,s,sr,q,k⟩=>⟨S,M,ρ,_,s,sr,q,λc H1 ⟨M1,ρ1,s1,g1,q1⟩=>k (!c) H1 ⟨M1,ρ1,s1,g1,q1⟩⟩
def bV(ta tb:DTE):DTE:=λS M Q=>ta S M λx M1=>onB x λb=>if b=true then tb S M1 Q else Q (.bl false) M1
def Oj(ta tb:DTE):DTE:=λS M Q=>ta S M λx M1=>onB x λb=>if b=true then Q (.bl true) M1 else tb S M1 Q
def Fa(ta:DTE):DTE:=λS M Q=>ta S M λx M1=>match x with
 | .bl b=>Q (.bl (!b)) M1
 | _=>False
¶d_one{op}(h:DE X a ta):DE X (.BoolOp op [a] pos) ta:=Mw h
¶d_and(ha:DE X a ta)(hb:DE X (.BoolOp .And (b::bn) pos) tb):DE X (.BoolOp .And (a::b::bn) pos) (bV ta tb):=by
 !PE.imp (ME ha hb) λσ H R ⟨S,M,ρ,Q,s,sr,q,k⟩=>⟨S,M,ρ,_,s,sr,q,λv H1 ⟨d,M1,ρ1,s1,g1,r1,q1⟩=>?_⟩
 cases r1 with
 | bl c =>
  cases c with
  | true=>~⟨true,rfl,bb ⟨S,M1,ρ1,Q,s1,sr.grow g1,(show tb S M1 Q from q1),λv H' w=>k v H' (VQ.trans g1 w)⟩⟩
  | false=>~⟨false,rfl,bH (k _ H1 ⟨_,M1,ρ1,s1,g1,.bl false,(show Q (.bl false) M1 from q1)⟩)⟩
 | _=>~q1.elim
¶d_or(ha:DE X a ta)(hb:DE X (.BoolOp .Or (b::bn) pos) tb):DE X (.BoolOp .Or (a::b::bn) pos) (Oj ta tb):=by
 !PE.imp (pe_or ha hb) λσ H R ⟨S,M,ρ,Q,s,sr,q,k⟩=>⟨S,M,ρ,_,s,sr,q,λv H1 ⟨d,M1,ρ1,s1,g1,r1,q1⟩=>?_⟩
 cases r1 with
 | bl c =>
  cases c with
  | false=>~⟨false,rfl,bH ⟨S,M1,ρ1,Q,s1,sr.grow g1,(show tb S M1 Q from q1),λv H' w=>k v H' (VQ.trans g1 w)⟩⟩
  | true=>~⟨true,rfl,bb (k _ H1 ⟨_,M1,ρ1,s1,g1,.bl true,(show Q (.bl true) M1 from q1)⟩)⟩
 | _=>~q1.elim
¶d_not(ha:DE X a ta):DE X (.UnaryOp .Not a pos) (Fa ta):=by
 !PE.imp (Mx ha) λσ H R ⟨S,M,ρ,Q,s,sr,q,k⟩=>⟨S,M,ρ,_,s,sr,q,λv H1 ⟨d,M1,ρ1,s1,g1,r1,q1⟩=>?_⟩
 cases r1 with
 | bl c=>~⟨c,rfl,k _ H1 ⟨_,M1,ρ1,s1,g1,.bl (!c),q1⟩⟩
 | _=>~q1.elim
variable{e:Expr}{es:List Expr}{te:DTE}{t:DTA}
def ao:DTA:=λ_ M Q=>Q [] M
def ab(te:DTE)(t:DTA):DTA:=λS M Q=>te S M λd M1=>t S M1 λds M2=>Q (d::ds) M2
¶Of:DA X [] ao:=PA.imp MF λσ H R ⟨S,M,ρ,Q,s,sr,q,k⟩=>k [] H ⟨[],M,ρ,s,.refl,.nil,q⟩
¶Lf(ha:DE X e te)(hr:DA X es t)(hs:starEach (e::es) X.env=(false,eval e X.env)::starEach es X.env:=by rfl):DA X (e::es) (ab te t) :=
 PA.imp (JO ha hr hs) λσ H R ⟨S,M,ρ,Q,s,sr,q,k⟩=>⟨S,M,ρ,_,s,sr,q,λv H1 ⟨d,M1,ρ1,s1,g1,r1,q1⟩=>⟨S,M1,ρ1,_,s1,sr.grow g1,q1,λvs H2 ⟨ds,M2,ρ2,s2,g2,r2,q2⟩ =>
  k _ H2 ⟨d::ds,M2,ρ2,s2,g1.trans g2,.cons (r1.grow g2) r2,q2⟩⟩⟩
def gh(t:DTA):DTE:=λS M Q=>t S M λds M1=>ds.length<=sizeLine/\Q (.tup ds) M1
def gf(t:DTA):DTE:=λS M Q=>t S M λds M1=>ds.length<=sizeLine/\Q (.ref M1.length) (M1++[.lst ds])
¶VQ.laidT{K:AA5}{ρ ρ1:List Addr}{H H1:Hp}{M1:Mem}{ds:List D}{vs:List V}{Q:DK}{p:Addr}(s1:Sim K ρ1 M1 H1)(g1:Grow K ρ H ρ1 H1)(r1:Reps K ρ1 H1 ds vs)(hp:H1 p=none)(q:Q (.tup ds) M1):VQ K ρ H Q (.ref p) (upd H1 p (.tup vs)) :=
 ⟨.tup ds,M1,ρ1,s1.laid hp,g1.trans (Grow.laid hp),.tup (SqT.of bB) (r1.grow (Grow.laid hp)),q⟩
¶VQ.laidL{K:AA5}{ρ ρ1:List Addr}{H H1:Hp}{M1:Mem}{ds:List D}{vs:List V}{Q:DK}{p:Addr}(s1:Sim K ρ1 M1 H1)(g1:Grow K ρ H ρ1 H1)(r1:Reps K ρ1 H1 ds vs)(hp:H1 p=none)(q:Q (.ref M1.length) (M1++[.lst ds])):VQ K ρ H Q (.ref p) (upd H1 p (.lst vs)) :=
 ⟨.ref M1.length,M1++[.lst ds],ρ1++[p],s1.laidL hp r1,g1.trans (Grow.laidR hp),.ref s1.last,q⟩
¶d_tup{x1}(h:DA X es t):DE X (.Tuple es x1 pos) (gh t) :=
 PE.imp (Mu h) λσ H R ⟨S,M,ρ,Q,s,sr,q,k⟩=>⟨S,M,ρ,_,s,sr,q,λvs H1 ⟨ds,M1,ρ1,s1,g1,r1,z,q1⟩=>⟨by rw[←r1.length];~z,λp hp=>k _ _ (VQ.laidT s1 g1 r1 hp q1)⟩⟩
¶d_lst(h:DA X es t):DE X (.List es pos) (gf t) :=
 PE.imp (Mz h) λσ H R ⟨S,M,ρ,Q,s,sr,q,k⟩=>⟨S,M,ρ,_,s,sr,q,λvs H1 ⟨ds,M1,ρ1,s1,g1,r1,z,q1⟩=>⟨by rw[←r1.length];~z,λp hp=>k _ _ (VQ.laidL s1 g1 r1 hp q1)⟩⟩
def dCB(r:DRA)(t:DTA):DTE:=λS M Q=>t S M λds M1=>r ds M1 Q
¶DY{K:AA5}{r:DRA}(σ:St)(H:Hp)(R:VK)(h:lowE K (dCB r t) σ H R):tCB (lowC K r) (lowA K t) σ H R:=by
 #⟨S,M,ρ,Q,s,sr,q,k⟩:=h
 ~⟨S,M,ρ,_,s,sr,q,λvs H1 ⟨ds,M1,ρ1,s1,g1,r1,q1⟩=>⟨ds,M1,ρ1,Q,s1,r1,q1,λv H' w=>k v H' (VQ.trans g1 w)⟩⟩
¶Lk{x:Str}{p:Pos}{id:String}{r:DRA}(hc:mh X (.builtin id) r)(hm:X.mg x=none)(hv:bootBuiltins x=some (.builtin id))(ha:DA X (e::es) t)(hg:Gl X x:=by rfl)(hn:x≠"__name__":=by decide)(hdb:(x==("__debug__":Str))=false:=by decide)
  (he:starEach (e::es) X.env=(false,eval e X.env)::starEach es X.env:=by rfl) (hpl:(backTo pos (starEach es X.env)).any (·.1)=false:=by rfl):DE X (.Call (.Name x p) (e::es) [] pos) (dCB r t) :=
 PE.imp (Gs hc hg hm hv ha hn hdb he hpl) DY
¶HQ{x:Str}{p:Pos}{T:String}{r:DRA}(hc:mh X (.type T) r)(hm:X.mg x=none)(hv:bootBuiltins x=some (.type T))(ha:DA X (e::es) t)(hg:Gl X x:=by rfl)(hn:x≠"__name__":=by decide)(hdb:(x==("__debug__":Str))=false:=by decide)
  (he:starEach (e::es) X.env=(false,eval e X.env)::starEach es X.env:=by rfl) (hpl:(backTo pos (starEach es X.env)).any (·.1)=false:=by rfl):DE X (.Call (.Name x p) (e::es) [] pos) (dCB r t) :=
 PE.imp (Dq hc hg hm hv ha hn hdb he hpl) DY
abbrev DSp:=List D->Mem->DK->Prop
def spL(K:AA5)(P:DSp):Sp:=λvs H Q _=>∃ds M ρ R,Sim K ρ M H/\Reps K ρ H ds vs/\P ds M R/\∀v H',VQ K ρ H R v H'->Q v H'
¶DV{K:AA5}{P:DSp}(σ:St)(H:Hp)(R:VK)(h:lowE K (dCB P t) σ H R):LR (spL K P) [] E0 (lowA K t) σ H R:=by
 #⟨S,M,ρ,Q,s,sr,q,k⟩:=h
 ~⟨S,M,ρ,_,s,sr,q,λvs H1 ⟨ds,M1,ρ1,s1,g1,r1,q1⟩=>⟨ds,M1,ρ1,Q,s1,by rw[ACa];~r1,q1,λv H' w=>k v H' (VQ.trans g1 w)⟩⟩
¶Oi{k:Nat}{f:Addr}{fd:FuncData}{ps:List Str}{x:Str}{p:Pos}{P:DSp}(F:FnOk X.prog X.w X.K X.mg X.base CX0 k f fd ps (spL X.K P))(hr:Room k X.A)(hm:X.mg x=some (.ref f))(hk:ACU X.K (.ref f)=true)(hb:wO X.K fd ps [])
  (ha:DA X (e::es) t) (hg:Gl X x:=by rfl) (hdb:(x==("__debug__":Str))=false:=by decide) (he:starEach (e::es) X.env=(false,eval e X.env)::starEach es X.env:=by rfl) (hpl:(backTo pos (starEach es X.env)).any (·.1)=false:=by rfl) :
  DE X (.Call (.Name x p) (e::es) [] pos) (dCB P t):=PE.imp (JL F hr hg hm hk hb .nil pass0 ha hdb he hpl) DV
end
section
variable{X:Cx}{st:Stmt}{bn:List Stmt}{t u:DTS}{e:Expr}{te:DTE}{pos:Pos}
def aO:DTS:=λE S M=>E.nx S M
def aR(t u:DTS):DTS:=λE S M=>t { E with nx:=λS' M'=>u E S' M' } S M
¶NW:DSs X [] aO:=PSs.imp JB λE σ H ⟨S,M,ρ,F,s,sr,q,k⟩=>k.nx σ H ⟨S,M,ρ,s,.refl,sr,q⟩
¶NV(h:DS X st t):DSs X [st] t:=JA h
¶KP(h1:DS X st t)(h2:DSs X bn u):DSs X (st::bn) (aR t u) :=
 PSs.imp (Gk h1 h2) λE σ H ⟨S,M,ρ,F,s,sr,q,k⟩=>⟨S,M,ρ,_,s,sr,q,⟨λσ' H' ⟨S',M',ρ',s',g',sr',q'⟩=>⟨S',M',ρ',F,s',sr',q',k.trans g'⟩,k.rt,k.bk,k.ct⟩⟩
def wg(te:DTE):DTS:=λE S M=>te S M λ_ M1=>E.nx S M1
¶KN(he:DE X e te)(hs:swapsWith e none pos.line X.env=pure false:=by rfl):DS X (.Expr e pos) (wg te) :=
 PS.imp (JC he hs) λE σ H ⟨S,M,ρ,F,s,sr,q,k⟩=>⟨S,M,ρ,_,s,sr,q,λv H1 ⟨d,M1,ρ1,s1,g1,r1,q1⟩=>k.nx σ H1 ⟨S,M1,ρ1,s1,g1,sr.grow g1,q1⟩⟩
def aU(te:DTE):DTS:=λE S M=>te S M E.rt
¶NU(he:DE X e te):DS X (.Return (some e) pos) (aU te) :=
 PS.imp (Mo he) λE σ H ⟨S,M,ρ,F,s,sr,q,k⟩=>⟨S,M,ρ,_,s,sr,q,λv H1 w=>k.rt v H1 w⟩
def dIf(c:DTT)(t u:DTS):DTS:=λE S M=>c S M λb M1=>if b=true then t E S M1 else u E S M1
¶ds_if{c:Expr}{a b:List Stmt}{tc:DTT}(hc:DT X c tc)(ha:DSs X a t)(hb:DSs X b u):DS X (.If c a b pos) (dIf tc t u):=by
 !PS.imp (ps_if hc ha hb) λE σ H ⟨S,M,ρ,F,s,sr,q,k⟩=>⟨S,M,ρ,_,s,sr,q,λc H1 ⟨M1,ρ1,s1,g1,q1⟩=>?_⟩
 cases c with
 | true=>~bb ⟨S,M1,ρ1,F,s1,sr.grow g1,(show t F S M1 from q1),k.trans g1⟩
 | false=>~bH ⟨S,M1,ρ1,F,s1,sr.grow g1,(show u F S M1 from q1),k.trans g1⟩
def db(te:DTE)(i:Nat):DTS:=λE S M=>te S M λd M1=>E.nx (S.set i (some d)) M1
¶NT{i:Nat}{x:Str}{pos':Pos}(hN:X.N.Nodup)(he:DE X e te)(hi:X.N[i]?=some x:=by rfl)(hx:Loc X.env.scope x:=by first | ~Or.inl rfl | ~Or.inr rfl)(hs:swapsWith e (some (.Name x pos')) pos.line X.env=pure false:=by rfl)
  (hf:X.fn x=true\/X.env.scope.names.lookup x=some .local:=by first | ~.inl rfl | ~.inr rfl | assumption):DS X (.Assign [.Name x pos'] e pos) (db te i) :=
 PS.imp (Mn hN hi hx he hs hf) λE σ H ⟨S,M,ρ,F,s,sr,q,k⟩=>⟨S,M,ρ,_,s,sr,q,λv H1 ⟨d,M1,ρ1,s1,g1,r1,q1⟩=>k.nx _ H1 ⟨_,M1,ρ1,s1,g1,(sr.grow g1).set i r1,q1⟩⟩
def aH(i:Nat):DTG:=λd S M Q=>Q (S.set i (some d)) M
¶yD{i:Nat}{x:Str}(hN:X.N.Nodup)(hi:X.N[i]?=some x:=by rfl)(hx:Loc X.env.scope x:=by first | ~Or.inl rfl | ~Or.inr rfl)(hf:X.fn x=true\/X.env.scope.names.lookup x=some .local:=by first | ~.inl rfl | ~.inr rfl | assumption):DG X (.Name x pos) (aH i) :=
 λpins s σ H v u R I r ⟨d,S,M,ρ,Q,sm,sr,rd,q,k⟩=>JI hN hi hx hf pins s σ H v u R I r (k _ H ⟨_,M,ρ,sm,.refl,sr.set i rd,q⟩)
end
end L2
namespace L2
open PySem PySem.Spec PyProof.Rows DL
¶AB{P:Program}{w:World}{K:AA5}{tg:Expr}(it:Addr)(n:Nat)(PV:Nat->Value->Prop)(PX:Nat->V->Prop)(Sx:Nat->Heap->Prop)
  (W:∀A':Around,A'.handled=none->Walks P w A' it [it] [it] n PV Sx) (hrel:∀i v,PV i v->∃x,bi x v/\PX i x)
  (hobj:∀i h,Sx i h->∃(o:Obj) (nm:String) (vs:Array Value),h.get? it=some o/\o.cls=.type nm/\o.data=.fields vs/\["enumerate","zip","dict_itemiterator","dict_reverseitemiterator","odict_iterator","itertools.zip_longest","itertools.pairwise"].contains nm=false)
  (hframe:∀(i:Nat) (h h':Heap),Sx i h->(∀o,h.get? it=some o->h'.get? it=some o)->Sx i h')
  (hself:∀(A:Around) (i:Nat) (s:Shared) (Q:Value->Shared->Prop) (E:Value->Shared->Prop),Sx i s.heap->Q (.ref it) s->wpAny (model P w) A (pyIter (.ref it)) Q E s) :
  Turn P w K tg ⟨λi _=>i<n,λi H x H'=>H'=H/\PX i x,λi _=>i=n⟩ [it] it Sx where
 mem:=by simp
 obj:=λi h st b hb=>by
  have e:b=it:=by simpa using hb
  subst e
  #⟨o,nm,vs,e,_,d,_⟩:=hobj i h st
  ~⟨o,e,λv z=>by rw[d]at z;cases z⟩
 keep:=λi h h' st k=>hframe i h h' st λo e=>k it (by simp) o e
 item:=by
  intro X hP hw hK hc i pins s σ H E I hf st hg
  subst hP hw hK
  #⟨f0,f1,f2,f3,f4,f5⟩:=hf it (by simp)
  !(W X.A (I.ok.hd hc)).item i s _ _ hg st λv h' tk hv st' kk=>?_
  #⟨x,rx,px⟩:=hrel i v hv
  have I1:Inv X pins σ H { s with heap:=h',toks:=tk }:=I.turned (λb o hb e=>kk b o (by simpa using hb) e) f0 f1 f3 f4 f5
  #⟨o,nm,vs,e,c,d,hn⟩:=hobj _ _ st'
  ~⟨v,rfl,Ho (s:={ s with heap:=h',toks:=tk }) e c d hn ⟨x,H,I1,rx,⟨rfl,px⟩,st',λb hb=>(hf b hb).1⟩⟩
 done:=by
  intro X hP hw hK hc i pins s σ H E I hf st hg
  subst hP hw hK
  #⟨f0,f1,f2,f3,f4,f5⟩:=hf it (by simp)
  have hi:i=n:=hg
  subst hi
  ~(W X.A (I.ok.hd hc)).done s _ _ st λh' tk kk=>⟨rfl,I.turned (λb o hb e=>kk b o (by simpa using hb) e) f0 f1 f3 f4 f5⟩
 self:=hself
def signs(x:Str):List D:=x.cps.toList.map λc=>.str ⟨#[c]⟩
structure Src where
 items:List D
 ok:Mem->Prop
abbrev DTI:=SD->Mem->(Src->Mem->Prop)->Prop
structure ItD(K:AA5)(src:Src)(ρ0:List Addr)(H0:Hp)(J:It):Prop where
 go:∀(i:Nat) ρ M H,Sim K ρ M H->Grow K ρ0 H0 ρ H->src.ok M->i<src.items.length->J.go i H
 yld:∀(i:Nat) ρ M H x H',Sim K ρ M H->Grow K ρ0 H0 ρ H->src.ok M->i<src.items.length->J.yld i H x H'->∃d ρ',src.items[i]?=some d/\Sim K ρ' M H'/\Grow K ρ H ρ' H'/\Rep K ρ' H' d x
 stop:∀(ρ:List Addr) M H,Sim K ρ M H->Grow K ρ0 H0 ρ H->src.ok M->J.stop src.items.length H
def IQ(K:AA5)(ρ:List Addr)(H:Hp)(Q:Src->Mem->Prop):It->Hp->Prop:=λJ H'=>∃src M' ρ',Sim K ρ' M' H'/\Grow K ρ H ρ' H'/\ItD K src ρ' H' J/\Q src M'
def lowI(K:AA5)(di:DTI):TI:=λσ H R=>∃S M ρ Q,Sim K ρ M H/\SRep K ρ H S σ/\di S M Q/\∀J H',IQ K ρ H Q J H'->R J H'
def DI(X:Cx)(tg iter:Expr)(di:DTI):Prop:=PI X tg iter (lowI X.K di)
¶ItD.tup{K:AA5}{ρ:List Addr}{H:Hp}{a:Addr}{vs:List V}{ds:List D}(h:SqT K H a vs)(r:Reps K ρ H ds vs)(uniq:∀ys,SqT K H a ys->ys=vs):ItD K ⟨ds,λ_=>True⟩ ρ H (Itt K a) where
 go:=λi ρ' M H' s g _ hi=>by
  have hl:i<vs.length:=by rw[←r.length];~hi
  ~⟨vs,vs[i],g.tup a vs h,AA7 hl⟩
 yld:=λi ρ' M H' x H2 s g _ hi y=>by
  #⟨rfl,y⟩:=y
  #⟨d,hd,rd⟩:=(r.grow g).getV (y vs (g.tup a vs h))
  ~⟨d,ρ',hd,s,.refl,rd⟩
 stop:=λρ' M H' s g _=>⟨vs,g.tup a vs h,by rw[←r.length];~AAC _⟩
¶ItD.lst{K:AA5}{ρ:List Addr}{H:Hp}{n:Nat}{a:Addr}{ds:List D}(e:ρ[n]?=some a):ItD K ⟨ds,λM=>aA M n ds⟩ ρ H (Itl K a) where
 go:=λi ρ' M H' s g ok hi=>by
  #⟨vs,h,r⟩:=aA.seq s ok (bE g.pre e)
  have hl:i<vs.length:=by rw[←r.length];~hi
  ~⟨vs,vs[i],h,AA7 hl⟩
 yld:=λi ρ' M H' x H2 s g ok hi y=>by
  #⟨rfl,y⟩:=y
  #⟨vs,h,r⟩:=aA.seq s ok (bE g.pre e)
  #⟨d,hd,rd⟩:=r.getV (y vs h)
  ~⟨d,ρ',hd,s,.refl,rd⟩
 stop:=λρ' M H' s g ok=>by
  #⟨vs,h,r⟩:=aA.seq s ok (bE g.pre e)
  ~⟨vs,h,by rw[←r.length];~AAC _⟩
¶ItD.plain{K:AA5}{ρ:List Addr}{H:Hp}{ds:List D}{J:It}(hg:∀i H,i<ds.length->J.go i H)(hy:∀i H x H',i<ds.length->J.yld i H x H'->H'=H/\∃d,ds[i]?=some d/\cV d=some x)(hs:∀H,J.stop ds.length H):ItD K ⟨ds,λ_=>True⟩ ρ H J where
 go:=λi ρ' M H' s g _ hi=>hg i H' hi
 yld:=λi ρ' M H' x H2 s g _ hi y=>by
  #⟨rfl,d,hd,hv⟩:=hy i _ x H2 hi y
  ~⟨d,ρ',hd,s,.refl,Fi hv⟩
 stop:=λρ' M H' s g _=>hs H'
section
variable{X:Cx}{tg:Expr}
def cN(te:DTE):DTI:=λS M R=>te S M λd M1=>match d with
 | .tup ds=>ds.length<=sizeLine->R ⟨ds,λ_=>True⟩ M1
 | .str x=>R ⟨signs x,λ_=>True⟩ M1
 | .ref n=>∃xs,aA M1 n xs/\(xs.length<=sizeLine->R ⟨xs,λM=>aA M n xs⟩ M1)
 | _=>False
¶Ob{l:Expr}{tl:DTE}(hl:DE X l tl):DI X tg l (cN tl):=by
 intro pins s σ H R I h
 #⟨S,M,ρ,Q,sm,sr,q,k⟩:=h
 !thn (hl pins s σ H _ I ⟨S,M,ρ,_,sm,sr,q,λv H' w=>w⟩) λu s1 ⟨v,H1,I1,rv,d,M1,ρ1,sm1,g1,r1,q1⟩=>?_
 cases r1 with
 | non=>~q1.elim
 | bl b=>~q1.elim
 | int i=>~q1.elim
 | ty n=>~q1.elim
 | @tup a vs ds hq r =>
  cases rv
  #⟨its,rr,p,hz⟩:=I1.tuple hq
  !wpAny_pyIter_tuple (show s1.heap.IsTuple a its.toArray from p) ?_
  !⟨s1.heap.objs.size,[s1.heap.objs.size],_,_,H1,rfl,I1.kept (t':=s1.toks) λb o e=>AA4 _ e,AC a _,⟨_,AAE _ rfl,rfl,rfl⟩,λb hb=>?_,k _ H1 ⟨⟨ds,λ_=>True⟩,M1,ρ1,sm1,g1,ItD.tup hq r λys hy=>I1.tuple_inj hy hq,?_⟩⟩
  ·have e:b=s1.heap.objs.size:=by simpa using hb
   subst e
   ~I1.fpOk (AAC _) (I1.hok.fresh (AAC _))
  ·~(show ds.length<=sizeLine->Q ⟨ds,λ_=>True⟩ M1 from q1) (by rw[r.length];~hz)
 | @ref n a hn =>
  cases rv
  #⟨xs,hL,q2⟩:=(show ∃xs,aA M1 n xs/\(xs.length<=sizeLine->Q ⟨xs,λM=>aA M n xs⟩ M1)from q1)
  #⟨vs,hq,r⟩:=aA.seq sm1 hL hn
  #⟨its,rr,p,hz⟩:=I1.list hq
  !ADo p.isList ?_
  !⟨s1.heap.objs.size,[s1.heap.objs.size],_,_,H1,rfl,I1.kept (t':=s1.toks) λb o e=>AA4 _ e,BW a _,⟨_,AAE _ rfl,rfl,rfl⟩,λb hb=>?_,k _ H1 ⟨⟨xs,λM=>aA M n xs⟩,M1,ρ1,sm1,g1,ItD.lst hn,q2 (by rw[r.length];~hz)⟩⟩
  have e:b=s1.heap.objs.size:=by simpa using hb
  subst e
  ~I1.fpOk (AAC _) (I1.hok.fresh (AAC _))
 | str x =>
  #⟨t,rfl⟩:=rv
  have fin:∀(nm:String) (ob:Obj),(ob.cls=.type nm/\ob.data=.fields #[.str x t,.int 0 0]) ->
    (∀A':Around,A'.handled=none->Walks X.prog X.w A' s1.heap.objs.size [s1.heap.objs.size] [s1.heap.objs.size] x.cps.size (SignAt x) (λi h=>h.IsStrIter s1.heap.objs.size nm x t i)) ->
    (∀(A:Around) (i:Nat) (s:Shared) (Q:Value->Shared->Prop) (E:Value->Shared->Prop),s.heap.IsStrIter s1.heap.objs.size nm x t i->Q (.ref s1.heap.objs.size) s->wpAny (model X.prog X.w) A (pyIter (.ref s1.heap.objs.size)) Q E s) ->
    ["enumerate","zip","dict_itemiterator","dict_reverseitemiterator","odict_iterator","itertools.zip_longest","itertools.pairwise"].contains nm=false->(s1.heap.push ob).IsStrIter s1.heap.objs.size nm x t 0 ->
    PIE X pins σ tg R (.ref s1.heap.objs.size) { s1 with heap:=s1.heap.push ob }:=λnm ob hob W hself hnm st=>by
   !⟨s1.heap.objs.size,[s1.heap.objs.size],_,_,H1,rfl,I1.kept (t':=s1.toks) λb o e=>AA4 _ e,
    AB (PX:=λi v=>∃c,x.cps[i]?=some c/\v=.str ⟨#[c]⟩) _ _ _ _ W (λi v ⟨c,u,e1,e2⟩=>⟨.str ⟨#[c]⟩,⟨u,e2⟩,c,e1,rfl⟩) (λi h st=>?_) (λi h h' st k=>?_) hself,st,λb hb=>?_,k _ H1 ⟨⟨signs x,λ_=>True⟩,M1,ρ1,sm1,g1,ItD.plain ?_ ?_ ?_,q1⟩⟩
   ·#⟨o,e,c,d⟩:=st
    ~⟨o,nm,_,e,c,d,hnm⟩
   ·#⟨o,e,r⟩:=st
    ~⟨o,k o e,r⟩
   ·have e:b=s1.heap.objs.size:=by simpa using hb
    subst e
    ~I1.fpOk (AAC _) (I1.hok.fresh (AAC _))
   ·intro i _ hi
    simpa [signs]using hi
   ·rintro i H x' H' _ ⟨rfl,c,e,rfl⟩
    ~⟨rfl,.str ⟨#[c]⟩,by simp[signs,e],rfl⟩
   ·intro H
    simp[signs]
  cases ha:x.cps.all (· < 128)
  ·~wpAny_pyIter_wide ha (fin _ _ ⟨rfl,rfl⟩ (λA' hA=>Walks.strWide hA _ x t) (λ_ _ _ _ _ st h=>wpAny_pyIter_striter_wide st h) (by decide) ⟨_,AAE _ rfl,rfl,rfl⟩)
  ·~wpAny_pyIter_ascii ha (fin _ _ ⟨rfl,rfl⟩ (λA' hA=>Walks.strAscii hA _ x t) (λ_ _ _ _ _ st h=>wpAny_pyIter_striter_ascii st h) (by decide) ⟨_,AAE _ rfl,rfl,rfl⟩)
def tj(lo:Int)(n:Nat):List D:=(AAe n).map λi=>.int (lo+((i:Nat):Int))
¶ItD.rng{K:AA5}{ρ:List Addr}{H:Hp}(lo:Int)(n:Nat):ItD K ⟨tj lo n,λ_=>True⟩ ρ H (Itr lo n):=by
 !ItD.plain (λi _ hi=>?_) (λi H x H' hi y=>?_) λH=>?_
 ·show i<n
  simpa [tj]using hi
 ·#⟨e,rfl⟩:=y
  have hi':i<n:=by simpa [tj]using hi
  ~⟨e,.int (lo+i),by simp[tj,hi'],rfl⟩
 ·show n<=(tj lo n).length
  simp[tj]
def eV(ta:DTA):DTI:=λS M R=>ta S M λds M1=>match ds with
 | [.int j]=>(-(2 ^ 62)<=j/\j<2 ^ 62)/\R ⟨tj 0 j.toNat,λ_=>True⟩ M1
 | _=>False
def lg(ta:DTA):DTI:=λS M R=>ta S M λds M1=>match ds with
 | [.int i,.int j]=>(-(2 ^ 62)<=i/\i<2 ^ 62/\-(2 ^ 62)<=j/\j<2 ^ 62)/\R ⟨tj i (j-i).toNat,λ_=>True⟩ M1
 | _=>False
¶PI.imp{iter:Expr}{t t':TI}(h:PI X tg iter t')(i:∀σ H R,t σ H R->t' σ H R):PI X tg iter t:=λpins s σ H R I q=>h pins s σ H R I (i σ H R q)
¶EQ{a:Expr}{ta:DTA}{p pos:Pos}(hm:X.mg "range" = none)(ha:DA X [a] ta)(hg:Gl X "range":=by rfl)(hs:starEach [a] X.env=[(false,eval a X.env)]:=by rfl):DI X tg (.Call (.Name "range" p) [a] [] pos) (eV ta):=by
 !PI.imp (Dl hg hm ha hs) λσ H R ⟨S,M,ρ,Q,s,sr,q,k⟩=>⟨S,M,ρ,_,s,sr,q,λvs H1 ⟨ds,M1,ρ1,s1,g1,r1,q1⟩=>?_⟩
 try dsimp only at q1
 split at q1
 ·rename_i j
  #⟨⟨h1,h2⟩,q2⟩:=q1
  first | have hzz:=Reps.inv_cons r1 | have hzz:=aL.inv_cons r1
  clear r1
  #⟨_,_,rfl,r,t⟩:=hzz
  cases r
  cases t
  ~⟨j,rfl,h1,h2,k _ H1 ⟨_,M1,ρ1,s1,g1,ItD.rng 0 j.toNat,q2⟩⟩
 ·~q1.elim
¶EO{a b:Expr}{ta:DTA}{p pos:Pos}(hm:X.mg "range" = none)(ha:DA X [a,b] ta)(hg:Gl X "range":=by rfl)(hs:starEach [a,b] X.env=[(false,eval a X.env),(false,eval b X.env)]:=by rfl)(hs2:starEach [b] X.env=[(false,eval b X.env)]:=by rfl) :
  DI X tg (.Call (.Name "range" p) [a,b] [] pos) (lg ta):=by
 !PI.imp (Dk hg hm ha hs hs2) λσ H R ⟨S,M,ρ,Q,s,sr,q,k⟩=>⟨S,M,ρ,_,s,sr,q,λvs H1 ⟨ds,M1,ρ1,s1,g1,r1,q1⟩=>?_⟩
 try dsimp only at q1
 split at q1
 ·rename_i i j
  #⟨h,q2⟩:=q1
  first | have hzz:=Reps.inv_cons r1 | have hzz:=aL.inv_cons r1
  clear r1
  #⟨_,_,rfl,r,t⟩:=hzz
  cases r
  cases t with
  | cons r t =>
   cases r
   cases t
   ~⟨i,j,rfl,h,k _ H1 ⟨_,M1,ρ1,s1,g1,ItD.rng i (j-i).toNat,q2⟩⟩
 ·~q1.elim
end
end L2
namespace L2
open PySem PySem.Spec PyProof.Rows DL
mutual
inductive Bel(k:Nat):D->Prop
 | non:Bel k .non
 | bl (b:Bool):Bel k (.bl b)
 | int (i:Int):Bel k (.int i)
 | str (x:Str):Bel k (.str x)
 | ty (n:String):Bel k (.ty n)
 | tup {ds:List D} (h:Bels k ds):Bel k (.tup ds)
 | ref {n:Nat} (h:n<k):Bel k (.ref n)
inductive Bels(k:Nat):List D->Prop
 | nil:Bels k []
 | cons {d:D}{ds:List D} (h:Bel k d) (t:Bels k ds):Bels k (d::ds)
end
def MO.items:MO->List D
 | .lst xs=>xs
 | .fz xs=>xs
 | .kl xs=>xs
 | .dct kvs=>kvs.map (·.2)
 | .dkt kvs=>kvs.map (·.2)
mutual
¶Rep.bel{K:AA5}{ρ:List Addr}{H:Hp}:∀{d:D}{v:V},Rep K ρ H d v->Bel ρ.length d
 | _,_,.non=>.non
 | _,_,.bl b=>.bl b
 | _,_,.int i=>.int i
 | _,_,.str x=>.str x
 | _,_,.ty n=>.ty n
 | _,_,.tup h r=>.tup (Reps.bel r)
 | _,_,.ref h=>.ref (AA2.mp h).1
¶Reps.bel{K:AA5}{ρ:List Addr}{H:Hp}:∀{ds:List D}{vs:List V},Reps K ρ H ds vs->Bels ρ.length ds
 | _,_,.nil=>.nil
 | _,_,.cons h t=>.cons (Rep.bel h) (Reps.bel t)
end
mutual
¶Rep.cut{K:AA5}{ρ:List Addr}{H:Hp}{k:Nat}:∀{d:D}{v:V},Rep K ρ H d v->Bel k d->Rep K (ρ.take k) H d v
 | _,_,.non,_=>.non
 | _,_,.bl b,_=>.bl b
 | _,_,.int i,_=>.int i
 | _,_,.str x,_=>.str x
 | _,_,.ty n,_=>.ty n
 | _,_,.tup h r,.tup b=>.tup h (Reps.cut r b)
 | _,_,.ref h,.ref b=>.ref (by rw[ABk b];~h)
¶Reps.cut{K:AA5}{ρ:List Addr}{H:Hp}{k:Nat}:∀{ds:List D}{vs:List V},Reps K ρ H ds vs->Bels k ds->Reps K (ρ.take k) H ds vs
 | _,_,.nil,_=>.nil
 | _,_,.cons h t,.cons b c=>.cons (Rep.cut h b) (Reps.cut t c)
end
mutual
¶Bel.mono{j k:Nat}(h:j<=k):∀{d:D},Bel j d->Bel k d
 | _,.non=>.non
 | _,.bl b=>.bl b
 | _,.int i=>.int i
 | _,.str x=>.str x
 | _,.ty n=>.ty n
 | _,.tup b=>.tup (Bels.mono h b)
 | _,.ref b=>.ref (AAd b h)
¶Bels.mono{j k:Nat}(h:j<=k):∀{ds:List D},Bels j ds->Bels k ds
 | _,.nil=>.nil
 | _,.cons b c=>.cons (Bel.mono h b) (Bels.mono h c)
end
¶Bels.of{k:Nat}:∀{xs:List D},(∀d∈xs,Bel k d)->Bels k xs
 | [],_=>.nil
 | d::ds,h=>.cons (h d AAI) (Bels.of λe he=>h e (AA9 _ he))
section
variable{K:AA5}{ρ ρ':List Addr}{H H':Hp}{M M':Mem}
¶GY{k:Nat}:∀(n:Nat) (d:D),eU n d=true->Bel k d:=by
 intro n
 induction n with
 | zero =>
  intro d h
  cases d with
  | str x=>~.str x
  | int x=>~.int x
  | _=>cases h
 | succ n ih =>
  intro d h
  cases d with
  | str x=>~.str x
  | int x=>~.int x
  | tup ds=>~.tup (Bels.of λx hx=>ih x (AAK.mp (show ds.all (eU n)=true from h) x hx))
  | _=>cases h
¶Km{kvs:List (D×D)}{xs:List (D×Addr×Value)}(r:Paired (BP K ρ H) kvs xs):Bels ρ.length (kvs.map (·.2)):=by
 induction r with
 | nil=>~.nil
 | cons q _ ih =>
  #⟨_,_,_,v,q4,_⟩:=q
  ~.cons q4.bel ih
¶Kl{k:Nat}{kvs:List (D×D)}{xs:List (D×Addr×Value)}(r:Paired (BP K ρ H) kvs xs)(b:Bels k (kvs.map (·.2))):Paired (BP K (ρ.take k) H) kvs xs:=by
 induction r with
 | nil=>~.nil
 | cons q _ ih =>
  #⟨q1,q2,q3,v,q4,q5⟩:=q
  rw[AAL]at b
  cases b with
  | cons b1 b2=>~.cons ⟨q1,q2,q3.cut (GY _ _ q2),v,q4.cut b1,q5⟩ (ih b2)
¶BO.bels{a:Addr}{mo:MO}(h:BO K ρ H a mo):Bels ρ.length mo.items:=by
 cases mo with
 | lst ds=>#⟨vs,_,r⟩:=h;~r.bel
 | fz ds=>#⟨o,vs,_,r⟩:=h;~r.bel
 | kl ds=>#⟨vs,_,r⟩:=h;~r.bel
 | dct kvs=>#⟨vs,_,r⟩:=h;~r.bel
 | dkt kvs=>#⟨_,_,_,xs,_,r⟩:=h;~Km r
¶BO.cut{a:Addr}{mo:MO}{k:Nat}(h:BO K ρ H a mo)(b:Bels k mo.items):BO K (ρ.take k) H a mo:=by
 cases mo with
 | lst ds=>#⟨vs,e,r⟩:=h;~⟨vs,e,r.cut b⟩
 | fz ds=>#⟨o,vs,e,r⟩:=h;~⟨o,vs,e,r.cut b⟩
 | kl ds=>#⟨vs,e,r⟩:=h;~⟨vs,e,r.cut b⟩
 | dct kvs=>#⟨vs,e,r⟩:=h;~⟨vs,e,r.cut b⟩
 | dkt kvs=>#⟨h1,h2,h3,xs,e,r⟩:=h;~⟨h1,h2,h3,xs,e,Kl r b⟩
¶Sim.bels(S:Sim K ρ M H){n:Nat}{mo:MO}(e:M[n]?=some mo):Bels M.length mo.items:=by
 #⟨a,_,h⟩:=S.get e
 rw[←S.len]
 ~h.bels
¶Sim.cut(S:Sim K ρ M H)(k:Nat)(hb:∀(n:Nat) (mo:MO),n<k->M[n]?=some mo->Bels k mo.items):Sim K (ρ.take k) (M.take k) H:=by
 have lt:∀{n:Nat}{a:Addr},(ρ.take k)[n]?=some a->n<k/\ρ[n]?=some a:=λ{n a} e=>by
  have h1:=(AA2.mp e).1
  rw[AAh]at h1
  have h2:n<k:=¤
  rw[ABk h2]at e
  ~⟨h2,e⟩
 !⟨λn m a hne e1 e2=>?_,by rw[AAh,AAh,S.len],λn a mo e1 e2=>?_⟩
 ·#⟨l1,f1⟩:=lt e1
  #⟨l2,f2⟩:=lt e2
  rw[ABk l1,ABk l2]
  ~S.nd n m a hne f1 f2
 ·#⟨l1,f1⟩:=lt e1
  rw[ABk l1]at e2
  ~(S.obj n a mo f1 e2).cut (hb n mo l1 e2)
¶SRep.cut{S S':SD}{σ:St}{k:Nat}(r:SRep K ρ H S σ)(hl:S'.length=S.length)(h:∀(i:Nat) d,S'[i]?=some (some d)->S[i]?=some (some d)/\Bel k d):SRep K (ρ.take k) H S' σ :=
 ⟨hl.trans r.len,λi d e=>let ⟨e',b⟩:=h i d e;let ⟨v,hv,rv⟩:=r.get i d e';⟨v,hv,rv.cut b⟩⟩
¶Grow.cut{k:Nat}(g:Grow K ρ H ρ' H')(h:ρ.length<=k):Grow K ρ H (ρ'.take k) H':=by
 !⟨?_,g.tup⟩
 #⟨t,rfl⟩:=g.pre
 rw[List.take_append]
 rw[ACH h]
 ~ABK _ _
end
inductive FgtS(k:Nat):SD->SD->Prop
 | nil:FgtS k [] []
 | keep {d:D}{S S':SD} (h:Bel k d) (t:FgtS k S S'):FgtS k (some d::S) (some d::S')
 | drop {o:Option D}{S S':SD} (t:FgtS k S S'):FgtS k (o::S) (none::S')
¶FgtS.len{k:Nat}{S S':SD}(h:FgtS k S S'):S'.length=S.length:=by
 induction h with
 | nil=>rfl
 | keep _ _ ih=>rw[AAA,AAA,ih]
 | drop _ ih=>rw[AAA,AAA,ih]
¶FgtS.get{k:Nat}{S S':SD}(h:FgtS k S S'):∀(i:Nat) d,S'[i]?=some (some d)->S[i]?=some (some d)/\Bel k d:=by
 induction h with
 | nil=>intro i d e;simp at e
 | keep b _ ih =>
  intro i d e
  cases i with
  | zero=>simp at e;subst e;~⟨rfl,b⟩
  | succ i=>~ih i d (by simpa using e)
 | drop _ ih =>
  intro i d e
  cases i with
  | zero=>simp at e
  | succ i=>~ih i d (by simpa using e)
def Fgt(M0:Mem)(P:SD->Mem->Prop)(S:SD)(M:Mem):Prop :=
 P S M\/(∃k S',M0.length<=k/\FgtS k S S'/\(∀(n:Nat) mo,n<k->M[n]?=some mo->Bels k mo.items)/\P S' (M.take k))\/∃S',FgtS M0.length S S'/\M0 <+: M/\P S' M0
¶FY{α:Type}{l l':List α}(h:l <+: l'):l'.take l.length=l:=by
 #⟨t,rfl⟩:=h
 rw[List.take_append_of_le_length (AAC _),AC3]
¶SQ.fgt{K:AA5}{ρ:List Addr}{H:Hp}{M0:Mem}{P:SD->Mem->Prop}{σ':St}{H':Hp}(s0:Sim K ρ M0 H)(h:SQ K ρ H (Fgt M0 P) σ' H'):SQ K ρ H P σ' H':=by
 have hk:ρ.length<=M0.length:=by rw[s0.len];~AAC _
 #⟨S',M',ρ',s',g',sr',q'⟩:=h
 rcases q' with q' | ⟨k,S2,h1,h2,h4,q⟩|⟨S2,h2,hp,q⟩
 ·~⟨S',M',ρ',s',g',sr',q'⟩
 ·~⟨S2,M'.take k,ρ'.take k,s'.cut k h4,g'.cut (ABN hk h1),sr'.cut h2.len h2.get,q⟩
 ·have sc:=s'.cut M0.length λn mo hn e=>by
   #⟨t,rfl⟩:=hp
   rw[AAJ hn]at e
   ~s0.bels e
  rw[FY hp]at sc
  ~⟨S2,M0,ρ'.take M0.length,sc,g'.cut hk,sr'.cut h2.len h2.get,q⟩
def pW(ok:Mem->Prop)(g:DTG)(tb:DTS)(E:DEnds)(k0:Mem):List D->SD->Mem->Prop
 | [],S,M=>ok M/\E.nx S M
 | x::xs,S,M=>ok M/\g x S M λS2 M2=>tb ⟨Fgt k0 (pW ok g tb E k0 xs),E.rt,E.nx,Fgt k0 (pW ok g tb E k0 xs)⟩ S2 M2
def yP(di:DTI)(g:DTG)(tb:DTS):DTS:=λE S M=>di S M λsrc M1=>pW src.ok g tb E M1 src.items S M1
¶wa{α:Type}{l:List α}{i:Nat}{x:α}(h:l[i]?=some x):l.drop i=x::l.drop (i+1):=by
 #⟨hi,e⟩:=AA2.mp h
 rw[List.drop_eq_getElem_cons hi,e]
¶GJ{K:AA5}{di:DTI}{g:DTG}{tb:DTS}(E:Ends)(σ:St)(H:Hp)(h:lowS K (yP di g tb) E σ H):tFor (lowI K di) (lowG K g) (lowS K tb) E σ H:=by
 #⟨S,M,ρ,F,s,sr,q,k⟩:=h
 !⟨S,M,ρ,_,s,sr,q,λJ H1 ⟨src,M1,ρ1,s1,g1,it,q1⟩=>?_⟩
 have k1:=k.trans g1
 !⟨λi m τ H2=>∃S2 M2 ρ2,Sim K ρ2 M2 H2/\Grow K ρ1 H1 ρ2 H2/\SRep K ρ2 H2 S2 τ/\i<=src.items.length/\m=src.items.length-i/\pW src.ok g tb F M1 (src.items.drop i) S2 M2,
  ⟨_,S,M1,ρ1,s1,.refl,sr.grow g1,AAT _,rfl,q1⟩,?_⟩
 rintro i m τ H2 ⟨S2,M2,ρ2,s2,g2,sr2,hi,rfl,q2⟩
 by_cases hlt:i<src.items.length
 ·have hx:src.items[i]?=some src.items[i]:=AA7 hlt
  rw[wa hx]at q2
  #⟨ok,q3⟩:=(show src.ok M2/\g src.items[i] S2 M2 _ from q2)
  !.inr ⟨it.go i ρ2 M2 H2 s2 g2 ok hlt,_,λτ' H' z=>z,λx H3 y=>?_⟩
  #⟨d,ρ3,hd,s3,g3,r3⟩:=it.yld i ρ2 M2 H2 x H3 s2 g2 ok hlt y
  have ed:d=src.items[i]:=AAR (hd.symm.trans hx)
  subst ed
  !⟨_,S2,M2,ρ3,_,s3,sr2.grow g3,r3,q3,λτ4 H4 ⟨S4,M4,ρ4,s4,g4,sr4,q4⟩=>?_⟩
  have g14:=(g2.trans g3).trans g4
  !⟨S4,M4,ρ4,_,s4,sr4,q4,?_⟩
  have again:∀τ5 H5,SQ K ρ4 H4 (Fgt M1 (pW src.ok g tb F M1 (src.items.drop (i+1)))) τ5 H5 ->
    ∃m',m' < src.items.length-i/\∃S2 M2 ρ2,Sim K ρ2 M2 H5/\Grow K ρ1 H1 ρ2 H5/\SRep K ρ2 H5 S2 τ5/\i+1<=src.items.length/\m'=src.items.length-(i+1)/\pW src.ok g tb F M1 (src.items.drop (i+1)) S2 M2:=λτ5 H5 z=>by
   #⟨S5,M5,ρ5,s5,g5,sr5,q5⟩:=SQ.fgt (ρ:=ρ1) (H:=H1) s1 (SQ.trans g14 z)
   ~⟨_,¤,S5,M5,ρ5,s5,g5,sr5,hlt,rfl,q5⟩
  ~⟨again,λv H5 z=>k1.rt v H5 (VQ.trans g14 z),λτ5 H5 z=>k1.nx τ5 H5 (SQ.trans g14 z),again⟩
 ·have e:i=src.items.length:=¤
  subst e
  rw[List.drop_of_length_le (AAC _)]at q2
  #⟨ok,q3⟩:=(show src.ok M2/\F.nx S2 M2 from q2)
  ~.inl ⟨it.stop ρ2 M2 H2 s2 g2 ok,k1.nx τ H2 ⟨S2,M2,ρ2,s2,g2,sr2,q3⟩⟩
section
variable{X:Cx}
¶NX{tg iter:Expr}{body:List Stmt}{di:DTI}{g:DTG}{tb:DTS}{pos:Pos}(hi:DI X tg iter di)(hg:DG X tg g)(hb:DSs X body tb)(hp:PassesOwn (model X.prog X.w) X.A X.env X.xe:=by ~PassesOwn.never)(hc:X.calm=true:=by rfl)
  (hs:∀x,foldedSetIterable iter X.env x=pure x:=by intro _;rfl):DS X (.For tg iter body [] pos) (yP di g tb):=PS.imp (Mp hp hc hi hg hb hs) GJ
def LE(nt:Nat)(js:List Nat)(S:SD):SD:=ADv nt none++js.map λj=>(S[j]?).join
def oW(ok:Mem->Prop)(g:DTG)(tt:DTT)(te:DTE)(Q:DK):List D->List D->SD->Mem->Prop
 | [],acc,S,M=>ok M/\Q (.ref M.length) (M++[.lst acc])
 | x::xs,acc,S,M=>ok M/\g x S M λS2 M2=>tt S2 M2 λb M3=>if b=true then te S2 M3 λy M4=>acc.length<sizeLine/\oW ok g tt te Q xs (acc++[y]) S2 M4 else oW ok g tt te Q xs acc S2 M3
def dLC(nt:Nat)(js:List Nat)(di:DTI)(g:DTG)(tt:DTT)(te:DTE):DTE:=λS M Q=>di S M λsrc M1=>oW src.ok g tt te Q src.items [] (LE nt js S) M1
¶SRep.bst{K:AA5}{ρ:List Addr}{H:Hp}{S:SD}{σ:St}(r:SRep K ρ H S σ)(nt:Nat)(js:List Nat):SRep K ρ H (LE nt js S) (L2.bst nt js σ):=by
 !⟨by simp[LE,Fk],λi d e=>?_⟩
 unfold LE at e
 unfold L2.bst
 by_cases hi:i<nt
 ·rw[AAJ (by simpa using hi),ACi]at e
  simp[hi]at e
 ·rw[AAg (by simpa using AD4.mp hi),ACz,AAU]at e
  rw[AAg (by simpa using AD4.mp hi),ACz,AAU]
  cases q:js[i-nt]? with
  | none=>rw[q]at e;cases e
  | some j =>
   rw[q]at e
   have e':(S[j]?).join=some d:=by simpa using e
   cases q2:S[j]? with
   | none=>rw[q2]at e';cases e'
   | some o =>
    rw[q2]at e'
    have e2:o=some d:=e'
    subst e2
    #⟨v,hv,rv⟩:=r.get j d q2
    ~⟨v,by simp[hv],rv⟩
¶DX{K:AA5}{nt:Nat}{js:List Nat}{di:DTI}{g:DTG}{tt:DTT}{te:DTE}(σ:St)(H:Hp)(R:VK)(h:lowE K (dLC nt js di g tt te) σ H R):tLC nt js (lowI K di) (lowG K g) (lowT K tt) (lowE K te) σ H R:=by
 #⟨S,M,ρ,Q,s,sr,q,k⟩:=h
 !⟨S,M,ρ,_,s,sr,q,λJ H1 ⟨src,M1,ρ1,s1,g1,it,q1⟩=>?_⟩
 !⟨λi m vs τ H2=>∃S2 M2 ρ2 acc,Sim K ρ2 M2 H2/\Grow K ρ1 H1 ρ2 H2/\SRep K ρ2 H2 S2 τ/\Reps K ρ2 H2 acc vs/\i<=src.items.length/\m=src.items.length-i/\oW src.ok g tt te Q (src.items.drop i) acc S2 M2,
  ⟨_,_,M1,ρ1,[],s1,.refl,(sr.grow g1).bst nt js,.nil,AAT _,rfl,q1⟩,?_⟩
 rintro i m vs τ H2 ⟨S2,M2,ρ2,acc,s2,g2,sr2,ra,hi,rfl,q2⟩
 by_cases hlt:i<src.items.length
 ·have hx:src.items[i]?=some src.items[i]:=AA7 hlt
  rw[wa hx]at q2
  #⟨ok,q3⟩:=(show src.ok M2/\g src.items[i] S2 M2 _ from q2)
  !.inr ⟨it.go i ρ2 M2 H2 s2 g2 ok hlt,λx H3 y=>?_⟩
  #⟨d,ρ3,hd,s3,g3,r3⟩:=it.yld i ρ2 M2 H2 x H3 s2 g2 ok hlt y
  have ed:d=src.items[i]:=AAR (hd.symm.trans hx)
  subst ed
  !⟨_,S2,M2,ρ3,_,s3,sr2.grow g3,r3,q3,λτ4 H4 ⟨S4,M4,ρ4,s4,g4,sr4,q4⟩=>?_⟩
  !⟨S4,M4,ρ4,_,s4,sr4,q4,λb H5 ⟨M5,ρ5,s5,g5,q5⟩=>?_⟩
  have g15:=((g2.trans g3).trans g4).trans g5
  cases b with
  | false=>~bH ⟨_,¤,S4,M5,ρ5,acc,s5,g15,sr4.grow g5,ra.grow ((g3.trans g4).trans g5),hlt,rfl,(show oW src.ok g tt te Q (src.items.drop (i+1)) acc S4 M5 from q5)⟩
  | true =>
   !bb ⟨S4,M5,ρ5,_,s5,sr4.grow g5,(show te S4 M5 _ from q5),λv H6 ⟨y',M6,ρ6,s6,g6,r6,hl,q6⟩=>?_⟩
   have ra6:=ra.grow (((g3.trans g4).trans g5).trans g6)
   ~⟨by rw[←ra.length];~hl,_,¤,S4,M6,ρ6,acc++[y'],s6,g15.trans g6,sr4.grow (g5.trans g6),ra6.append (.cons r6 .nil),hlt,rfl,q6⟩
 ·have e:i=src.items.length:=¤
  subst e
  rw[List.drop_of_length_le (AAC _)]at q2
  #⟨ok,q3⟩:=(show src.ok M2/\Q (.ref M2.length) (M2++[.lst acc])from q2)
  ~.inl ⟨it.stop ρ2 M2 H2 s2 g2 ok,λp hp=>k _ _ (VQ.laidL s2 (g1.trans g2) ra hp q3)⟩
¶d_lc{elt tg iter:Expr}{ifs:List Expr}{scope:Scope}{pos:Pos}{N':List Str}{nt:Nat}{js:List Nat}{di:DTI}{g:DTG}{tt:DTT}{te:DTE}(B:BlkSc X N' nt js scope)(hi:DI X tg iter di)
  (hg:∀cl s0 H0 ex,DG (blk X N' scope cl s0 H0 ex) tg g) (ht:∀cl s0 H0 ex,PTs (blk X N' scope cl s0 H0 ex) ifs (lowT X.K tt)) (he:∀cl s0 H0 ex,DE (blk X N' scope cl s0 H0 ex) elt te) (hc:X.calm=true:=by rfl)
  (hs:∀x,foldedSetIterable iter X.env x=pure x:=by intro _;rfl):DE X (.ListComp elt [⟨tg,iter,ifs,0⟩] scope pos) (dLC nt js di g tt te):=PE.imp (pe_lc (g:=lowG X.K g) (tt:=lowT X.K tt) (te:=lowE X.K te) B hc hi (λcl s0 H0 ex=>hg cl s0 H0 ex) ht (λcl s0 H0 ex=>he cl s0 H0 ex) hs) DX
def oV:DTT:=λ_ M Q=>Q true M
¶KL:PTs X [] (lowT X.K oV):=λpins s σ H R I ⟨S,M,ρ,Q,sm,sr,q,k⟩=>Jz pins s σ H R I (k true H ⟨M,ρ,sm,.refl,q⟩)
¶KK{c:Expr}{t:DTT}(h:DT X c t):PTs X [c] (lowT X.K t):=Jy h
end
def Chg(M M1:Mem):Prop:=M1.length=M.length/\∀(i:Nat) (mo:MO),M1[i]?=some mo->M[i]?=some mo\/Bels M.length mo.items
¶Chg.refl{M:Mem}:Chg M M:=⟨rfl,λ_ _ h=>.inl h⟩
def aG(M:Mem)(R:DK):DK:=λd M'=>R d M'\/(∃M1,Chg M M1/\Bel M.length d/\M1 <+: M'/\R d M1)\/∃M1 n xs,Chg M M1/\d=.ref n/\M.length<=n/\M'[n]?=some (.lst xs)/\M1 <+: M'/\Bels M.length xs/\R (.ref M.length) (M1++[.lst xs])
¶eQ{α:Type}{l l':List α}(h:l <+: l'):l'.take l.length=l:=by
 #⟨t,rfl⟩:=h
 rw[List.take_append_of_le_length (AAC _),AC3]
¶VQ.endq{K:AA5}{ρ:List Addr}{M:Mem}{H:Hp}{R:DK}{v:V}{H':Hp}(s:Sim K ρ M H)(h:VQ K ρ H (aG M R) v H'):VQ K ρ H R v H':=by
 #⟨d,M',ρ',s',g',r',q'⟩:=h
 have hρ:ρ'.take M.length=ρ:=by rw[←s.len];~eQ g'.pre
 rcases q' with q | ⟨M1,c,b,pre,q⟩|⟨M1,n,xs,c,rfl,hnM,e,pre,b,q⟩
 ·~⟨d,M',ρ',s',g',r',q⟩
 ·have sc:=s'.cut M.length λn mo hn e=>by
   have e':M1[n]?=some mo:=by
    #⟨t,rfl⟩:=pre
    rw[AAJ (by rw[c.1];~hn)]at e
    ~e
   ~(c.2 n mo e').elim (λz=>s.bels z) id
  have tk:M'.take M.length=M1:=by rw[←c.1];~eQ pre
  rw[hρ,tk]at sc
  have rc:=r'.cut b
  rw[hρ]at rc
  ~⟨d,M1,ρ,sc,⟨ACc,g'.tup⟩,rc,q⟩
 ·have sc:=s'.cut M.length λn mo hn e=>by
   have e':M1[n]?=some mo:=by
    #⟨t,rfl⟩:=pre
    rw[AAJ (by rw[c.1];~hn)]at e
    ~e
   ~(c.2 n mo e').elim (λz=>s.bels z) id
  have tk:M'.take M.length=M1:=by rw[←c.1];~eQ pre
  rw[hρ,tk]at sc
  #⟨a,rfl,hn⟩:=Rep.inv_ref r'
  #⟨vs,hH,rr⟩:=s'.obj n a _ hn e
  have rc:=rr.cut b
  rw[hρ]at rc
  have g2:Grow K ρ H' (ρ++[a]) H':=⟨ABK _ _,λ_ _ h=>h⟩
  have old:∀(m:Nat),ρ[m]?=some a->isK M1[m]?:=λm em=>by
   have hm:m≠n:=λz=>by
    have:m<M.length:=by rw[←s.len];~(AA2.mp em).1
    &
   have q:=s'.nd m n a hm (bE g'.pre em) hn
   have hlt:m<M.length:=by rw[←s.len];~(AA2.mp em).1
   rcases q with⟨ds,z⟩|⟨ds,z⟩
   ·!⟨ds,?_⟩
    have hlt1:m<M1.length:=by rw[c.1];~hlt
    have:=bE pre (AA7 hlt1)
    rw[z]at this
    rw[AA7 hlt1]
    ~this.symm
   ·rw[e]at z;cases z
  !⟨.ref M.length,M1++[.lst xs],ρ++[a],⟨λn1 m1 a1 hne e1 e2=>?_,by rw[AA8,AA8,sc.len];rfl,λn1 a1 mo e1 e2=>?_⟩,⟨ABK _ _,g'.tup⟩,.ref (by have:=sc.last (p:=a);rw[c.1]at this;~this),q⟩
  ·rcases bu e1 with f1 | ⟨f1,w1⟩
   ·rcases bu e2 with f2 | ⟨f2,w2⟩
    ·~(sc.nd n1 m1 a1 hne f1 f2).elim (λz=>.inl z.more) λz=>.inr z.more
    ·subst w2
     ~.inl (old n1 f1).more
   ·rcases bu e2 with f2 | ⟨f2,w2⟩
    ·subst w1
     ~.inr (old m1 f2).more
    ·~absurd (f1.trans f2.symm) hne
  ·rcases bu e1 with f1 | ⟨f1,w1⟩
   ·have hn1:n1<M1.length:=by rw[←sc.len];~(AA2.mp f1).1
    rw[AAJ hn1]at e2
    ~(sc.obj n1 a1 mo f1 e2).grow g2 (.inl rfl)
   ·subst w1 f1
    rw[sc.len,AAg (AAC _),ABz]at e2
    simp at e2
    subst e2
    ~⟨vs,hH,rc.grow g2⟩
def cQ(N:List Str)(ds:List D):SD:=ds.map some++ADv (N.length-ds.length) none
¶SRep.start{K:AA5}{ρ:List Addr}{H:Hp}{ds:List D}{vs:List V}(r:Reps K ρ H ds vs)(N:List Str):SRep K ρ H (cQ N ds) (L2.start N vs):=by
 !⟨by simp[cQ,L2.start,r.length],λi d e=>?_⟩
 unfold cQ at e
 unfold L2.start
 by_cases hi:i<ds.length
 ·rw[AAJ (by simpa using hi),AAU]at e
  rw[AAJ (by simpa [←r.length]using hi),AAU]
  have e':ds[i]?=some d:=by
   rw[AA7 hi]at e ⊢
   simpa using e
  #⟨v,hv,rv⟩:=r.get e'
  ~⟨v,by rw[hv];rfl,rv⟩
 ·rw[AAg (by simpa using AD4.mp hi),ACi]at e
  split at e<;>cases e
¶d_fn{P:Program}{w:World}{K:AA5}{mg:Str->Option Value}{base:Heap}{x qual:Str}{st:Stmt}{f:Addr}{fd:FuncData}{N ps:List Str}{k:Nat}(Pr:DSp)(F:Fun K x qual st f fd)(Sc:FnScope N ps (ak st))
  (len:∀ds M R,Pr ds M R->ds.length=ps.length)
  (hbody:∀(cdv:Value) (A:Around) (outer:List Env) (s:Shared) (H:Hp) (E:XK),Room k (A.deeper (envOfC qual (ak st) s.heap.objs.size f cdv)) ->
   ∃t,DSs (BM CX0 P w K mg base N qual (ak st) f cdv A outer s H E).nox (cI st) t/\∀ds M R,Pr ds M R->t ⟨λ_ M'=>aG M R .non M',aG M R,λ_ _=>False,λ_ _=>False⟩ (cQ N ds) M) :
  FnOk P w K mg base CX0 (k+1) f fd ps (spL K Pr):=by
 !F.ok Sc (λvs H Q E ⟨ds,M,ρ,R,s,r,q,_⟩=>by rw[←r.length];~len ds M R q) λcdv A outer s H vs Q E hr h=>?_
 #⟨ds,M,ρ,R,sm,r,q,kk⟩:=h
 #⟨t,ht,hq⟩:=hbody cdv A outer s H E hr
 !⟨lowS K t,ht,cQ N ds,M,ρ,_,sm,SRep.start r N,hq ds M R q,⟨λσ' H' ⟨S',M',ρ',s',g',sr',q'⟩=>?_,λv H' z=>kk v H' (VQ.endq sm z),λσ' H' ⟨S',M',ρ',s',g',sr',q'⟩=>q'.elim,λσ' H' ⟨S',M',ρ',s',g',sr',q'⟩=>q'.elim⟩⟩
 ~kk .non H' (VQ.endq sm ⟨.non,M',ρ',s',g',.non,q'⟩)
end L2
namespace L2
open PySem PySem.Spec PyProof.Rows DL
section
variable{X:Cx}
¶dfin{pins:List (Addr×Obj)}{σ:St}{H:Hp}{s:Shared}{ρ:List Addr}{M:Mem}{Q:DK}{R:VK}{d:D}{v:V}{u:Value}(I:Inv X pins σ H s)(sm:Sim X.K ρ M H)(k:∀v H',VQ X.K ρ H Q v H'->R v H')(hv:cV d=some v)(rel:bi v u)(q:Q d M):EP X pins σ R u s :=
 ⟨v,H,I,rel,k v H (VQ.now sm (Fi hv) q)⟩
¶ie{pins:List (Addr×Obj)}{σ:St}{H:Hp}{s:Shared}{ρ:List Addr}{M:Mem}{Q:DK}{R:VK}{b:Bool}(I:Inv X pins σ H s)(sm:Sim X.K ρ M H)(k:∀v H',VQ X.K ρ H Q v H'->R v H')(q:Q (.bl b) M):EP X pins σ R (.bool b) s :=
 ⟨.bl b,H,I,rfl,k _ H (VQ.now sm (.bl b) q)⟩
def qAdd:DR2:=λx y M Q=>match x,y with
 | .int i,.int j=>Q (.int (i+j)) M
 | .str a,.str b=>a.length+b.length<=sizeLine/\Q (.str (a++b)) M
 | .ref n,.ref m=>∃xs ys,M[n]?=some (.lst xs)/\M[m]?=some (.lst ys)/\xs.length+ys.length<=sizeLine/\Q (.ref M.length) (M++[.lst (xs++ys)])
 | _,_=>False
¶MX:OpD X (binaryOp .Add) qAdd:=by
 !OpR.imp (MM.or (AW.or ML)) λvx vy H R ⟨x,y,M,ρ,Q,sm,r1,r2,q,k⟩=>?_
 unfold qAdd at q
 split at q
 ·cases r1
  cases r2
  ~.inl ⟨_,_,rfl,rfl,k _ H (VQ.now sm (.int _) q)⟩
 ·cases r1
  cases r2
  ~.inr (.inl ⟨_,_,rfl,rfl,q.1,k _ H (VQ.now sm (.str _) q.2)⟩)
 ·#⟨xs,ys,e1,e2,hl,q⟩:=q
  #⟨_,rfl,h1⟩:=Rep.inv_ref r1
  #⟨_,rfl,h2⟩:=Rep.inv_ref r2
  #⟨vs,f1,g1⟩:=sm.obj _ _ _ h1 e1
  #⟨ws,f2,g2⟩:=sm.obj _ _ _ h2 e2
  ~.inr (.inr ⟨_,_,vs,ws,rfl,rfl,f1,f2,by rw[←g1.length,←g2.length];~hl,λp hp=>k _ _ (VQ.laidL sm .refl (g1.append g2) hp q)⟩)
 ·~q.elim
def FE:DR2:=λx y M Q=>match x,y with
 | .int i,.int j=>Q (.int (i-j)) M
 | _,_=>False
¶MS:OpD X (binaryOp .Sub) FE:=by
 !OpR.imp MH λvx vy H R ⟨x,y,M,ρ,Q,sm,r1,r2,q,k⟩=>?_
 unfold FE at q
 split at q
 ·cases r1
  cases r2
  ~⟨_,_,rfl,rfl,k _ H (VQ.now sm (.int _) q)⟩
 ·~q.elim
def OD(i j:Int):Prop:=0<j/\j<340282366920938463463374607431768211456
¶Gv:OpR X (binaryOp .FloorDiv) (rI OD λi j=>.int (i / j)):=opI λi j _ _ _ _ _ hc q=>by
 have h1:(0:Int)<j:=hc.1
 have h2:j<340282366920938463463374607431768211456:=hc.2
 have h3:j.natAbs.log2<128:=(Nat.log2_lt ¤).mpr (by rw[show (2:Nat) ^ 128=340282366920938463463374607431768211456 by decide];&)
 ~floordiv_int ¤ (by rw[Int.fdiv_eq_ediv_of_nonneg i ¤];~q) (.inl (PyProof.noPylong_of_log2 ¤))
def rJ:DR2:=λx y M Q=>match x,y with
 | .int i,.int j=>OD i j/\Q (.int (i / j)) M
 | _,_=>False
¶Ka:OpD X (binaryOp .FloorDiv) rJ:=by
 !OpR.imp Gv λvx vy H R ⟨x,y,M,ρ,Q,sm,r1,r2,q,k⟩=>?_
 unfold rJ at q
 split at q
 ·cases r1
  cases r2
  ~⟨_,_,rfl,rfl,q.1,k _ H (VQ.now sm (.int _) q.2)⟩
 ·~q.elim
def AT:DR2:=λx y M Q=>match x,y with
 | .int i,.int j=>0<j/\Q (.int (i % j)) M
 | _,_=>False
¶MU:OpD X (binaryOp .Mod) AT:=by
 !OpR.imp MK λvx vy H R ⟨x,y,M,ρ,Q,sm,r1,r2,q,k⟩=>?_
 unfold AT at q
 split at q
 ·cases r1
  cases r2
  ~⟨_,_,rfl,rfl,q.1,k _ H (VQ.now sm (.int _) q.2)⟩
 ·~q.elim
def cr(a b:Str):Bool:=decide (a.cps.toList<b.cps.toList)
def qLt:DR2:=λx y M Q=>match x,y with
 | .int i,.int j=>Q (.bl (decide (i<j))) M
 | .str a,.str b=>Q (.bl (cr a b)) M
 | _,_=>False
def qLe:DR2:=λx y M Q=>match x,y with
 | .int i,.int j=>Q (.bl (decide (i<=j))) M
 | .str a,.str b=>Q (.bl (!cr b a)) M
 | _,_=>False
def qGt:DR2:=λx y M Q=>match x,y with
 | .int i,.int j=>Q (.bl (decide (j<i))) M
 | .str a,.str b=>Q (.bl (cr b a)) M
 | _,_=>False
def qGe:DR2:=λx y M Q=>match x,y with
 | .int i,.int j=>Q (.bl (decide (j<=i))) M
 | .str a,.str b=>Q (.bl (!cr a b)) M
 | _,_=>False
¶MW:OpD X (compareOp .Lt) qLt:=by
 intro pins s σ H vx vy v u R I rx ry ⟨x,y,M,ρ,Q,sm,r1,r2,q,k⟩
 unfold qLt at q
 split at q
 ·cases r1
  cases r2
  ~op_lt pins s σ H _ _ v u R I rx ry ⟨_,_,rfl,rfl,k _ H (VQ.now sm (.bl _) q)⟩
 ·cases r1
  cases r2
  #⟨t,rfl⟩:=rx
  #⟨t',rfl⟩:=ry
  ~PySem.P.lt_str (ie I sm k q)
 ·~q.elim
¶od_le:OpD X (compareOp .LtE) qLe:=by
 intro pins s σ H vx vy v u R I rx ry ⟨x,y,M,ρ,Q,sm,r1,r2,q,k⟩
 unfold qLe at q
 split at q
 ·cases r1
  cases r2
  ~op_le pins s σ H _ _ v u R I rx ry ⟨_,_,rfl,rfl,k _ H (VQ.now sm (.bl _) q)⟩
 ·cases r1
  cases r2
  #⟨t,rfl⟩:=rx
  #⟨t',rfl⟩:=ry
  ~PySem.P.le_str (ie I sm k q)
 ·~q.elim
¶od_gt:OpD X (compareOp .Gt) qGt:=by
 intro pins s σ H vx vy v u R I rx ry ⟨x,y,M,ρ,Q,sm,r1,r2,q,k⟩
 unfold qGt at q
 split at q
 ·cases r1
  cases r2
  ~op_gt pins s σ H _ _ v u R I rx ry ⟨_,_,rfl,rfl,k _ H (VQ.now sm (.bl _) q)⟩
 ·cases r1
  cases r2
  #⟨t,rfl⟩:=rx
  #⟨t',rfl⟩:=ry
  ~PySem.P.gt_str (ie I sm k q)
 ·~q.elim
¶od_ge:OpD X (compareOp .GtE) qGe:=by
 intro pins s σ H vx vy v u R I rx ry ⟨x,y,M,ρ,Q,sm,r1,r2,q,k⟩
 unfold qGe at q
 split at q
 ·cases r1
  cases r2
  ~op_ge pins s σ H _ _ v u R I rx ry ⟨_,_,rfl,rfl,k _ H (VQ.now sm (.bl _) q)⟩
 ·cases r1
  cases r2
  #⟨t,rfl⟩:=rx
  #⟨t',rfl⟩:=ry
  ~PySem.P.ge_str (ie I sm k q)
 ·~q.elim
def qIs:DR2:=λx y M Q=>match x,y with
 | .bl a,.bl b=>Q (.bl (a==b)) M
 | .non,.non=>Q (.bl true) M
 | _,.non=>Q (.bl false) M
 | _,_=>False
¶Js{K:AA5}{ρ:List Addr}{H:Hp}{x:D}{v:V}(r:Rep K ρ H x v)(h:x≠.non):v≠.non:=by
 cases r<;>first | ~absurd rfl h | (intro z;cases z)
¶od_is:OpD X (compareOp .Is) qIs:=by
 intro pins s σ H vx vy v u R I rx ry ⟨x,y,M,ρ,Q,sm,r1,r2,q,k⟩
 unfold qIs at q
 split at q
 ·cases r1
  cases r2
  cases rx
  cases ry
  ~is_bool (ie I sm k q)
 ·cases r1
  cases r2
  cases rx
  cases ry
  ~is_none_gen (dfin (d:=.bl true) I sm k rfl rfl q)
 ·rename_i h1 h2
  cases r2
  cases ry
  !is_none_gen (dfin (d:=.bl false) I sm k rfl ?_ q)
  have:=Js r1 λz=>by subst z;~h2 rfl
  rw[rx.none_iff,decide_eq_false this]
  rfl
 ·~q.elim
def tyD(M:Mem):D->String
 | .non=>"NoneType"
 | .bl _=>"bool"
 | .int _=>"int"
 | .str _=>"str"
 | .ty _=>"type"
 | .tup _=>"tuple"
 | .ref n=>match M[n]? with
  | some mo=>if mo.isL=true then "list" else "?"
  | none=>"?"
def iw(t T:String):Bool:=t==T||(t == "bool" && T == "int")
def pG:List String:=["NoneType","bool","int","str","list","tuple"]
def LO:List String:=["bool","int","str","list","tuple"]
¶Kp(K:AA5){t T:String}(ht:t∈pG)(hT:T∈LO):PySem.W.kitOne K (.type t) (.type T)=some (iw t T):=by
 simp only[pG,LO,AAH,AAf,or_false]at ht hT
 rcases ht with rfl | rfl | rfl | rfl | rfl | rfl<;>rcases hT with rfl | rfl | rfl | rfl | rfl<;>kernel_rfl
¶Iy{pins:List (Addr×Obj)}{σ:St}{H:Hp}{s:Shared}{ρ:List Addr}{M:Mem}{d:D}{v:V}{u c:Value}{Q:Value->Shared->Prop}(I:Inv X pins σ H s)(sm:Sim X.K ρ M H)(r:Rep X.K ρ H d v)(rv:bi v u)(hd:tyD M d∈pG)
  (step:∀(Hx:Heap->Prop),PySem.W.KitX X.K u (.type (tyD M d)) Hx->Hx s.heap->u≠.builtin "__main__.__loader__#opaque"->wpAny (model X.prog X.w) X.A (call (.builtin "isinstance") [u,c]) Q X.xe s):wpAny (model X.prog X.w) X.A (call (.builtin "isinstance") [u,c]) Q X.xe s:=by
 cases r with
 | non=>cases rv;~step _ PySem.W.kitx_none AD3 (λz=>nomatch z)
 | bl y=>cases rv;~step _ PySem.W.kitx_bool AD3 (λz=>nomatch z)
 | int i=>#⟨t,rfl⟩:=rv;~step _ PySem.W.kitx_int AD3 (λz=>nomatch z)
 | str i=>#⟨t,rfl⟩:=rv;~step _ PySem.W.kitx_str AD3 (λz=>nomatch z)
 | ty n=>~absurd hd (by simp only[tyD];decide)
 | tup h rr =>
  cases rv
  #⟨its,_,⟨o,h1,h2,_⟩,_⟩:=I.tuple h
  ~step _ PySem.W.kitx_tuple ⟨o,h1,h2⟩ (λz=>nomatch z)
 | @ref n a e =>
  cases rv
  have hn:n<M.length:=by rw[←sm.len];~(AA2.mp e).1
  have hm:M[n]?=some M[n]:=AA7 hn
  have hd':(match M[n]? with | some mo=>if mo.isL=true then "list" else "?" | none=>"?")∈pG:=hd
  rw[hm]at hd'
  have hil:M[n].isL=true:=by
   cases q:M[n].isL with
   | true=>rfl
   | false =>
    simp only[q,AAF,if_false]at hd'
    ~absurd hd' (by decide)
  have hL:aA M n M[n].items:=by
   cases q:M[n] with
   | lst xs=>~.inl (by rw[hm,q];rfl)
   | fz xs=>~.inr (.inl (by rw[hm,q];rfl))
   | kl xs=>~.inr (.inr (by rw[hm,q];rfl))
   | dct xs=>rw[q]at hil;cases hil
   | dkt xs=>rw[q]at hil;cases hil
  #⟨vs,hq,_⟩:=aA.seq sm hL e
  #⟨its,_,⟨o,n',h1,h2,_⟩,_⟩:=I.list hq
  have ht:tyD M (.ref n) = "list":=by
   show (match M[n]? with | some mo=>if mo.isL=true then "list" else "?" | none=>"?") = "list"
   rw[hm]
   ~if_pos hil
  rw[ht]at step
  ~step _ PySem.W.kitx_list ⟨o,h1,h2⟩ (λz=>nomatch z)
def iq:DRA:=λds M Q=>match ds with
 | [d,.ty T]=>(tyD M d∈pG/\T∈LO)/\Q (.bl (iw (tyD M d) T)) M
 | [d,.tup [.ty T,.ty T']]=>(tyD M d∈pG/\T∈LO/\T'∈LO)/\Q (.bl (iw (tyD M d) T||iw (tyD M d) T')) M
 | _=>False
¶Oo:mh X (.builtin "isinstance") iq:=by
 intro pins s σ H vs us R I rv ⟨ds,M,ρ,Q,sm,rs,q,k⟩
 unfold iq at q
 split at q
 ·rename_i d T
  #⟨⟨h1,h2⟩,q⟩:=q
  first | have hzz:=Reps.inv_cons rs | have hzz:=aL.inv_cons rs
  clear rs
  #⟨_,_,rfl,r1,rs⟩:=hzz
  first | have hzz:=Reps.inv_cons rs | have hzz:=aL.inv_cons rs
  clear rs
  #⟨_,_,rfl,r2,rs⟩:=hzz
  cases rs
  cases r2
  #⟨u,u',rfl,e1,e2⟩:=aL.two rv
  cases e2
  !Iy I sm r1 e1 h1 λHx Z p hx=>?_
  ~PySem.W.kia_one Z I.kIn p (Kp X.K h1 h2) hx λtk=>ie (I.tok tk) sm k q
 ·rename_i d T T'
  #⟨⟨h1,h2,h3⟩,q⟩:=q
  first | have hzz:=Reps.inv_cons rs | have hzz:=aL.inv_cons rs
  clear rs
  #⟨_,_,rfl,r1,rs⟩:=hzz
  first | have hzz:=Reps.inv_cons rs | have hzz:=aL.inv_cons rs
  clear rs
  #⟨_,_,rfl,r2,rs⟩:=hzz
  cases rs
  #⟨u,u',rfl,e1,e2⟩:=aL.two rv
  #⟨a,ws,rfl,hq,rt⟩:=Rep.inv_tup r2
  cases e2
  #⟨its,rr,⟨o,g1,g2,n,g3⟩,_⟩:=I.tuple hq
  first | have hzz:=Reps.inv_cons rt | have hzz:=aL.inv_cons rt
  clear rt
  #⟨_,_,rfl,t1,rt⟩:=hzz
  first | have hzz:=Reps.inv_cons rt | have hzz:=aL.inv_cons rt
  clear rt
  #⟨_,_,rfl,t2,rt⟩:=hzz
  cases rt
  cases t1
  cases t2
  #⟨w1,w2,rfl,f1,f2⟩:=aL.two rr
  cases f1
  cases f2
  #⟨oc,od,odt,osl⟩:=o
  cases g2
  cases g3
  !Iy I sm r1 e1 h1 λHx Z p hx=>?_
  !PySem.W.kia_tup Z I.kIn p g1 (b:=iw (tyD M d) T||iw (tyD M d) T') ?_ hx λtk=>ie (I.tok tk) sm k q
  show (match PySem.W.kitOne X.K (.type (tyD M d)) (.type T)with | some true=>some true | some false=>PySem.W.kitAny X.K (.type (tyD M d)) [.type T'] | none=>none)=_
  rw[Kp X.K h1 h2]
  cases iw (tyD M d) T with
  | true=>rfl
  | false =>
   show (match PySem.W.kitOne X.K (.type (tyD M d)) (.type T')with | some true=>some true | some false=>some false | none=>none)=_
   rw[Kp X.K h1 h3]
   cases iw (tyD M d) T'<;>rfl
 ·~q.elim
def jo:DRA:=λds M Q=>match ds with
 | [.str x]=>x.length<=sizeLine/\Q (.int x.length) M
 | [.tup xs]=>Q (.int xs.length) M
 | [.ref n]=>∃xs,aA M n xs/\Q (.int xs.length) M
 | _=>False
¶On:mh X (.builtin "len") jo:=by
 !fY.imp (wt.or wo) λvs H R ⟨ds,M,ρ,Q,sm,rs,q,k⟩=>?_
 unfold jo at q
 split at q
 ·first | have hzz:=Reps.inv_cons rs | have hzz:=aL.inv_cons rs
  clear rs
  #⟨_,_,rfl,r1,rs⟩:=hzz
  cases rs
  cases r1
  ~.inr ⟨_,rfl,q.1,k _ H (VQ.now sm (.int _) q.2)⟩
 ·first | have hzz:=Reps.inv_cons rs | have hzz:=aL.inv_cons rs
  clear rs
  #⟨_,_,rfl,r1,rs⟩:=hzz
  cases rs
  cases r1 with
  | tup h r=>~.inl ⟨_,_,rfl,.inr h,k _ H (VQ.now sm (by rw[←r.length];~.int _) q)⟩
 ·#⟨xs,hL,q⟩:=q
  first | have hzz:=Reps.inv_cons rs | have hzz:=aL.inv_cons rs
  clear rs
  #⟨_,_,rfl,r1,rs⟩:=hzz
  cases rs
  #⟨_,rfl,e⟩:=Rep.inv_ref r1
  #⟨ws,hq,r⟩:=aA.seq sm hL e
  ~.inl ⟨_,_,rfl,.inl hq,k _ H (VQ.now sm (by rw[←r.length];~.int _) q)⟩
 ·~q.elim
def bls(bs:List Bool):List D:=bs.map .bl
¶Reps.bls{K:AA5}{ρ:List Addr}{H:Hp}:∀{bs:List Bool}{vs:List V},Reps K ρ H (L2.bls bs) vs->vs=bs.map V.bl
 | [],_,h=>by cases h;rfl
 | b::bs,_,h=>by
  cases h with
  | cons r t =>
   cases r
   rw[Reps.bls t]
   rfl
¶yV:∀{bs:List Bool}{us:List Value},aL (bs.map V.bl) us->us=bs.map AD1
 | [],_,h=>by cases h;rfl
 | b::bs,_,h=>by
  cases h with
  | cons r t =>
   cases r
   rw[yV t]
   rfl
¶BF{pins:List (Addr×Obj)}{σ:St}{H:Hp}{s:Shared}{a:Addr}{bs:List Bool}{G:Shared->Prop}(I:Inv X pins σ H s)(hc:X.calm=true)(hq:SqL X.K H a (bs.map V.bl))(fin:∀s',Inv X pins σ H s'->G s') :
  ∀(E:Value->Shared->Prop),wpAny (model X.prog X.w) X.A.in1 (pyIter (.ref a)) (λit s₂=>∃I fp wr n P St tr,it=AB3 I/\Walks X.prog X.w X.A.in1 I fp wr n P St/\St 0 s₂.heap/\TruthOf X.prog X.w X.A.in1 P tr /\
   (n=bs.length/\(∀i,i<bs.length->tr i=bs.getD i false))/\∀h' tk,(∀b o,b∉wr->s₂.heap.get? b=some o->h'.get? b=some o)->G { s₂ with heap:=h',toks:=tk }) E s:=by
 intro E
 #⟨its,rr,p,hz⟩:=I.list hq
 have eits:=yV rr
 subst eits
 have hl:=p.isList
 have hlt:a<s.heap.objs.size:=by #⟨o,n,e,_⟩:=p;~AAG e
 !ADo hl ?_
 have I1:Inv X pins σ H { s with heap:=s.heap.push { cls:=.type "list_iterator",data:=.fields #[.ref a,.int 0 0] } }:=I.kept (t':=s.toks) λb o e=>AA4 _ e
 !⟨s.heap.objs.size,_,_,_,_,_,λi=>bs.getD i false,rfl,Walks.list (A:=X.A.in1) (I.ok.hd hc) s.heap.objs.size a (AAQ hlt) (bs.map AD1).toArray,⟨⟨_,AAE _ rfl,rfl,rfl⟩,hl.push _⟩,?_,⟨by simp,λi _=>rfl⟩,λh' tk kk=>?_⟩
 ·intro i v s' Q' E' hP hQ
  have hP':(bs.map AD1).toArray[i]?=some v:=hP
  rw[ADy,AAU]at hP'
  cases e:bs[i]? with
  | none=>rw[e]at hP';cases hP'
  | some b =>
   rw[e]at hP'
   cases hP'
   !ABj ?_
   have:bs.getD i false=b:=by rw[AAP,e];rfl
   have hQ':Q' (bs.getD i false) s':=hQ
   rw[this]at hQ'
   ~hQ'
 ·have f:=I.fpOk (H':=H) (AAC _) (I.hok.fresh (AAC _))
  #⟨f0,f1,f2,f3,f4,f5⟩:=f
  ~fin _ (I1.turned (t':=tk) (it:=s.heap.objs.size) (λb o hb e=>kk b o (by simpa using hb) e) f0 f1 f3 f4 f5)
¶Fq{bs:List Bool}{tr:Nat->Bool}(h:∀i,i<bs.length->tr i=bs.getD i false):(AAe bs.length).all tr=bs.all id:=by
 rw[ABn,AAK,AAK]
 constructor
 ·intro g b hb
  #⟨i,hi,e⟩:=List.mem_iff_getElem.mp hb
  have:=g i (AAo.mpr hi)
  rw[h i hi,AAP,AA7 hi]at this
  rw[←e]
  ~this
 ·intro g i hi
  have hi':=AAo.mp hi
  rw[h i hi',AAP,AA7 hi']
  ~g _ (AAn hi')
def Gg:DRA:=λds M Q=>match ds with
 | [.ref n]=>∃bs,aA M n (bls bs)/\Q (.bl (bs.all id)) M
 | _=>False
¶Op(hc:X.calm=true:=by rfl):mh X (.builtin "all") Gg:=by
 intro pins s σ H vs us R I rv ⟨ds,M,ρ,Q,sm,rs,q,k⟩
 unfold Gg at q
 split at q
 ·#⟨bs,hL,q⟩:=q
  first | have hzz:=Reps.inv_cons rs | have hzz:=aL.inv_cons rs
  clear rs
  #⟨_,_,rfl,r1,rs⟩:=hzz
  cases rs
  #⟨u,rfl,e1⟩:=aL.one rv
  #⟨_,rfl,e⟩:=Rep.inv_ref r1
  cases e1
  #⟨ws,hq,r⟩:=aA.seq sm hL e
  rw[r.bls]at hq
  !call_all_walk (thn (BF (G:=λs'=>EP X pins σ R (.bool (bs.all id)) s') I hc hq (λs' I'=>ie I' sm k q) _) λit s2 ⟨J,fp,wr,n,P,Sx,tr,e1,W,st,T,⟨en,et⟩,fin⟩=>?_)
  subst en
  ~⟨J,fp,wr,_,P,Sx,tr,e1,W,st,T,λh' tk kk=>by rw[Fq et];~fin h' tk kk⟩
 ·~q.elim
end
end L2
namespace L2
open PySem PySem.Spec PyProof.Rows DL _root_.HT
section
variable{prog:Program}{w:World}{A:Around}{E:Value->Shared->Prop}{s:Shared}
¶sD{t sl:Addr}{items:Array Value}{vl vu:Value}{lo hi:Option Int}{Q:Value->Shared->Prop}(ht:IsTup s.heap t items)(hs:s.heap.IsSliceOf sl vl vu .none)(pl:IsPart vl lo)(pu:IsPart vu hi)
  (hw:sIx items.size 0 lo=0/\sIx items.size items.size hi=items.size) (h:Q (.ref t) s):wpAny (model prog w) A (getItem (.ref t) (.ref sl)) Q E s:=by
 #⟨os,hos,hcs,hds⟩:=id hs
 have hTs:s.TypeIs (.ref sl) "slice":=⟨os,hos,hcs⟩
 unfold getItem
 try with_reducible !AAp ?_
 first | !AA0 (AA3 ?_) | skip
 !AA0 (wpAny_sequenceKey ht.typeIs (by decide) (AA0 (AAl (name:=AA1 "__getitem__") ht.typeIs ABI (AAm ABI ht.typeIs entry_tuple_getitem ?_ (args_tuple_getitem _ _)))))
 !(show wpAny (model prog w) _ (ACJ (.ref t) >>= _) _ _ s from AA0 (tupleItemsOf_ ht (AA0 (ACg hTs ?_))))
 rw[if_pos (by decide)]
 !AA0 (fZ hs pl pu ?_)
 !(show wpAny (model prog w) _ (if (((sIx items.size 0 lo:Nat):Int)==0&&(1:Int)==1&&(sIx items.size items.size hi-sIx items.size 0 lo)==items.size)=true then _ else _) _ _ s from ?_)
 rw[if_pos (by rw[hw.1,hw.2];simp)]
 unfold Builtin.Tuple.tupleIsExact
 !AA0 (AA0 (ACg ht.typeIs (AA3 ?_)))
 rw[if_pos (by decide)]
 ~AA0 (ACL (AA3 ⟨_,rfl,AA3 h⟩))
end
end L2
namespace L2
open PySem PySem.Spec PyProof.Rows DL
section
variable{X:Cx}{a b:Expr}{ta tb:DTE}{pos:Pos}
¶IxR.imp{r r':R2}(h:IxR X r')(i:∀x y H R,r x y H R->r' x y H R):IxR X r:=λvalue slice pins s σ H x y v u R I rx ry q hs=>h value slice pins s σ H x y v u R I rx ry (i x y H R q) hs
¶Reps.atI{K:AA5}{ρ:List Addr}{H:Hp}{ds:List D}{vs:List V}{i:Int}{d:D}(r:Reps K ρ H ds vs)(h:L2.atI ds i=some d):∃v,L2.atI vs i=some v/\Rep K ρ H d v:=by
 unfold L2.atI at h ⊢
 rw[r.length]at h
 cases e:ixN vs.length i with
 | none=>rw[e]at h;cases h
 | some j =>
  rw[e]at h
  #⟨v,hv,rv⟩:=r.get (show ds[j]?=some d from h)
  ~⟨v,hv,rv⟩
def qIx:DR2:=λx y M Q=>match x,y with
 | .tup xs,.int i=>match L2.atI xs i with
  | some d=>Q d M
  | none=>False
 | .str z,.int i=>z.length<=sizeLine/\match L2.atI z.cps.toList i with
  | some c=>Q (.str ⟨#[c]⟩) M
  | none=>False
 | .ref n,.int i=>∃xs,aA M n xs/\match L2.atI xs i with
  | some d=>Q d M
  | none=>False
 | _,_=>False
¶Kt:IxR X (lowR X.K qIx):=by
 !IxR.imp Nq λvx vy H R ⟨x,y,M,ρ,Q,sm,r1,r2,q,k⟩=>?_
 unfold qIx at q
 split at q
 ·rename_i xs i
  split at q
  ·rename_i d e
   cases r2
   #⟨_,_,rfl,h,r⟩:=Rep.inv_tup r1
   #⟨v,hv,rv⟩:=r.atI e
   ~.inr (.inl ⟨_,_,_,v,rfl,rfl,h,hv,k _ H (VQ.now sm rv q)⟩)
  ·~q.elim
 ·rename_i z i
  #⟨hz,q⟩:=q
  split at q
  ·rename_i c e
   cases r2
   cases r1
   ~.inr (.inr ⟨z,i,c,rfl,rfl,hz,e,k _ H (VQ.now sm (.str _) q)⟩)
  ·~q.elim
 ·rename_i n i
  #⟨xs,hL,q⟩:=q
  split at q
  ·rename_i d e
   cases r2
   #⟨_,rfl,hn⟩:=Rep.inv_ref r1
   #⟨vs,hq,r⟩:=aA.seq sm hL hn
   #⟨v,hv,rv⟩:=r.atI e
   ~.inl ⟨_,_,_,v,rfl,rfl,hq,hv,k _ H (VQ.now sm rv q)⟩
  ·~q.elim
 ·~q.elim
¶d_ix(ha:DE X a ta)(hb:DE X b tb)(hs:sX b:=by intro _ _;rfl):DE X (.Subscript a b pos) (dOp qIx ta tb):=PE.imp (MA Kt ha hb hs) rS
abbrev DTO:=SD->Mem->(Option Int->Mem->Prop)->Prop
def MY(K:AA5)(t:DTO):TO:=λσ H R=>∃S M ρ Q,Sim K ρ M H/\SRep K ρ H S σ/\t S M Q/\∀o H',(∃M' ρ',Sim K ρ' M' H'/\Grow K ρ H ρ' H'/\Q o M')->R o H'
def bA:DTO:=λ_ M Q=>Q none M
def dq(t:DTE):DTO:=λS M Q=>t S M λx M1=>match x with
 | .int i=>Q (some i) M1
 | _=>False
¶PO.imp{e:Option Expr}{t t':TO}(h:PO X e t')(i:∀σ H R,t σ H R->t' σ H R):PO X e t:=λpins s σ H R I q=>h pins s σ H R I (i σ H R q)
¶KU:PO X none (MY X.K bA):=PO.imp JG λσ H R ⟨S,M,ρ,Q,s,sr,q,k⟩=>k none H ⟨M,ρ,s,.refl,q⟩
¶KR{e:Expr}{te:DTE}(h:DE X e te):PO X (some e) (MY X.K (dq te)):=by
 !PO.imp (JF h) λσ H R ⟨S,M,ρ,Q,s,sr,q,k⟩=>⟨S,M,ρ,_,s,sr,q,λv H1 ⟨d,M1,ρ1,s1,g1,r1,q1⟩=>?_⟩
 cases r1 with
 | int i=>~⟨i,rfl,k _ H1 ⟨M1,ρ1,s1,g1,q1⟩⟩
 | _=>~q1.elim
¶LY:SlR X (λx lo hi H Q=>∃z,x=.str z/\z.length<=sizeLine/\Q (.str (ABo z lo hi)) H):=by
 intro pins s σ H x v vl vu lo hi sl Q I rx hs pl pu h
 #⟨z,rfl,hz,q⟩:=h
 #⟨t,rfl⟩:=rx
 have part:∀{v:Value}{o:Option Int},IsPart v o->∃p:Option (Int×Tok),v=partValue p/\p.map (·.1)=o:=λh=>by
  cases h with
  | none=>~⟨none,rfl,rfl⟩
  | int i t=>~⟨some (i,t),rfl,rfl⟩
 #⟨p1,rfl,e1⟩:=part pl
 #⟨p2,rfl,e2⟩:=part pu
 subst e1 e2
 !⟨"str",_,slot_str_getitem.lookup,typeIs_str _ _ _,wpAny_getItem_str_slice (l:=p1) (u:=p2) (st:=none) hs rfl ?_⟩
 ~post_val_or_str ⟨ABN (Txt.slice_le z _ _) hz,λt' k=>⟨.str _,H,I.tok k,⟨t',rfl⟩,q⟩⟩
def cutD(xs:List D)(lo hi:Option Int):List D:=(xs.drop (HT.sIx xs.length 0 lo)).take (HT.sIx xs.length xs.length hi-HT.sIx xs.length 0 lo)
¶Reps.cutD{K:AA5}{ρ:List Addr}{H:Hp}{ds:List D}{vs:List V}(r:Reps K ρ H ds vs)(lo hi:Option Int):Reps K ρ H (L2.cutD ds lo hi) (IJ vs lo hi):=by
 unfold L2.cutD IJ
 rw[r.length]
 ~(r.drop _).take _
def qSl:D->Option Int->Option Int->Mem->DK->Prop:=λx lo hi M Q=>match x with
 | .str z=>z.length<=sizeLine/\Q (.str (ABo z lo hi)) M
 | .ref n=>∃xs,aA M n xs/\Q (.ref M.length) (M++[.lst (cutD xs lo hi)])
 | .tup xs=>Q (.tup (cutD xs lo hi)) M
 | _=>False
def lowSl(K:AA5)(r:D->Option Int->Option Int->Mem->DK->Prop):V->Option Int->Option Int->Hp->VK->Prop:=λvx lo hi H R=>∃x M ρ Q,Sim K ρ M H/\Rep K ρ H x vx/\r x lo hi M Q/\∀v H',VQ K ρ H Q v H'->R v H'
¶sld:SlR X (lowSl X.K qSl):=by
 intro pins s σ H x v vl vu lo hi sl R I rx hs pl pu ⟨d,M,ρ,Q,sm,r1,q,k⟩
 unfold qSl at q
 split at q
 ·cases r1
  ~LY pins s σ H _ v vl vu lo hi sl R I rx hs pl pu ⟨_,rfl,q.1,k _ H (VQ.now sm (.str _) q.2)⟩
 ·#⟨xs,hL,q⟩:=q
  #⟨_,rfl,hn⟩:=Rep.inv_ref r1
  #⟨vs,hq,r⟩:=aA.seq sm hL hn
  ~Jo pins s σ H _ v vl vu lo hi sl R I rx hs pl pu ⟨_,vs,rfl,hq,λp hp=>k _ _ (VQ.laidL sm .refl (r.cutD lo hi) hp q)⟩
 ·#⟨_,_,rfl,h,r⟩:=Rep.inv_tup r1
  rename_i xs a vs
  by_cases hw:HT.sIx xs.length 0 lo=0/\HT.sIx xs.length xs.length hi=xs.length
  ·cases rx
   #⟨its,rr,ht,hz⟩:=I.tuple h
   have hlen:its.toArray.size=xs.length:=by rw[AAB,r.length];~rr.length.symm
   have e:L2.cutD xs lo hi=xs:=by unfold L2.cutD;rw[hw.1,hw.2,List.drop_zero,Nat.sub_zero,AC3]
   rw[e]at q
   ~⟨"tuple",_,ABI.lookup,ht.typeIs,sD ht hs pl pu (by rw[hlen];~hw) ⟨.ref _,H,I,rfl,k _ H (VQ.now sm (.tup h r) q)⟩⟩
  ·~LX pins s σ H _ v vl vu lo hi sl R I rx hs pl pu ⟨_,_,rfl,h,by rw[←r.length];~hw,λp hp=>k _ _ (VQ.laidT sm .refl (r.cutD lo hi) hp q)⟩
 ·~q.elim
def dSl(te:DTE)(tl th:DTO):DTE:=λS M Q=>te S M λx M1=>tl S M1 λl M2=>th S M2 λu M3=>qSl x l u M3 Q
¶Lg{e:Expr}{te:DTE}{lo hi:Option Expr}{tl th:DTO}{p2:Pos}(he:DE X e te)(hl:PO X lo (MY X.K tl))(hu:PO X hi (MY X.K th)):DE X (.Subscript e (.Slice lo hi none p2) pos) (dSl te tl th):=by
 !PE.imp (Gq sld he hl hu) λσ H R ⟨S,M,ρ,Q,s,sr,q,k⟩=>⟨S,M,ρ,_,s,sr,q,λv H1 ⟨d,M1,ρ1,s1,g1,r1,q1⟩=>⟨S,M1,ρ1,_,s1,sr.grow g1,q1,λl H2 ⟨M2,ρ2,s2,g2,q2⟩=>⟨S,M2,ρ2,_,s2,sr.grow (g1.trans g2),q2,λu H3 ⟨M3,ρ3,s3,g3,q3⟩=>?_⟩⟩⟩
 ~⟨d,M3,ρ3,Q,s3,r1.grow (g2.trans g3),q3,λv H' w=>k v H' (VQ.trans ((g1.trans g2).trans g3) w)⟩
def nJ:DR2:=λx y M Q=>match x,y with
 | .int i,.int j=>CMul i j/\Q (.int (i*j)) M
 | .str z,.int n=>(0<=n/\n<2 ^ 63/\z.length*n.toNat<=sizeLine)/\Q (.str (Txt.mul z n)) M
 | _,_=>False
¶xS{z:Str}{n:Int}(h0:0<=n)(h:z.length*n.toNat<=sizeLine)(hn:n<2 ^ 63):MulOk z n:=by
 !⟨?_,λh1 h2=>?_,λh1 h2=>?_⟩
 ·have e1:decide (n < -(2 ^ 63:Int))=false:=decide_eq_false ¤
  have e2:decide (n ≥ 2 ^ 63)=false:=decide_eq_false ¤
  rw[e1,e2]
  rfl
 ·have hz:(z.length:Int)*n<=2 ^ 24:=by
   have e:((z.length*n.toNat:Nat):Int)=(z.length:Int)*n:=by
    rw[Int.natCast_mul,Int.toNat_of_nonneg h0]
   have h':((z.length*n.toNat:Nat):Int)<=(2 ^ 24:Nat):=Int.ofNat_le.mpr h
   rw[e]at h'
   ~h'
  have hpos:0<n:=¤
  intro hgt
  have:=Int.lt_of_lt_of_le (Int.lt_mul_of_ediv_lt hpos hgt) hz
  &
 ·unfold PySem.Builtin.Str.tooLong
  simpa using h
¶JZ:OpD X (binaryOp .Mult) nJ:=by
 intro pins s σ H vx vy v u R I rx ry ⟨x,y,M,ρ,Q,sm,r1,r2,q,k⟩
 unfold nJ at q
 split at q
 ·cases r1
  cases r2
  ~MJ pins s σ H _ _ v u R I rx ry ⟨_,_,rfl,rfl,q.1,k _ H (VQ.now sm (.int _) q.2)⟩
 ·rename_i z n
  cases r1
  cases r2
  #⟨t,rfl⟩:=rx
  #⟨t',rfl⟩:=ry
  #⟨⟨h0,h2,h1⟩,q⟩:=q
  ~PySem.SB.mul (xS h0 h1 h2) λt' j=>⟨.str _,H,I.tok j,⟨t',rfl⟩,k _ H (VQ.now sm (.str _) q)⟩
 ·~q.elim
def Lz:DRA:=λds M Q=>match ds with
 | [.str x]=>x.length=1/\Q (.int (x.cps.getD 0 0:Nat)) M
 | _=>False
¶Om:mh X (.builtin "ord") Lz:=by
 !fY.imp Ia λvs H R ⟨ds,M,ρ,Q,sm,rs,q,k⟩=>?_
 unfold Lz at q
 split at q
 ·first | have hzz:=Reps.inv_cons rs | have hzz:=aL.inv_cons rs
  clear rs
  #⟨_,_,rfl,r1,rs⟩:=hzz
  cases rs
  cases r1
  ~⟨_,rfl,q.1,k _ H (VQ.now sm (.int _) q.2)⟩
 ·~q.elim
variable{o e:Expr}{es:List Expr}{to:DTE}{t:DTA}{name:Str}{apos cpos:Pos}{id:String}
def GK(K:AA5)(r:Str->DRA):V->List V->Hp->VK->Prop:=λvx vs H R=>∃z ds M ρ Q,vx=.str z/\Sim K ρ M H/\Reps K ρ H ds vs/\r z ds M Q/\∀v H',VQ K ρ H Q v H'->R v H'
def DR(K:AA5)(r:Nat->DRA):V->List V->Hp->VK->Prop:=λvx vs H R=>∃n a ds M ρ Q,vx=.ref a/\ρ[n]?=some a/\Sim K ρ M H/\Reps K ρ H ds vs/\r n ds M Q/\∀v H',VQ K ρ H Q v H'->R v H'
def dMs(r:Str->DRA)(to:DTE)(t:DTA):DTE:=λS M Q=>to S M λx M1=>match x with
 | .str z=>t S M1 λds M2=>r z ds M2 Q
 | _=>False
def dMl(r:Nat->DRA)(to:DTE)(t:DTA):DTE:=λS M Q=>to S M λx M1=>match x with
 | .ref n=>(∃xs,aA M1 n xs)/\t S M1 λds M2=>r n ds M2 Q
 | _=>False
¶d_ms{r:Str->DRA}(slot:Slot "str" name id)(hty:typeOf (.builtin id)=pure (.type "method_descriptor"))(hm:MtR X id (GK X.K r))(ho:DE X o to)(ha:DA X (e::es) t)
  (hbase:attributeBase o name X.env (eval o X.env)=eval o X.env:=by rfl)
  (hfew:((backTo cpos (starEach (e::es) X.env)).all (λx=>!x.1)&&(backToKw cpos (keywordEach [] X.env)).all (λx=>x.1.isSome)
   && decide ((e::es).length+([]:List Keyword).length+(if ([]:List Keyword).isEmpty then 0 else 1)<30))=true:=by rfl)
  (hline:(apos.endLine==cpos.line)=true:=by rfl) (hs:starEach (e::es) X.env=(false,eval e X.env)::starEach es X.env:=by rfl) (hplain:(backTo cpos (starEach es X.env)).any (·.1)=false:=by rfl) :
  DE X (.Call (.Attribute o name apos) (e::es) [] cpos) (dMs r to t):=by
 !PE.imp (MC PySem.F.plainAttrs_str slot hty hm ho ha hbase hfew hline hs hplain) λσ H R ⟨S,M,ρ,Q,s,sr,q,k⟩=>⟨S,M,ρ,_,s,sr,q,λv H1 ⟨d,M1,ρ1,s1,g1,r1,q1⟩=>?_⟩
 cases r1 with
 | str z=>~⟨rfl,S,M1,ρ1,_,s1,sr.grow g1,q1,λvs H2 ⟨ds,M2,ρ2,s2,g2,r2,q2⟩=>⟨z,ds,M2,ρ2,Q,rfl,s2,r2,q2,λv H' w=>k v H' (VQ.trans (g1.trans g2) w)⟩⟩
 | _=>~q1.elim
¶d_ml{r:Nat->DRA}(slot:Slot "list" name id)(hty:typeOf (.builtin id)=pure (.type "method_descriptor"))(hm:MtR X id (DR X.K r))(ho:DE X o to)(ha:DA X (e::es) t)
  (hbase:attributeBase o name X.env (eval o X.env)=eval o X.env:=by rfl)
  (hfew:((backTo cpos (starEach (e::es) X.env)).all (λx=>!x.1)&&(backToKw cpos (keywordEach [] X.env)).all (λx=>x.1.isSome)
   && decide ((e::es).length+([]:List Keyword).length+(if ([]:List Keyword).isEmpty then 0 else 1)<30))=true:=by rfl)
  (hline:(apos.endLine==cpos.line)=true:=by rfl) (hs:starEach (e::es) X.env=(false,eval e X.env)::starEach es X.env:=by rfl) (hplain:(backTo cpos (starEach es X.env)).any (·.1)=false:=by rfl) :
  DE X (.Call (.Attribute o name apos) (e::es) [] cpos) (dMl r to t):=by
 !PE.imp (MC PySem.F.plainAttrs_list slot hty hm ho ha hbase hfew hline hs hplain) λσ H R ⟨S,M,ρ,Q,s,sr,q,k⟩=>⟨S,M,ρ,_,s,sr,q,λv H1 ⟨d,M1,ρ1,s1,g1,r1,q1⟩=>?_⟩
 cases r1 with
 | @ref n a hn =>
  #⟨⟨xs,hL⟩,q1⟩:=(show (∃xs,aA M1 n xs)/\t S M1 _ from q1)
  #⟨vs,hq,_⟩:=aA.seq s1 hL hn
  ~⟨.inl ⟨rfl,vs,hq⟩,S,M1,ρ1,_,s1,sr.grow g1,q1,λvs H2 ⟨ds,M2,ρ2,s2,g2,r2,q2⟩=>⟨n,a,ds,M2,ρ2,Q,rfl,bE g2.pre hn,s2,r2,q2,λv H' w=>k v H' (VQ.trans (g1.trans g2) w)⟩⟩
 | _=>~q1.elim
def gL(n:Nat):DRA:=λds M Q=>match ds with
 | [d]=>∃xs,M[n]?=some (.lst xs)/\xs.length<sizeLine/\Q .non (M.set n (.lst (xs++[d])))
 | _=>False
¶Bk:MtR X "list.append" (DR X.K gL):=by
 intro pins s σ H x xs v us R I rx rs ⟨n,a,ds,M,ρ,Q,ez,hn,sm,rr,q,k⟩
 unfold gL at q
 split at q
 ·rename_i d
  #⟨ys,e,hl,q⟩:=q
  first | have hzz:=Reps.inv_cons rr | have hzz:=aL.inv_cons rr
  clear rr
  #⟨_,_,rfl,r1,rr⟩:=hzz
  cases rr
  #⟨vs,hH,r⟩:=sm.obj n a _ hn e
  #⟨w1,w2⟩:=sm.write hn e hH (r.append (.cons r1 .nil))
  ~DO pins s σ H x _ v us R I rx rs ⟨a,vs,_,ez,rfl,hH,by rw[←r.length];~hl,k _ _ ⟨.non,_,ρ,w1,w2,.non,q⟩⟩
 ·~q.elim
end
end L2
namespace L2
open PySem PySem.Spec PyProof.Rows DL
section
variable{X:Cx}{tg:Expr}
end
end L2
namespace L2
open PySem PySem.Spec PyProof.Rows DL
def cM(K:AA5)(mg:Str->Option Value)(x:Str)(st:Stmt)(ps:List Str):Prop :=
 ∃f fd,Fun K x x st f fd/\mg x=some (.ref f)/\wO K fd ps []
def Cal(P:Program)(w:World)(K:AA5)(mg:Str->Option Value)(base:Heap)(k:Nat)(x:Str)(ps:List Str)(Pr:DSp):Prop :=
 ∃f fd,FnOk P w K mg base CX0 k f fd ps (spL K Pr)/\mg x=some (.ref f)/\ACU K (.ref f)=true/\wO K fd ps []
¶fnat_mk{K:AA5}{h:Heap}{mg:Str->Option Value}{x:Str}{st:Stmt}{ps:List Str}{f:Addr}{oc:Value}{od an:Option Addr}{osl:Array (Option Value)}{kV doc pm cdv ct:Value}
  (X:K.In h) (G:h.Ns mainGlobals mg) (a:AD0 K mainGlobals x=some (some (.ref f)))
  (l:K.lookup f=some ⟨oc,od,.func (ACf x x (ju st) (cI st) (ak st) .none kV doc pm an cdv ct),osl⟩)
  (c:AEM K cdv x=true) (k:ACU K (.ref f)=true)
  (h:∀(kV doc pm:Value) (an:Option Addr) (cdv ct:Value) (us:List Value),us.length=ps.length->bindArgs (ACf x x (ju st) (cI st) (ak st) .none kV doc pm an cdv ct) ⟨us,[]⟩=pure (ps.zip us)):cM K mg x st ps :=
 have F:=NJ (st:=st) l c k
 ⟨f,_,F,PySem.W.mg_of X G a,F.binds h⟩
¶Cal.of{P:Program}{w:World}{K:AA5}{mg:Str->Option Value}{base:Heap}{x:Str}{st:Stmt}{N ps:List Str}{k:Nat}{Pr:DSp}(F:cM K mg x st ps)(Sc:FnScope N ps (ak st))
  (len:∀ds M R,Pr ds M R->ds.length=ps.length) {t:DTS}
  (der:∀(f:Addr) (cdv:Value) (A:Around) (outer:List Env) (s:Shared) (H:Hp) (E:XK),Room k (A.deeper (envOfC x (ak st) s.heap.objs.size f cdv))->DSs (BM CX0 P w K mg base N x (ak st) f cdv A outer s H E).nox (cI st) t)
  (wp:∀ds M R,Pr ds M R->t ⟨λ_ M'=>aG M R .non M',aG M R,λ_ _=>False,λ_ _=>False⟩ (cQ N ds) M):Cal P w K mg base (k+1) x ps Pr:=by
 #⟨f,fd,F1,hm,hb⟩:=F
 ~⟨f,fd,d_fn Pr F1 Sc len λcdv A outer s H E hr=>⟨t,der f cdv A outer s H E hr,wp⟩,hm,F1.kp,hb⟩
¶KI{P:Program}{w:World}{K:AA5}{mg:Str->Option Value}{base:Heap}{x:Str}{st:Stmt}{N ps:List Str}{k:Nat}{Pr:DSp}{f:Addr}{fd:FuncData}(F:Fun K x x st f fd)(Sc:FnScope N ps (ak st))
  (len:∀ds M R,Pr ds M R->ds.length=ps.length) {t:DTS}
  (der:∀(f:Addr) (cdv:Value) (A:Around) (outer:List Env) (s:Shared) (H:Hp) (E:XK),Room k (A.deeper (envOfC x (ak st) s.heap.objs.size f cdv))->DSs (BM CX0 P w K mg base N x (ak st) f cdv A outer s H E).nox (cI st) t)
  (wp:∀ds M R,Pr ds M R->t ⟨λ_ M'=>aG M R .non M',aG M R,λ_ _=>False,λ_ _=>False⟩ (cQ N ds) M):FnOk P w K mg base CX0 (k+1) f fd ps (spL K Pr) :=
 d_fn Pr F Sc len λcdv A outer s H E hr=>⟨t,der f cdv A outer s H E hr,wp⟩
section
variable{X:Cx}{e:Expr}{es:List Expr}{t:DTA}{pos:Pos}
¶d_cal{j k:Nat}{x:Str}{ps:List Str}{p:Pos}{P:DSp}(C:Cal X.prog X.w X.K X.mg X.base j x ps P)(hr:Room k X.A)(ha:DA X (e::es) t)(hj:j<=k:=by decide)
  (hg:Gl X x:=by rfl) (hdb:(x==("__debug__":Str))=false:=by decide) (he:starEach (e::es) X.env=(false,eval e X.env)::starEach es X.env:=by rfl) (hpl:(backTo pos (starEach es X.env)).any (·.1)=false:=by rfl) :
  DE X (.Call (.Name x p) (e::es) [] pos) (dCB P t):=by
 #⟨f,fd,F,hm,hk,hb⟩:=C
 ~Oi F (hr.mono hj) hm hk hb ha hg hdb he hpl
¶Lh{x:Str}{i:Int}(hm:∃t,X.mg x=some (.int i t))(hg:Gl X x:=by rfl)(hb:(x==("__debug__":Str))=false:=by decide):DE X (.Name x pos) (dC (.int i)):=by
 #⟨t,hm⟩:=hm
 ~Oh hm rfl ⟨t,rfl⟩ hg hb
end
def Iu:DSp:=λds M R=>∃(ns:List Int) (mo:MO),ns.length<=63/\(mo.items=ns.map D.int/\mo.isL=true)/\ds=[.ref 0]/\M=[mo]/\∀M',R (.bl true) M'
¶oq{M:Mem}{n:Nat}{mo:MO}(h:M[n]?=some mo)(hl:mo.isL=true):aA M n mo.items:=by
 cases mo with
 | lst xs=>~.inl h
 | fz xs=>~.inr (.inl h)
 | kl xs=>~.inr (.inr h)
 | dct xs=>cases hl
 | dkt xs=>cases hl
¶jK{K:AA5}{ρ:List Addr}{H:Hp}:∀(ns:List Int),Reps K ρ H (ns.map D.int) (ns.map V.int)
 | []=>.nil
 | n::ns=>.cons (.int n) (jK ns)
¶Bq{K:AA5}{H:Hp}{a:Addr}{ns:List Int}(hl:ns.length<=63)(hS:SqL K H a (ns.map V.int)):spL K Iu [.ref a] H (λv _=>v=.bl true) λ_ _ _=>False:=by
 have one:∀{mo:MO},mo.items=ns.map D.int/\mo.isL=true->BO K [a] H a mo->spL K Iu [.ref a] H (λv _=>v=.bl true) λ_ _ _=>False:=λ{mo} e ok=>by
  !⟨[.ref 0],[mo],[a],λd _=>d=.bl true,⟨λn m b hne e1 e2=>?_,rfl,λn b mo' e1 e2=>?_⟩,.cons (.ref rfl) .nil,⟨ns,mo,hl,e,rfl,rfl,λ_=>rfl⟩,λv H' ⟨d,M',ρ',_,_,r,q⟩=>?_⟩
  ·have h1:=(AA2.mp e1).1
   have h2:=(AA2.mp e2).1
   simp at h1 h2
   &
  ·have h1:=(AA2.mp e1).1
   simp at h1
   subst h1
   simp at e1 e2
   subst e1 e2
   ~ok
  ·have q':d=.bl true:=q
   subst q'
   cases r
   rfl
 rcases hS with(h | ⟨o,h⟩) | h
 ·~one (mo:=.lst _) ⟨rfl,rfl⟩ ⟨_,h,jK ns⟩
 ·~one (mo:=.fz _) ⟨rfl,rfl⟩ ⟨o,_,h,jK ns⟩
 ·~one (mo:=.kl _) ⟨rfl,rfl⟩ ⟨_,h,jK ns⟩
¶law_walk{l:PySem.W.OpenLaw}{q:Program}{loose:List Str}{XP:(Str->Option Value)->Heap->Prop}{YP:World->Heap->Prop}{d:DefRec}{K:Params->AA5}{k:Nat}{st:Stmt}{x:Str}(hn:l.most=some 63)(hdf:d.params.defaults=[])(hd:d.name = "law")(hr:Room k callerA)
  (hY:∀(w:World) (h:Heap),YP w h->(K w.params).In h)
  (F:∀(w:World) (mg:Str->Option Value) (h:Heap),(K w.params).In h->h.Ns mainGlobals mg->cM (K w.params) mg "law" st [x] /\
   ∀(base:Heap) (f:Addr) (fd:FuncData),Fun (K w.params) "law" "law" st f fd->FnOk l.prog w (K w.params) mg base CX0 k f fd [x] (spL (K w.params) Iu))
  (hb:∀(kV doc pm:Value) (an:Option Addr) (cdv ct:Value) (u:Value),bindArgs (ACf "law" "law" (ju st) (cI st) (ak st) .none kV doc pm an cdv ct) ⟨[u],[]⟩=pure [(x,u)]) :
  PySem.W.WalkO q loose XP YP l.row.toRowW d [] (λf vs=>PySem.call f vs):=by
 !L2.walk_of (n:=63) (k:=k) (x:=x) (CX:=λ_=>CX0) (sp:=λw=>spL (K w.params) Iu) hn (by decide) hdf hr hY (λw mg fa h KX G hmg=>?_) (λw H a ns hl _ hS=>Bq hl hS) λ_ _ _ _ _ z=>z
 rw[hd]at hmg
 #⟨⟨f,fd,F1,hm,_⟩,C⟩:=F w mg h KX G
 have e:=hmg.symm.trans hm
 cases e
 have C':=λbase=>C base _ _ F1
 #⟨oc,od,kV,doc,pm,an,cdv,ct,osl,rfl,lk,hcd⟩:=id F1.ex
 ~⟨_,λs v=>.of_eq (hb kV doc pm an cdv ct v),λbase _ _=>C' base⟩
end L2
namespace L2
open PySem PySem.Spec PyProof.Rows DL
def Ac(nm:List (Str×NameKind))(N N':List Str)(nt:Nat)(js:List Nat)(sc:Scope):Bool :=
 sc.kind==.function&&sc.names.all (λy=>y.2 != .cell&&(y.2 != .local||sc.names.lookup y.1==some .local)&&(y.2 != .free||(nm.lookup y.1==some .cell||nm.lookup y.1==some .free))) &&
 N'.length==nt+js.length&&(AAe js.length).all λk=>match js[k]?,N'[nt+k]? with
  | some j,some x=>N[j]?==some x&&sc.names.lookup x==some .free&&(nm.lookup x==some .cell||nm.lookup x==some .free)
  | _,_=>false
¶BlkSc.chk{X:Cx}{N':List Str}{nt:Nat}{js:List Nat}{scope:Scope}(h:Ac X.env.scope.names X.N N' nt js scope=true):BlkSc X N' nt js scope:=by
 unfold Ac at h
 simp only[AAD,AAK,beq_iff_eq,AEB,bne_iff_ne]at h
 #⟨⟨⟨h1,h2⟩,h3⟩,h4⟩:=h
 !⟨h1,λy hy=>(h2 y hy).1.1,λy hy e=>((h2 y hy).1.2.resolve_left (λz=>z e)),λy hy e=>((h2 y hy).2.resolve_left (λz=>z e)),h3,λk j e=>?_⟩
 have hk:k<js.length:=(AA2.mp e).1
 have q:=h4 k (AAo.mpr hk)
 rw[e]at q
 cases f:N'[nt+k]? with
 | none=>rw[f]at q;~absurd q (by simp)
 | some x =>
  rw[f]at q
  simp only[AAD,beq_iff_eq,AEB]at q
  ~⟨x,rfl,q.1.1,q.1.2,q.2⟩
section
variable{X:Cx}{a:Expr}{ta:DTE}{pos:Pos}
def dUn(r:DR1)(ta:DTE):DTE:=λS M Q=>ta S M λx M1=>r x M1 Q
¶d_un{op:UnaryOp}{r:DR1}(ho:UnD X (unaryOp op) r)(ha:DE X a ta):DE X (.UnaryOp op a pos) (dUn r ta):=by
 !PE.imp (pe_un ho ha) λσ H R ⟨S,M,ρ,Q,s,sr,q,k⟩=>⟨S,M,ρ,_,s,sr,q,λv H1 ⟨d,M1,ρ1,s1,g1,r1,q1⟩=>?_⟩
 ~⟨d,M1,ρ1,Q,s1,r1,q1,λv H' w=>k v H' (VQ.trans g1 w)⟩
def Mf:DR1:=λx M Q=>match x with
 | .int i=>Q (.int (-i)) M
 | _=>False
¶LN:UnD X (unaryOp .USub) Mf:=by
 intro pins s σ H vx v R I rx ⟨x,M,ρ,Q,sm,r1,q,k⟩
 unfold Mf at q
 split at q
 ·cases r1
  ~LM pins s σ H _ v R I rx ⟨_,rfl,k _ H (VQ.now sm (.int _) q)⟩
 ·~q.elim
end
end L2
namespace L2
open PySem PySem.Spec PyProof.Rows DL
def eqL(f:D->D->Bool):List D->List D->Bool
 | [],[]=>true
 | x::xs,y::ys=>f x y&&eqL f xs ys
 | _,_=>false
def eqD(M:Mem):Nat->D->D->Bool
 | _,.non,.non=>true
 | _,.bl a,.bl b=>a==b
 | _,.bl a,.int b=>(if a then 1 else 0)==b
 | _,.int a,.bl b=>a==(if b then 1 else 0)
 | _,.int a,.int b=>a==b
 | _,.str a,.str b=>a==b
 | n+1,.tup xs,.tup ys=>eqL (eqD M n) xs ys
 | n+1,.ref i,.ref j=>match M[i]?,M[j]? with
  | some a,some b=>eqL (eqD M n) a.items b.items
  | _,_=>false
 | _,_,_=>false
def okD(M:Mem):Nat->D->Bool
 | _,.ty _=>false
 | n+1,.tup xs=>xs.all (okD M n)
 | n+1,.ref i=>match M[i]? with
  | some a=>a.isL&&a.items.all (okD M n)
  | none=>false
 | 0,.tup _=>false
 | 0,.ref _=>false
 | _,_=>true
¶EK{f:D->D->Bool}:∀{xs ys:List D},eqL f xs ys=true->xs.length=ys.length
 | [],[],_=>rfl
 | [],_::_,h=>by simp[eqL]at h
 | _::_,[],h=>by simp[eqL]at h
 | x::xs,y::ys,h=>by
  simp only[eqL,AAD]at h
  rw[AAA,AAA,EK h.2]
¶Fp(n:Nat)(e:Nat->Bool):(AAe (n+1)).all e=(e 0&&(AAe n).all λj=>e (j+1)):=by
 rw[List.range_succ_eq_map,ABF,ADU]
 rfl
¶oP{f:D->D->Bool}:∀{xs ys:List D}{e:Nat->Bool},xs.length=ys.length->(∀(j:Nat) x y,xs[j]?=some x->ys[j]?=some y->e j=f x y)->(AAe xs.length).all e=eqL f xs ys
 | [],[],e,_,_=>by simp[eqL]
 | [],_::_,_,h,_=>by simp at h
 | _::_,[],_,h,_=>by simp at h
 | x::xs,y::ys,e,h,he=>by
  rw[AAA,Fp,eqL,he 0 x y rfl rfl,oP (by simpa using h) λj x' y' h1 h2=>he (j+1) x' y' (by simpa using h1) (by simpa using h2)]
¶EJ{f:D->D->Bool}{xs ys:List D}(h:xs.length≠ys.length):eqL f xs ys=false:=by
 cases q:eqL f xs ys with
 | false=>rfl
 | true=>~absurd (EK q) h
¶jy{vs:List V}{us:List Value}(h:aL vs us){j:Nat}{v:V}(e:vs[j]?=some v):∃u,us[j]?=some u/\bi v u:=by
 induction h generalizing j with
 | nil=>simp at e
 | cons r _ ih =>
  cases j with
  | zero=>simp at e;subst e;~⟨_,rfl,r⟩
  | succ j=>~ih (by simpa using e)
section
variable{X:Cx}{pins:List (Addr×Obj)}{σ:St}{H:Hp}{s:Shared}{ρ:List Addr}{M:Mem}
¶nv(I:Inv X pins σ H s)(sm:Sim X.K ρ M H){i:Nat}{a:Addr}{mo:MO}(e:ρ[i]?=some a)(hm:M[i]?=some mo)(hl:mo.isL=true):∃vs its,SqL X.K H a vs/\Reps X.K ρ H mo.items vs/\aL vs its/\PlainL s.heap a its.toArray:=by
 #⟨vs,hq,r⟩:=aA.seq sm (oq hm hl) e
 #⟨its,rr,pl,_⟩:=I.list hq
 ~⟨vs,its,hq,r,rr,pl⟩
¶fe{n i:Nat}{mo:MO}(hm:M[i]?=some mo)(o:okD M (n+1) (.ref i)=true):mo.isL=true/\mo.items.all (okD M n)=true:=by
 have o':(match M[i]? with | some a=>a.isL&&a.items.all (okD M n) | none=>false)=true:=o
 rw[hm]at o'
 ~(AAD _ _).mp o'
¶Hs(I:Inv X pins σ H s)(sm:Sim X.K ρ M H):∀(n:Nat) (x y:D) (v:V),Rep X.K ρ H x v->Rep X.K ρ H y v->okD M n x=true->okD M n y=true->eqD M n x y=true:=by
 have all:∀(n:Nat),(∀(x y:D) (v:V),Rep X.K ρ H x v->Rep X.K ρ H y v->okD M n x=true->okD M n y=true->eqD M n x y=true) ->
   ∀(xs ys:List D) (vs:List V),Reps X.K ρ H xs vs->Reps X.K ρ H ys vs->xs.all (okD M n)=true->ys.all (okD M n)=true->eqL (eqD M n) xs ys=true:=by
  intro n ih xs
  induction xs with
  | nil=>intro ys vs h1 h2 _ _;cases h1;cases h2;rfl
  | cons x xs hi =>
   intro ys vs h1 h2 o1 o2
   cases h1 with
   | cons r1 t1 =>
    cases h2 with
    | cons r2 t2 =>
     rw[ABF,AAD]at o1 o2
     rw[eqL,ih _ _ _ r1 r2 o1.1 o2.1,hi _ _ t1 t2 o1.2 o2.2]
     rfl
 intro n
 induction n with
 | zero =>
  intro x y v h1 h2 o1 o2
  cases h1<;>cases h2<;>first | (simp[okD]at o1;done) | rfl | simp[eqD]
 | succ n ih =>
  intro x y v h1 h2 o1 o2
  cases h1 with
  | non=>cases h2;rfl
  | bl b=>cases h2;simp[eqD]
  | int b=>cases h2;simp[eqD]
  | str b=>cases h2;simp[eqD]
  | ty b=>simp[okD]at o1
  | @tup a vs ds hq r =>
   cases h2 with
   | tup hq' r' =>
    have e:=I.tuple_inj hq hq'
    subst e
    ~all n ih _ _ _ r r' (by simpa [okD]using o1) (by simpa [okD]using o2)
   | @ref i _ e =>
    exfalso
    #⟨its,_,⟨o,e1,e2,_⟩,_⟩:=I.tuple hq
    have hi:i<M.length:=by rw[←sm.len];~(AA2.mp e).1
    #⟨vs',its',_,_,_,⟨o',n',f1,f2,_⟩⟩:=nv I sm e (AA7 hi) (fe (AA7 hi) o2).1
    rw[e1]at f1;cases f1
    rw[e2]at f2;injection f2 with f3;~absurd f3 (by decide)
  | @ref i a e =>
   have hi:i<M.length:=by rw[←sm.len];~(AA2.mp e).1
   have hm:=AA7 hi
   #⟨vs,its,hq,r,rr,pl⟩:=nv I sm e hm (fe hm o1).1
   cases h2 with
   | tup hq' r' =>
    exfalso
    #⟨its',_,⟨o,e1,e2,_⟩,_⟩:=I.tuple hq'
    #⟨o',n',f1,f2,_⟩:=pl
    rw[e1]at f1;cases f1
    rw[e2]at f2;injection f2 with f3;~absurd f3 (by decide)
   | @ref j _ e' =>
    have hj:j<M.length:=by rw[←sm.len];~(AA2.mp e').1
    have hm':=AA7 hj
    #⟨vs',its',hq',r',rr',pl'⟩:=nv I sm e' hm' (fe hm' o2).1
    have ev:vs=vs':=I.list_inj hq hq'
    subst ev
    have o1':=(fe hm o1).2
    have o2':=(fe hm' o2).2
    simp only[eqD,hm,hm']
    ~all n ih _ _ _ r r' o1' o2'
¶oQ(I:Inv X pins σ H s)(sm:Sim X.K ρ M H):∀(n:Nat) (A:Around) (x y:D) (vx vy:V) (u v:Value),A.units+n<cLine->Rep X.K ρ H x vx->bi vx u->Rep X.K ρ H y vy->bi vy v->okD M n x=true->okD M n y=true ->
  ACp A s u v (eqD M n x y)/\SeqAt.RcAt A s u v (eqD M n x y)/\SeqAt.RcNeAt A s u v (!eqD M n x y):=by
 intro n
 induction n with
 | zero =>
  intro A x y vx vy u v hu r1 e1 r2 e2 o1 o2
  cases r1 with
  | ty b=>simp[okD]at o1
  | tup b=>simp[okD]at o1
  | ref b=>simp[okD]at o1
  | non =>
   cases e1
   cases r2 with
   | ty b=>simp[okD]at o2
   | tup b=>simp[okD]at o2
   | ref b=>simp[okD]at o2
   | non=>cases e2;~⟨AEC _,SeqAt.RcAt.none_none,SeqAt.RcNeAt.none_none⟩
   | bl b=>cases e2;~⟨SeqAt.EqAt.none_bool _,SeqAt.RcAt.none_bool _,SeqAt.RcNeAt.none_bool _⟩
   | int b=>#⟨t,rfl⟩:=e2;~⟨SeqAt.EqAt.none_int _ _,SeqAt.RcAt.none_int _ _,SeqAt.RcNeAt.none_int _ _⟩
   | str b=>#⟨t,rfl⟩:=e2;~⟨SeqAt.EqAt.none_str _ _,SeqAt.RcAt.none_str _ _,SeqAt.RcNeAt.none_str _ _⟩
  | bl a =>
   cases e1
   cases r2 with
   | ty b=>simp[okD]at o2
   | tup b=>simp[okD]at o2
   | ref b=>simp[okD]at o2
   | non=>cases e2;~⟨SeqAt.EqAt.bool_none _,SeqAt.RcAt.bool_none _,SeqAt.RcNeAt.bool_none _⟩
   | bl b=>cases e2;~⟨SeqAt.EqAt.bool_bool _ _,SeqAt.RcAt.bool_bool _ _,SeqAt.RcNeAt.bool_bool _ _⟩
   | int b=>#⟨t,rfl⟩:=e2;~⟨SeqAt.EqAt.bool_int _ _ _,SeqAt.RcAt.bool_int _ _ _,SeqAt.RcNeAt.bool_int _ _ _⟩
   | str b=>#⟨t,rfl⟩:=e2;~⟨SeqAt.EqAt.bool_str _ _ _,SeqAt.RcAt.bool_str _ _ _,SeqAt.RcNeAt.bool_str _ _ _⟩
  | int a =>
   #⟨t0,rfl⟩:=e1
   cases r2 with
   | ty b=>simp[okD]at o2
   | tup b=>simp[okD]at o2
   | ref b=>simp[okD]at o2
   | non=>cases e2;~⟨SeqAt.EqAt.int_none _ _,SeqAt.RcAt.int_none _ _,SeqAt.RcNeAt.int_none _ _⟩
   | bl b=>cases e2;~⟨SeqAt.EqAt.int_bool _ _ _,SeqAt.RcAt.int_bool _ _ _,SeqAt.RcNeAt.int_bool _ _ _⟩
   | int b=>#⟨t,rfl⟩:=e2;~⟨ACu _ _ _ _,SeqAt.RcAt.int_int _ _ _ _,SeqAt.RcNeAt.int_int _ _ _ _⟩
   | str b=>#⟨t,rfl⟩:=e2;~⟨ACs _ _ _ _,SeqAt.RcAt.int_str _ _ _ _,SeqAt.RcNeAt.int_str _ _ _ _⟩
  | str a =>
   #⟨t0,rfl⟩:=e1
   cases r2 with
   | ty b=>simp[okD]at o2
   | tup b=>simp[okD]at o2
   | ref b=>simp[okD]at o2
   | non=>cases e2;~⟨SeqAt.EqAt.str_none _ _,SeqAt.RcAt.str_none _ _,SeqAt.RcNeAt.str_none _ _⟩
   | bl b=>cases e2;~⟨SeqAt.EqAt.str_bool _ _ _,SeqAt.RcAt.str_bool _ _ _,SeqAt.RcNeAt.str_bool _ _ _⟩
   | int b=>#⟨t,rfl⟩:=e2;~⟨ACt _ _ _ _,SeqAt.RcAt.str_int _ _ _ _,SeqAt.RcNeAt.str_int _ _ _ _⟩
   | str b=>#⟨t,rfl⟩:=e2;~⟨ADZ _ _ _ _,SeqAt.RcAt.str_str _ _ _ _,SeqAt.RcNeAt.str_str _ _ _ _⟩
 | succ n ih =>
  intro A x y vx vy u v hu r1 e1 r2 e2 o1 o2
  have hu0:A.units<cLine:=¤
  have hu1:A.in1.units+n<cLine:=by show A.units+1+n<cLine;&
  -- what a list or a tuple is,as the heap has it
  have tupAt:∀{a:Addr}{vs:List V}{ds:List D},SqT X.K H a vs->Reps X.K ρ H ds vs->∃its:List Value,aL vs its/\s.heap.IsTuple a its.toArray/\ds.length=its.length:=λ{a vs ds} hq r=>by
   #⟨its,rr,pl,_⟩:=I.tuple hq
   ~⟨its,rr,pl,r.length.trans rr.length⟩
  have lstAt:∀{i:Nat}{a:Addr},ρ[i]?=some a->okD M (n+1) (.ref i)=true->∃mo,M[i]?=some mo/\∃vs its,Reps X.K ρ H mo.items vs/\aL vs its/\s.heap.IsList a its.toArray/\mo.items.length=its.length:=λ{i a} e ok=>by
   have hi:i<M.length:=by rw[←sm.len];~(AA2.mp e).1
   have hm:=AA7 hi
   #⟨vs,its,hq,r,rr,pl⟩:=nv I sm e hm (fe hm ok).1
   ~⟨_,hm,vs,its,r,rr,pl.isList,r.length.trans rr.length⟩
  have items:∀{xs ys:List D}{vs ws:List V}{its jts:List Value},Reps X.K ρ H xs vs->aL vs its->Reps X.K ρ H ys ws->aL ws jts->xs.all (okD M n)=true->ys.all (okD M n)=true ->
    ∀(j:Nat) (h1:j<its.toArray.size) (h2:j<jts.toArray.size),ACp A.in1 s its.toArray[j] jts.toArray[j] (eqD M n (xs.getD j .non) (ys.getD j .non)):=λ{xs ys vs ws its jts} r1 q1 r2 q2 o1 o2 j h1 h2=>by
   have l1:j<xs.length:=by rw[r1.length,q1.length];simpa using h1
   have l2:j<ys.length:=by rw[r2.length,q2.length];simpa using h2
   #⟨v1,g1,p1⟩:=r1.get (AA7 l1)
   #⟨v2,g2,p2⟩:=r2.get (AA7 l2)
   #⟨u1,k1,m1⟩:=jy q1 g1
   #⟨u2,k2,m2⟩:=jy q2 g2
   have z1:its.toArray[j]=u1:=by
    have:=(AA2.mp k1).2
    simpa using this
   have z2:jts.toArray[j]=u2:=by
    have:=(AA2.mp k2).2
    simpa using this
   rw[z1,z2]
   have y1:xs.getD j .non=xs[j]:=by simp[AEP,AA7 l1]
   have y2:ys.getD j .non=ys[j]:=by simp[AEP,AA7 l2]
   rw[y1,y2]
   ~(ih A.in1 _ _ _ _ _ _ hu1 p1 m1 p2 m2 (AAK.mp o1 _ (AAn l1)) (AAK.mp o2 _ (AAn l2))).1
  have rng:∀(xs ys:List D),xs.length=ys.length->(AAe xs.length).all (λj=>eqD M n (xs.getD j .non) (ys.getD j .non))=eqL (eqD M n) xs ys:=λxs ys h=>oP h λj x y h1 h2=>by
   simp[AEP,h1,h2]
  have fin:∀{a b:Addr}{k:Bool},Rep X.K ρ H x (.ref a)->Rep X.K ρ H y (.ref b)->eqD M (n+1) x y=k->SeqAt.RcAt A s (.ref a) (.ref b) k->SeqAt.RcNeAt A s (.ref a) (.ref b) (!k) ->
    ACp A s (.ref a) (.ref b) (eqD M (n+1) x y)/\SeqAt.RcAt A s (.ref a) (.ref b) (eqD M (n+1) x y)/\SeqAt.RcNeAt A s (.ref a) (.ref b) (!eqD M (n+1) x y):=λ{a b k} p1 p2 ek h1 h2=>by
   subst ek
   !⟨?_,h1,h2⟩
   by_cases hab:a=b
   ·subst hab
    rw[Hs I sm (n+1) x y _ p1 p2 o1 o2]
    ~AEC _
   ·~SeqAt.EqAt.of_refs hab h1
  cases r1 with
  | ty b=>simp[okD]at o1
  | non =>
   cases e1
   cases r2 with
   | ty b=>simp[okD]at o2
   | tup hq r=>cases e2;#⟨its,rr,pl,_⟩:=tupAt hq r;~⟨SeqAt.EqAt.none_tuple pl hu0,SeqAt.RcAt.none_tuple pl hu0,SeqAt.RcNeAt.none_tuple pl hu0⟩
   | ref e=>cases e2;#⟨mo,hm,vs,its,r,rr,pl,_⟩:=lstAt e o2;~⟨SeqAt.EqAt.none_list pl hu0,SeqAt.RcAt.none_list pl hu0,SeqAt.RcNeAt.none_list pl hu0⟩
   | non=>cases e2;~⟨AEC _,SeqAt.RcAt.none_none,SeqAt.RcNeAt.none_none⟩
   | bl b=>cases e2;~⟨SeqAt.EqAt.none_bool _,SeqAt.RcAt.none_bool _,SeqAt.RcNeAt.none_bool _⟩
   | int b=>#⟨t,rfl⟩:=e2;~⟨SeqAt.EqAt.none_int _ _,SeqAt.RcAt.none_int _ _,SeqAt.RcNeAt.none_int _ _⟩
   | str b=>#⟨t,rfl⟩:=e2;~⟨SeqAt.EqAt.none_str _ _,SeqAt.RcAt.none_str _ _,SeqAt.RcNeAt.none_str _ _⟩
  | bl a =>
   cases e1
   cases r2 with
   | ty b=>simp[okD]at o2
   | tup hq r=>cases e2;#⟨its,rr,pl,_⟩:=tupAt hq r;~⟨SeqAt.EqAt.bool_tuple _ pl hu0,SeqAt.RcAt.bool_tuple _ pl hu0,SeqAt.RcNeAt.bool_tuple _ pl hu0⟩
   | ref e=>cases e2;#⟨mo,hm,vs,its,r,rr,pl,_⟩:=lstAt e o2;~⟨SeqAt.EqAt.bool_list _ pl hu0,SeqAt.RcAt.bool_list _ pl hu0,SeqAt.RcNeAt.bool_list _ pl hu0⟩
   | non=>cases e2;~⟨SeqAt.EqAt.bool_none _,SeqAt.RcAt.bool_none _,SeqAt.RcNeAt.bool_none _⟩
   | bl b=>cases e2;~⟨SeqAt.EqAt.bool_bool _ _,SeqAt.RcAt.bool_bool _ _,SeqAt.RcNeAt.bool_bool _ _⟩
   | int b=>#⟨t,rfl⟩:=e2;~⟨SeqAt.EqAt.bool_int _ _ _,SeqAt.RcAt.bool_int _ _ _,SeqAt.RcNeAt.bool_int _ _ _⟩
   | str b=>#⟨t,rfl⟩:=e2;~⟨SeqAt.EqAt.bool_str _ _ _,SeqAt.RcAt.bool_str _ _ _,SeqAt.RcNeAt.bool_str _ _ _⟩
  | int a =>
   #⟨t0,rfl⟩:=e1
   cases r2 with
   | ty b=>simp[okD]at o2
   | tup hq r=>cases e2;#⟨its,rr,pl,_⟩:=tupAt hq r;~⟨SeqAt.EqAt.int_tuple _ _ pl hu0,SeqAt.RcAt.int_tuple _ _ pl hu0,SeqAt.RcNeAt.int_tuple _ _ pl hu0⟩
   | ref e=>cases e2;#⟨mo,hm,vs,its,r,rr,pl,_⟩:=lstAt e o2;~⟨SeqAt.EqAt.int_list _ _ pl hu0,SeqAt.RcAt.int_list _ _ pl hu0,SeqAt.RcNeAt.int_list _ _ pl hu0⟩
   | non=>cases e2;~⟨SeqAt.EqAt.int_none _ _,SeqAt.RcAt.int_none _ _,SeqAt.RcNeAt.int_none _ _⟩
   | bl b=>cases e2;~⟨SeqAt.EqAt.int_bool _ _ _,SeqAt.RcAt.int_bool _ _ _,SeqAt.RcNeAt.int_bool _ _ _⟩
   | int b=>#⟨t,rfl⟩:=e2;~⟨ACu _ _ _ _,SeqAt.RcAt.int_int _ _ _ _,SeqAt.RcNeAt.int_int _ _ _ _⟩
   | str b=>#⟨t,rfl⟩:=e2;~⟨ACs _ _ _ _,SeqAt.RcAt.int_str _ _ _ _,SeqAt.RcNeAt.int_str _ _ _ _⟩
  | str a =>
   #⟨t0,rfl⟩:=e1
   cases r2 with
   | ty b=>simp[okD]at o2
   | tup hq r=>cases e2;#⟨its,rr,pl,_⟩:=tupAt hq r;~⟨SeqAt.EqAt.str_tuple _ _ pl hu0,SeqAt.RcAt.str_tuple _ _ pl hu0,SeqAt.RcNeAt.str_tuple _ _ pl hu0⟩
   | ref e=>cases e2;#⟨mo,hm,vs,its,r,rr,pl,_⟩:=lstAt e o2;~⟨SeqAt.EqAt.str_list _ _ pl hu0,SeqAt.RcAt.str_list _ _ pl hu0,SeqAt.RcNeAt.str_list _ _ pl hu0⟩
   | non=>cases e2;~⟨SeqAt.EqAt.str_none _ _,SeqAt.RcAt.str_none _ _,SeqAt.RcNeAt.str_none _ _⟩
   | bl b=>cases e2;~⟨SeqAt.EqAt.str_bool _ _ _,SeqAt.RcAt.str_bool _ _ _,SeqAt.RcNeAt.str_bool _ _ _⟩
   | int b=>#⟨t,rfl⟩:=e2;~⟨ACt _ _ _ _,SeqAt.RcAt.str_int _ _ _ _,SeqAt.RcNeAt.str_int _ _ _ _⟩
   | str b=>#⟨t,rfl⟩:=e2;~⟨ADZ _ _ _ _,SeqAt.RcAt.str_str _ _ _ _,SeqAt.RcNeAt.str_str _ _ _ _⟩
  | @tup a vs ds hq r =>
   cases e1
   #⟨its,rr,pl,ll⟩:=tupAt hq r
   cases r2 with
   | ty b=>simp[okD]at o2
   | non=>cases e2;~⟨SeqAt.EqAt.tuple_none pl hu0,SeqAt.RcAt.tuple_none pl hu0,SeqAt.RcNeAt.tuple_none pl hu0⟩
   | bl b=>cases e2;~⟨SeqAt.EqAt.tuple_bool _ pl hu0,SeqAt.RcAt.tuple_bool _ pl hu0,SeqAt.RcNeAt.tuple_bool _ pl hu0⟩
   | int b=>#⟨t,rfl⟩:=e2;~⟨SeqAt.EqAt.tuple_int _ _ pl hu0,SeqAt.RcAt.tuple_int _ _ pl hu0,SeqAt.RcNeAt.tuple_int _ _ pl hu0⟩
   | str b=>#⟨t,rfl⟩:=e2;~⟨SeqAt.EqAt.tuple_str _ _ pl hu0,SeqAt.RcAt.tuple_str _ _ pl hu0,SeqAt.RcNeAt.tuple_str _ _ pl hu0⟩
   | ref e=>cases e2;#⟨mo,hm,vs',its',r',rr',pl',_⟩:=lstAt e o2;~⟨SeqAt.EqAt.tuple_list pl pl' hu0,SeqAt.RcAt.tuple_list pl pl' hu0,SeqAt.RcNeAt.tuple_list pl pl' hu0⟩
   | @tup b ws es hq' r' =>
    cases e2
    #⟨jts,rr',pl',ll'⟩:=tupAt hq' r'
    have ok1:ds.all (okD M n)=true:=by simpa [okD]using o1
    have ok2:es.all (okD M n)=true:=by simpa [okD]using o2
    have key:((AAe (min its.toArray.size jts.toArray.size)).all (λj=>eqD M n (ds.getD j .non) (es.getD j .non))&&its.toArray.size==jts.toArray.size)=eqL (eqD M n) ds es:=by
     rw[AAB,AAB]
     by_cases hl:ds.length=es.length
     ·rw[←ll,←ll',←hl,Nat.min_self,rng ds es hl]
      simp
     ·rw[EJ hl,←ll,←ll']
      simp[hl]
    have h1:=SeqAt.RcAt.tuples pl pl' hu0 (items r rr r' rr' ok1 ok2)
    have h2:=SeqAt.RcNeAt.tuples pl pl' hu0 (items r rr r' rr' ok1 ok2)
    rw[key]at h1 h2
    ~fin (.tup hq r) (.tup hq' r') rfl h1 h2
  | @ref i a e =>
   cases e1
   #⟨mo,hm,vs,its,r,rr,pl,ll⟩:=lstAt e o1
   cases r2 with
   | ty b=>simp[okD]at o2
   | non=>cases e2;~⟨SeqAt.EqAt.list_none pl hu0,SeqAt.RcAt.list_none pl hu0,SeqAt.RcNeAt.list_none pl hu0⟩
   | bl b=>cases e2;~⟨SeqAt.EqAt.list_bool _ pl hu0,SeqAt.RcAt.list_bool _ pl hu0,SeqAt.RcNeAt.list_bool _ pl hu0⟩
   | int b=>#⟨t,rfl⟩:=e2;~⟨SeqAt.EqAt.list_int _ _ pl hu0,SeqAt.RcAt.list_int _ _ pl hu0,SeqAt.RcNeAt.list_int _ _ pl hu0⟩
   | str b=>#⟨t,rfl⟩:=e2;~⟨SeqAt.EqAt.list_str _ _ pl hu0,SeqAt.RcAt.list_str _ _ pl hu0,SeqAt.RcNeAt.list_str _ _ pl hu0⟩
   | tup hq' r'=>cases e2;#⟨its',rr',pl',_⟩:=tupAt hq' r';~⟨SeqAt.EqAt.list_tuple pl pl' hu0,SeqAt.RcAt.list_tuple pl pl' hu0,SeqAt.RcNeAt.list_tuple pl pl' hu0⟩
   | @ref j b e' =>
    cases e2
    #⟨mo',hm',ws,jts,r',rr',pl',ll'⟩:=lstAt e' o2
    have ok1:mo.items.all (okD M n)=true:=(fe hm o1).2
    have ok2:mo'.items.all (okD M n)=true:=(fe hm' o2).2
    have ek:eqD M (n+1) (.ref i) (.ref j)=eqL (eqD M n) mo.items mo'.items:=by simp only[eqD,hm,hm']
    by_cases hl:mo.items.length=mo'.items.length
    ·have hsz:its.toArray.size=jts.toArray.size:=by rw[AAB,AAB,←ll,←ll',hl]
     have h1:=SeqAt.RcAt.lists pl pl' hsz hu0 (items r rr r' rr' ok1 ok2)
     have h2:=SeqAt.RcNeAt.lists pl pl' hsz hu0 (items r rr r' rr' ok1 ok2)
     rw[AAB,←ll,rng _ _ hl]at h1 h2
     ~fin (.ref e) (.ref e') ek h1 h2
    ·have hsz:(its.toArray.size != jts.toArray.size)=true:=by
      rw[AAB,AAB,←ll,←ll']
      simpa using hl
     have h1:=SeqAt.RcAt.lists_lengths pl pl' hsz hu0
     have h2:=SeqAt.RcNeAt.lists_lengths pl pl' hsz hu0
     ~fin (.ref e) (.ref e') (ek.trans (EJ hl)) h1 h2
def eqN:Nat:=30
def qEq:DR2:=λx y M Q=>(okD M eqN x=true/\okD M eqN y=true)/\Q (.bl (eqD M eqN x y)) M
def qNe:DR2:=λx y M Q=>(okD M eqN x=true/\okD M eqN y=true)/\Q (.bl (!eqD M eqN x y)) M
def inD(M:Mem)(x:D)(ys:List D):Bool:=ys.any λy=>eqD M eqN y x
def Mh(neg:Bool):DR2:=λx y M Q=>match y with
 | .tup ys=>(okD M eqN x=true/\ys.all (okD M eqN)=true)/\Q (.bl (inD M x ys != neg)) M
 | .ref n=>∃ys,aA M n ys/\(okD M eqN x=true/\ys.all (okD M eqN)=true)/\Q (.bl (inD M x ys != neg)) M
 | .str z=>match x with
  | .str p=>Q (.bl ((!(AC7 z p 0 z.length 1).isEmpty) != neg)) M
  | _=>False
 | _=>False
abbrev qIn:DR2:=Mh false
abbrev Dc:DR2:=Mh true
end
section
variable{X:Cx}
¶qT{k:Nat}{A:Around}(hr:Room k A):A.units+eqN<cLine:=by have:=hr.un;unfold eqN;&
¶od_eq{k:Nat}(hr:Room k X.A):OpD X (compareOp .Eq) qEq:=by
 intro pins s σ H vx vy v u R I rx ry ⟨x,y,M,ρ,Q,sm,r1,r2,⟨⟨o1,o2⟩,q⟩,k⟩
 ~(oQ I sm eqN X.A x y vx vy v u (qT hr) r1 rx r2 ry o1 o2).2.1 _ _ _ _ (ie I sm k q)
¶od_ne{k:Nat}(hr:Room k X.A):OpD X (compareOp .NotEq) qNe:=by
 intro pins s σ H vx vy v u R I rx ry ⟨x,y,M,ρ,Q,sm,r1,r2,⟨⟨o1,o2⟩,q⟩,k⟩
 ~(oQ I sm eqN X.A x y vx vy v u (qT hr) r1 rx r2 ry o1 o2).2.2 _ _ _ _ (ie I sm k q)
¶vY{pins:List (Addr×Obj)}{σ:St}{H:Hp}{s:Shared}{ρ:List Addr}{M:Mem}(I:Inv X pins σ H s)(sm:Sim X.K ρ M H):∀(n:Nat) (x y z:D) (v:V),Rep X.K ρ H x v->Rep X.K ρ H y v->okD M n x=true->okD M n y=true->eqD M n x z=eqD M n y z:=by
 have all:∀(n:Nat),(∀(x y z:D) (v:V),Rep X.K ρ H x v->Rep X.K ρ H y v->okD M n x=true->okD M n y=true->eqD M n x z=eqD M n y z) ->
   ∀(xs ys zs:List D) (vs:List V),Reps X.K ρ H xs vs->Reps X.K ρ H ys vs->xs.all (okD M n)=true->ys.all (okD M n)=true->eqL (eqD M n) xs zs=eqL (eqD M n) ys zs:=by
  intro n ih xs
  induction xs with
  | nil=>intro ys zs vs h1 h2 _ _;cases h1;cases h2;rfl
  | cons x xs hi =>
   intro ys zs vs h1 h2 o1 o2
   cases h1 with
   | cons r1 t1 =>
    cases h2 with
    | cons r2 t2 =>
     cases zs with
     | nil=>rfl
     | cons z zs =>
      rw[ABF,AAD]at o1 o2
      rw[eqL,eqL,ih _ _ z _ r1 r2 o1.1 o2.1,hi _ zs _ t1 t2 o1.2 o2.2]
 intro n
 induction n with
 | zero =>
  intro x y z v h1 h2 o1 o2
  cases h1<;>cases h2<;>first | rfl | (cases z<;>rfl)
 | succ n ih =>
  intro x y z v h1 h2 o1 o2
  cases h1 with
  | non=>cases h2;rfl
  | bl b=>cases h2;rfl
  | int b=>cases h2;rfl
  | str b=>cases h2;rfl
  | ty b=>cases h2;rfl
  | @tup a vs ds hq r =>
   cases h2 with
   | tup hq' r' =>
    have e:=I.tuple_inj hq hq'
    subst e
    cases z with
    | tup zs=>~all n ih _ _ zs _ r r' o1 o2
    | _=>rfl
   | @ref i _ e =>
    exfalso
    #⟨its,_,⟨o,e1,e2,_⟩,_⟩:=I.tuple hq
    have hi:i<M.length:=by rw[←sm.len];~(AA2.mp e).1
    #⟨vs',its',_,_,_,⟨o',n',f1,f2,_⟩⟩:=nv I sm e (AA7 hi) (fe (AA7 hi) o2).1
    rw[e1]at f1;cases f1
    rw[e2]at f2;injection f2 with f3;~absurd f3 (by decide)
  | @ref i a e =>
   have hi:i<M.length:=by rw[←sm.len];~(AA2.mp e).1
   have hm:=AA7 hi
   #⟨vs,its,hq,r,rr,pl⟩:=nv I sm e hm (fe hm o1).1
   cases h2 with
   | tup hq' r' =>
    exfalso
    #⟨its',_,⟨o,e1,e2,_⟩,_⟩:=I.tuple hq'
    #⟨o',n',f1,f2,_⟩:=pl
    rw[e1]at f1;cases f1
    rw[e2]at f2;injection f2 with f3;~absurd f3 (by decide)
   | @ref j _ e' =>
    have hj:j<M.length:=by rw[←sm.len];~(AA2.mp e').1
    have hm':=AA7 hj
    #⟨vs',its',hq',r',rr',pl'⟩:=nv I sm e' hm' (fe hm' o2).1
    have ev:vs=vs':=I.list_inj hq hq'
    subst ev
    cases z with
    | ref k =>
     simp only[eqD,hm,hm']
     cases M[k]? with
     | none=>rfl
     | some mo=>~all n ih _ _ _ _ r r' (fe hm o1).2 (fe hm' o2).2
    | _=>rfl
¶Et{k:Nat}(hr:Room k X.A){pins:List (Addr×Obj)}{σ:St}{H:Hp}{s:Shared}{ρ:List Addr}{M:Mem}(I:Inv X pins σ H s)(sm:Sim X.K ρ M H){x:D}{vx:V}{v:Value}(r1:Rep X.K ρ H x vx)(rx:bi vx v)(o1:okD M eqN x=true) :
  ∀{ys:List D}{ws:List V}{its:List Value},Reps X.K ρ H ys ws->aL ws its->ys.all (okD M eqN)=true->∃e:Value->Bool,(∀u∈its,ACp X.A.in1 s u v (e u))/\its.any e=inD M x ys:=by
 have hu:X.A.in1.units+eqN<cLine:=by have:=hr.un;show X.A.units+1+eqN<cLine;unfold eqN;&
 intro ys ws its rs vs ok
 classical
 !⟨λu=>if h:∃d v',Rep X.K ρ H d v'/\bi v' u/\okD M eqN d=true then eqD M eqN h.choose x else false,λu hm=>?_,?_⟩
 ·#⟨j,hj,ej⟩:=List.getElem_of_mem hm
  have lj:j<ws.length:=by rw[vs.length];~hj
  #⟨d,hd,rd⟩:=rs.getV (AA7 lj)
  #⟨u',hu',ru⟩:=jy vs (AA7 lj)
  have:u'=u:=by rw[AA7 hj]at hu';cases hu';~ej
  subst this
  have okd:=AAK.mp ok _ (AAu hd)
  have h:∃d v',Rep X.K ρ H d v'/\bi v' u'/\okD M eqN d=true:=⟨d,_,rd,ru,okd⟩
  show ACp X.A.in1 s u' v (if h:_ then _ else _)
  rw[dif_pos h]
  #⟨v',p1,p2,p3⟩:=h.choose_spec
  have ev:=bi.inj p2 ru
  subst ev
  rw[vY I sm eqN _ d x _ p1 rd p3 okd]
  ~(oQ I sm eqN X.A.in1 d x _ vx _ v hu rd ru r1 rx (AAK.mp ok _ (AAu hd)) o1).1
 ·clear hu o1
  unfold inD
  induction ys generalizing ws its with
  | nil=>cases rs;cases vs;rfl
  | cons d ds ih =>
   cases rs with
   | cons r t =>
   cases vs with
   | cons q t' =>
    rename_i v' vs' u us
    rw[ABF,AAD]at ok
    have h:∃d v',Rep X.K ρ H d v'/\bi v' u/\okD M eqN d=true:=⟨d,_,r,q,ok.1⟩
    rw[ABe,ABe,ih t t' ok.2,dif_pos h]
    #⟨v2,p1,p2,p3⟩:=h.choose_spec
    have ev:=bi.inj p2 q
    subst ev
    rw[vY I sm eqN _ d x _ p1 r p3 ok.1]
¶Ip{k:Nat}(neg:Bool)(hr:Room k X.A):OpD X (compareOp (if neg then .NotIn else .In)) (Mh neg):=by
 intro pins s σ H vx vy v u R I rx ry ⟨x,y,M,ρ,Q,sm,r1,r2,q,k⟩
 cases r2 with
 | non=>~q.elim
 | bl b=>~q.elim
 | int b=>~q.elim
 | ty b=>~q.elim
 | str z =>
  cases r1 with
  | str p =>
   #⟨t,rfl⟩:=rx
   #⟨t',rfl⟩:=ry
   cases neg with
   | false=>~in_str (ie I sm k (by simpa [Mh]using q))
   | true=>~notIn_str (ie I sm k (by simpa [Mh]using q))
  | _=>~q.elim
 | @tup a ws ys hq r =>
  cases ry
  #⟨⟨o1,o2⟩,q⟩:=(show (okD M eqN x=true/\_)/\_ from q)
  #⟨its,rr,pl,hz⟩:=I.tuple hq
  #⟨e,he,ee⟩:=Et hr I sm r1 rx o1 r rr o2
  have ea:its.toArray.any e=inD M x ys:=by rw[←ee];simp
  cases neg with
  | false=>~SeqAt.in_tupleAt e pl (λw hw=>he w (by simpa using hw)) (by rw[ea];~ie I sm k (by simpa using q))
  | true=>~SeqAt.notIn_tupleAt e pl (λw hw=>he w (by simpa using hw)) (by rw[ea];~ie I sm k (by simpa using q))
 | ref h =>
  cases ry
  #⟨ys,hL,⟨o1,o2⟩,q⟩:=(show ∃ys,aA M _ ys/\(okD M eqN x=true/\_)/\_ from q)
  #⟨ws,hq,r⟩:=aA.seq sm hL h
  #⟨its,rr,pl,hz⟩:=I.list hq
  #⟨e,he,ee⟩:=Et hr I sm r1 rx o1 r rr o2
  have ea:its.toArray.any e=inD M x ys:=by rw[←ee];simp
  cases neg with
  | false=>~SeqAt.in_listAt e pl.isList (λw hw=>he w (by simpa using hw)) (by rw[ea];~ie I sm k (by simpa using q))
  | true=>~SeqAt.notIn_listAt e pl.isList (λw hw=>he w (by simpa using hw)) (by rw[ea];~ie I sm k (by simpa using q))
¶od_in{k:Nat}(hr:Room k X.A):OpD X (compareOp .In) qIn:=Ip false hr
¶GE{k:Nat}(hr:Room k X.A):OpD X (compareOp .NotIn) Dc:=Ip true hr
end
end L2
namespace L2
open PySem PySem.Spec PyProof.Rows DL
¶bL:bootBuiltins "len" = some (.builtin "len"):=by decide +kernel
¶wz:bootBuiltins "all" = some (.builtin "all"):=by decide +kernel
¶aq:bootBuiltins "isinstance" = some (.builtin "isinstance"):=by decide +kernel
¶IL:bootBuiltins "ord" = some (.builtin "ord"):=by decide +kernel
¶Fm:bootBuiltins "sorted" = some (.builtin "sorted"):=by decide +kernel
¶IM:bootBuiltins "int" = some (.type "int"):=by decide +kernel
¶ko:bootBuiltins "str" = some (.type "str"):=by decide +kernel
¶jw:bootBuiltins "bool" = some (.type "bool"):=by decide +kernel
¶Lr:bootBuiltins "list" = some (.type "list"):=by decide +kernel
¶bp:bootBuiltins "tuple" = some (.type "tuple"):=by decide +kernel
¶Ls:bootBuiltins "dict" = some (.type "dict"):=by decide +kernel
def visB(sc:Scope)(x:Str):Bool:=match sc.names.lookup x with
 | some .local=>true
 | some .cell=>true
 | some .free=>true
 | _=>false
¶Ik{sc:Scope}{x:Str}(h:visB sc x=true):Vis sc x:=by
 unfold visB at h
 unfold Vis
 split at h
 ·rename_i e;~.inl e
 ·rename_i e;~.inr (.inl e)
 ·rename_i e;~.inr (.inr e)
 ·cases h
def MZ(sc:Scope)(x:Str):Bool:=match sc.names.lookup x with
 | some .local=>true
 | some .cell=>true
 | _=>false
¶DZ{sc:Scope}{x:Str}(h:MZ sc x=true):Loc sc x:=by
 unfold MZ at h
 unfold Loc
 split at h
 ·rename_i e;~.inl e
 ·rename_i e;~.inr e
 ·cases h
structure HE(X:Cx)(e:Expr)(t:DTE):Prop where
 ok:DE X e t
structure HT(X:Cx)(e:Expr)(t:DTT):Prop where
 ok:DT X e t
structure HW(X:Cx)(e:Expr)(t:DTT):Prop where
 ok:DW X e t
structure HA(X:Cx)(es:List Expr)(t:DTA):Prop where
 ok:DA X es t
structure HS(X:Cx)(e:Stmt)(t:DTS):Prop where
 ok:DS X e t
structure HB(X:Cx)(e:List Stmt)(t:DTS):Prop where
 ok:DSs X e t
structure HG(X:Cx)(e:Expr)(t:DTG):Prop where
 ok:DG X e t
structure HI(X:Cx)(tg e:Expr)(t:DTI):Prop where
 ok:DI X tg e t
structure HTs(X:Cx)(e:List Expr)(t:DTT):Prop where
 ok:PTs X e (lowT X.K t)
structure HO'(X:Cx)(e:Option Expr)(t:DTO):Prop where
 ok:PO X e (MY X.K t)
structure HOp(X:Cx)(f:Value->Value->Sem Value)(r:DR2):Prop where
 ok:OpD X f r
structure HUn(X:Cx)(f:Value->Sem Value)(r:DR1):Prop where
 ok:UnD X f r
structure HC(X:Cx)(f:Value)(r:DRA):Prop where
 ok:mh X f r
structure HMs(X:Cx)(name:Str)(r:Str->DRA):Prop where
 ok:∃id,Slot "str" name id/\typeOf (.builtin id)=pure (.type "method_descriptor")/\MtR X id (GK X.K r)
structure HMl(X:Cx)(name:Str)(r:Nat->DRA):Prop where
 ok:∃id,Slot "list" name id/\typeOf (.builtin id)=pure (.type "method_descriptor")/\MtR X id (DR X.K r)
section
variable{X:Cx}{e a b c o:Expr}{es bn:List Expr}{te ta tb tc to:DTE}{t:DTA}{pos p:Pos}{x:Str}{tA tB:DTT}{k:Nat}
¶ac{i:Nat}(hN:X.N[i]?=some x:=by kernel_rfl)(hv:visB X.env.scope x=true:=by kernel_rfl)(hd:(x==("__debug__":Str))=false:=by kernel_rfl)
  (hcd:(x==("__classdict__":Str))=false:=by kernel_rfl):HE X (.Name x pos) (af i):=⟨d_var hN (Ik hv) hd hcd⟩
¶ae{i:Int}{j:Nat}:HE X (.Constant (.int i) j pos) (dC (.int i)):=⟨d_int⟩
¶jr{i:Bool}{j:Nat}:HE X (.Constant (.bool i) j pos) (dC (.bl i)):=⟨d_bl⟩
¶Hb{j:Nat}:HE X (.Constant .none j pos) (dC .non):=⟨d_non⟩
¶aY{i:Str}{j:Nat}:HE X (.Constant (.str i) j pos) (dC (.str i)):=⟨d_str⟩
¶sw{i:Int}(hm:∃t,X.mg x=some (.int i t))(hg:X.env.kindOf x=some .globalImplicit:=by kernel_rfl)(hb:(x==("__debug__":Str))=false:=by kernel_rfl):HE X (.Name x pos) (dC (.int i)):=⟨Lh hm hg hb⟩
¶bq{T:String}(hm:X.mg x=none)(hv:bootBuiltins x=some (.type T))(hg:X.env.kindOf x=some .globalImplicit:=by kernel_rfl)(hn:(x==("__name__":Str))=false:=by kernel_rfl)(hb:(x==("__debug__":Str))=false:=by kernel_rfl):HE X (.Name x pos) (dC (.ty T)) :=
 ⟨Og hm hv hg (by simpa using hn) hb⟩
¶bO{op:Operator}{r:DR2}(ho:HOp X (binaryOp op) r)(ha:HE X a ta)(hb:HE X b tb):HE X (.BinOp a op b pos) (dOp r ta tb):=⟨d_op ho.ok ha.ok hb.ok⟩
¶k_un{op:UnaryOp}{r:DR1}(ho:HUn X (unaryOp op) r)(ha:HE X a ta):HE X (.UnaryOp op a pos) (dUn r ta):=⟨d_un ho.ok ha.ok⟩
¶er{op:CmpOp}{r:DR2}(ho:HOp X (compareOp op) r)(ha:HE X a ta)(hb:HE X b tb)(hm:behindInMarks op b=false:=by kernel_rfl):HE X (.Compare a [op] [b] pos) (dOp r ta tb):=⟨d_cmp ho.ok ha.ok hb.ok hm⟩
¶aE{op:CmpOp}{r:DR2}(ho:HOp X (compareOp op) r)(ha:HE X a ta)(hb:HE X b tb)(hm:behindInMarks op b=false:=by kernel_rfl):HT X (.Compare a [op] [b] pos) (az (dOp r ta tb)):=⟨NS ho.ok ha.ok hb.ok hm⟩
¶oB{op op':CmpOp}{r r':DR2}(ho:HOp X (compareOp op) r)(ho':HOp X (compareOp op') r')(ha:HE X a ta)(hb:HE X b tb)(hc:HE X c tc)(hm:lastMarks [op,op'] [b,c]=false:=by kernel_rfl) :
  HE X (.Compare a [op,op'] [b,c] pos) (eN r r' ta tb tc):=⟨Lj ho.ok ho'.ok ha.ok hb.ok hc.ok hm⟩
¶sn{op op':CmpOp}{r r':DR2}(ho:HOp X (compareOp op) r)(ho':HOp X (compareOp op') r')(ha:HE X a ta)(hb:HE X b tb)(hc:HE X c tc)(hm:lastMarks [op,op'] [b,c]=false:=by kernel_rfl) :
  HT X (.Compare a [op,op'] [b,c] pos) (az (eN r r' ta tb tc)):=⟨Hv ho.ok ho'.ok ha.ok hb.ok hc.ok hm⟩
¶bm(h:HE X e te)(he:∀whole,isTrue e X.env whole=(do let v ←whole;standAt e.pos;holding [v] (truthy v)):=by intro _;kernel_rfl):HT X e (az te):=⟨NQ h.ok he⟩
¶kT(ha:HT X a tA):HW X (.BoolOp .And [a] pos) tA:=⟨KJ ha.ok⟩
¶dZ(ha:HT X a tA):HW X (.BoolOp .Or [a] pos) tA:=⟨NO ha.ok⟩
¶qD(ha:HT X a tA)(hb:HW X (.BoolOp .And (b::bn) pos) tB):HW X (.BoolOp .And (a::b::bn) pos) (Fb tA tB):=⟨NP ha.ok hb.ok⟩
¶eS(ha:HT X a tA)(hb:HW X (.BoolOp .Or (b::bn) pos) tB):HW X (.BoolOp .Or (a::b::bn) pos) (dOr tA tB):=⟨dw_or ha.ok hb.ok⟩
¶pS(h:HW X e tA):HT X e tA:=⟨dw_t h.ok⟩
¶bj(ha:HT X a tA):HT X (.UnaryOp .Not a pos) (gi tA):=⟨NR ha.ok⟩
¶da{op}(h:HE X a ta):HE X (.BoolOp op [a] pos) ta:=⟨d_one h.ok⟩
¶cB(ha:HE X a ta)(hb:HE X (.BoolOp .And (b::bn) pos) tb):HE X (.BoolOp .And (a::b::bn) pos) (bV ta tb):=⟨d_and ha.ok hb.ok⟩
¶k_or(ha:HE X a ta)(hb:HE X (.BoolOp .Or (b::bn) pos) tb):HE X (.BoolOp .Or (a::b::bn) pos) (Oj ta tb):=⟨d_or ha.ok hb.ok⟩
¶Nm(ha:HE X a ta):HE X (.UnaryOp .Not a pos) (Fa ta):=⟨d_not ha.ok⟩
¶ad:HA X [] ao:=⟨Of⟩
¶aa(ha:HE X e te)(hr:HA X es t)(hs:starEach (e::es) X.env=(false,eval e X.env)::starEach es X.env:=by kernel_rfl):HA X (e::es) (ab te t):=⟨Lf ha.ok hr.ok hs⟩
¶ck{x1}(h:HA X es t):HE X (.Tuple es x1 pos) (gh t):=⟨d_tup h.ok⟩
¶cq(h:HA X es t):HE X (.List es pos) (gf t):=⟨d_lst h.ok⟩
¶av{id:String}{r:DRA}(hc:HC X (.builtin id) r)(hm:X.mg x=none)(hv:bootBuiltins x=some (.builtin id))(ha:HA X (e::es) t)(hg:X.env.kindOf x=some .globalImplicit:=by kernel_rfl)(hn:(x==("__name__":Str))=false:=by kernel_rfl)(hdb:(x==("__debug__":Str))=false:=by kernel_rfl)
  (he:starEach (e::es) X.env=(false,eval e X.env)::starEach es X.env:=by kernel_rfl) (hpl:(backTo pos (starEach es X.env)).any (·.1)=false:=by kernel_rfl):HE X (.Call (.Name x p) (e::es) [] pos) (dCB r t):=⟨Lk hc.ok hm hv ha.ok hg (by simpa using hn) hdb he hpl⟩
¶eK{T:String}{r:DRA}(hc:HC X (.type T) r)(hm:X.mg x=none)(hv:bootBuiltins x=some (.type T))(ha:HA X (e::es) t)(hg:X.env.kindOf x=some .globalImplicit:=by kernel_rfl)(hn:(x==("__name__":Str))=false:=by kernel_rfl)(hdb:(x==("__debug__":Str))=false:=by kernel_rfl)
  (he:starEach (e::es) X.env=(false,eval e X.env)::starEach es X.env:=by kernel_rfl) (hpl:(backTo pos (starEach es X.env)).any (·.1)=false:=by kernel_rfl):HE X (.Call (.Name x p) (e::es) [] pos) (dCB r t):=⟨HQ hc.ok hm hv ha.ok hg (by simpa using hn) hdb he hpl⟩
¶ar{j k:Nat}{ps:List Str}{P:DSp}(C:Cal X.prog X.w X.K X.mg X.base j x ps P)(hr:Room k X.A)(ha:HA X (e::es) t)(hj:Nat.ble j k=true:=by kernel_rfl)
  (hg:X.env.kindOf x=some .globalImplicit:=by kernel_rfl) (hdb:(x==("__debug__":Str))=false:=by kernel_rfl) (he:starEach (e::es) X.env=(false,eval e X.env)::starEach es X.env:=by kernel_rfl) (hpl:(backTo pos (starEach es X.env)).any (·.1)=false:=by kernel_rfl) :
  HE X (.Call (.Name x p) (e::es) [] pos) (dCB P t):=⟨d_cal C hr ha.ok (Nat.le_of_ble_eq_true hj) hg hdb he hpl⟩
¶aX(ha:HE X a ta)(hb:HE X b tb)(hs:sX b:=by intro _ _;kernel_rfl):HE X (.Subscript a b pos) (dOp qIx ta tb):=⟨d_ix ha.ok hb.ok hs⟩
¶bT:HO' X none bA:=⟨KU⟩
¶bt(h:HE X e te):HO' X (some e) (dq te):=⟨KR h.ok⟩
¶bF{lo hi:Option Expr}{tl th:DTO}{p2:Pos}(he:HE X e te)(hl:HO' X lo tl)(hu:HO' X hi th):HE X (.Subscript e (.Slice lo hi none p2) pos) (dSl te tl th):=⟨Lg he.ok hl.ok hu.ok⟩
variable{name:Str}{apos cpos:Pos}
¶k_ms{r:Str->DRA}(hm:HMs X name r)(ho:HE X o to)(ha:HA X (e::es) t)
  (hbase:attributeBase o name X.env (eval o X.env)=eval o X.env:=by kernel_rfl)
  (hfew:((backTo cpos (starEach (e::es) X.env)).all (λx=>!x.1)&&(backToKw cpos (keywordEach [] X.env)).all (λx=>x.1.isSome)
   && decide ((e::es).length+([]:List Keyword).length+(if ([]:List Keyword).isEmpty then 0 else 1)<30))=true:=by kernel_rfl)
  (hline:(apos.endLine==cpos.line)=true:=by kernel_rfl) (hs:starEach (e::es) X.env=(false,eval e X.env)::starEach es X.env:=by kernel_rfl) (hplain:(backTo cpos (starEach es X.env)).any (·.1)=false:=by kernel_rfl) :
  HE X (.Call (.Attribute o name apos) (e::es) [] cpos) (dMs r to t):=let ⟨_,h1,h2,h3⟩:=hm.ok;⟨d_ms h1 h2 h3 ho.ok ha.ok hbase hfew hline hs hplain⟩
¶LB{r:Nat->DRA}(hm:HMl X name r)(ho:HE X o to)(ha:HA X (e::es) t)
  (hbase:attributeBase o name X.env (eval o X.env)=eval o X.env:=by kernel_rfl)
  (hfew:((backTo cpos (starEach (e::es) X.env)).all (λx=>!x.1)&&(backToKw cpos (keywordEach [] X.env)).all (λx=>x.1.isSome)
   && decide ((e::es).length+([]:List Keyword).length+(if ([]:List Keyword).isEmpty then 0 else 1)<30))=true:=by kernel_rfl)
  (hline:(apos.endLine==cpos.line)=true:=by kernel_rfl) (hs:starEach (e::es) X.env=(false,eval e X.env)::starEach es X.env:=by kernel_rfl) (hplain:(backTo cpos (starEach es X.env)).any (·.1)=false:=by kernel_rfl) :
  HE X (.Call (.Attribute o name apos) (e::es) [] cpos) (dMl r to t):=let ⟨_,h1,h2,h3⟩:=hm.ok;⟨d_ml h1 h2 h3 ho.ok ha.ok hbase hfew hline hs hplain⟩
variable{st:Stmt}{sts:List Stmt}{ts us:DTS}{aS bS:List Stmt}
¶aB:HB X [] aO:=⟨NW⟩
¶al(h:HS X st ts):HB X [st] ts:=⟨NV h.ok⟩
¶ah(h1:HS X st ts)(h2:HB X sts us):HB X (st::sts) (aR ts us):=⟨KP h1.ok h2.ok⟩
¶oA(he:HE X e te)(hs:swapsWith e none pos.line X.env=pure false:=by kernel_rfl):HS X (.Expr e pos) (wg te):=⟨KN he.ok hs⟩
¶am(he:HE X e te):HS X (.Return (some e) pos) (aU te):=⟨NU he.ok⟩
¶aP(hc:HT X c tA)(ha:HB X aS ts)(hb:HB X bS us):HS X (.If c aS bS pos) (dIf tA ts us):=⟨ds_if hc.ok ha.ok hb.ok⟩
¶aN{i:Nat}{pos':Pos}(hN:X.N.Nodup)(he:HE X e te)(hi:X.N[i]?=some x:=by kernel_rfl)(hx:MZ X.env.scope x=true:=by kernel_rfl)(hs:swapsWith e (some (.Name x pos')) pos.line X.env=pure false:=by kernel_rfl)
  (hf:X.fn x=true:=by kernel_rfl):HS X (.Assign [.Name x pos'] e pos) (db te i):=⟨NT hN he.ok hi (DZ hx) hs (.inl hf)⟩
¶cH{i:Nat}(hN:X.N.Nodup)(hi:X.N[i]?=some x:=by kernel_rfl)(hx:MZ X.env.scope x=true:=by kernel_rfl)(hf:X.fn x=true:=by kernel_rfl):HG X (.Name x pos) (aH i):=⟨yD hN hi (DZ hx) (.inl hf)⟩
¶bv{i:Nat}(hN:X.N.Nodup)(hi:X.N[i]?=some x:=by kernel_rfl)(hf:X.env.scope.names.lookup x=some .local:=by kernel_rfl):HG X (.Name x pos) (aH i):=⟨yD hN hi (.inl hf) (.inr hf)⟩
variable{tg iter:Expr}{di:DTI}{g:DTG}
¶ca(h:HE X e te):HI X tg e (cN te):=⟨Ob h.ok⟩
¶hV{body:List Stmt}{tb:DTS}(hi:HI X tg iter di)(hg:HG X tg g)(hb:HB X body tb)(hp:PassesOwn (model X.prog X.w) X.A X.env X.xe:=by ~PassesOwn.never)(hc:X.calm=true:=by kernel_rfl)
  (hs:∀x,foldedSetIterable iter X.env x=pure x:=by intro _;kernel_rfl):HS X (.For tg iter body [] pos) (yP di g tb):=⟨NX hi.ok hg.ok hb.ok hp hc hs⟩
¶bZ:HTs X [] oV:=⟨KL⟩
¶oz(h:HT X c tA):HTs X [c] tA:=⟨KK h.ok⟩
¶sv{elt:Expr}{ifs:List Expr}{scope:Scope}{N':List Str}{nt:Nat}{js:List Nat}{tt:DTT}{te:DTE}(hi:HI X tg iter di)
  (hg:∀cl s0 H0 ex,HG (blk X N' scope cl s0 H0 ex) tg g) (ht:∀cl s0 H0 ex,HTs (blk X N' scope cl s0 H0 ex) ifs tt) (he:∀cl s0 H0 ex,HE (blk X N' scope cl s0 H0 ex) elt te) (B:Ac X.env.scope.names X.N N' nt js scope=true:=by kernel_rfl) (hc:X.calm=true:=by kernel_rfl)
  (hs:∀x,foldedSetIterable iter X.env x=pure x:=by intro _;kernel_rfl):HE X (.ListComp elt [⟨tg,iter,ifs,0⟩] scope pos) (dLC nt js di g tt te):=⟨d_lc (BlkSc.chk B) hi.ok (λcl s0 H0 ex=>(hg cl s0 H0 ex).ok) (λcl s0 H0 ex=>(ht cl s0 H0 ex).ok) (λcl s0 H0 ex=>(he cl s0 H0 ex).ok) hc hs⟩
¶ef(hm:X.mg "range" = none)(ha:HA X [a] t)(hg:X.env.kindOf "range" = some .globalImplicit:=by kernel_rfl)(hs:starEach [a] X.env=[(false,eval a X.env)]:=by kernel_rfl):HI X tg (.Call (.Name "range" p) [a] [] pos) (eV t):=⟨EQ hm ha.ok hg hs⟩
¶vK(hm:X.mg "range" = none)(ha:HA X [a,b] t)(hg:X.env.kindOf "range" = some .globalImplicit:=by kernel_rfl)(hs:starEach [a,b] X.env=[(false,eval a X.env),(false,eval b X.env)]:=by kernel_rfl)(hs2:starEach [b] X.env=[(false,eval b X.env)]:=by kernel_rfl) :
  HI X tg (.Call (.Name "range" p) [a,b] [] pos) (lg t):=⟨EO hm ha.ok hg hs hs2⟩
¶vO:HOp X (binaryOp .Sub) FE:=⟨MS⟩
¶oG:HOp X (binaryOp .Mult) nJ:=⟨JZ⟩
¶oH:HOp X (binaryOp .FloorDiv) rJ:=⟨Ka⟩
¶jY:HOp X (binaryOp .Mod) AT:=⟨MU⟩
¶sy:HOp X (compareOp .Lt) qLt:=⟨MW⟩
¶kW:HOp X (compareOp .LtE) qLe:=⟨od_le⟩
¶vP:HOp X (compareOp .Gt) qGt:=⟨od_gt⟩
¶Nw:HOp X (compareOp .GtE) qGe:=⟨od_ge⟩
¶Nv:HOp X (compareOp .Is) qIs:=⟨od_is⟩
¶bc(hr:Room k X.A):HOp X (compareOp .Eq) qEq:=⟨od_eq hr⟩
¶pT(hr:Room k X.A):HOp X (compareOp .NotEq) qNe:=⟨od_ne hr⟩
¶Ev(hr:Room k X.A):HOp X (compareOp .In) qIn:=⟨od_in hr⟩
¶Hh(hr:Room k X.A):HOp X (compareOp .NotIn) Dc:=⟨GE hr⟩
¶Nt:HUn X (unaryOp .USub) Mf:=⟨LN⟩
¶bJ:HC X (.builtin "len") jo:=⟨On⟩
¶vQ(hc:X.calm=true:=by kernel_rfl):HC X (.builtin "all") Gg:=⟨Op hc⟩
¶br:HC X (.builtin "isinstance") iq:=⟨Oo⟩
¶IC:HC X (.builtin "ord") Lz:=⟨Om⟩
¶jZ:HMl X "append" gL:=⟨_,PySem.F.slot_list_append,PySem.F.type_list_append,Bk⟩
end
¶Cal.byH{P:Program}{w:World}{K:AA5}{mg:Str->Option Value}{base:Heap}{x:Str}{st:Stmt}{N ps:List Str}{k:Nat}{Pr:DSp}(F:cM K mg x st ps)(Sc:FnScope N ps (ak st))
  (len:∀ds M R,Pr ds M R->ds.length=ps.length) {t:DTS}
  (der:∀(f:Addr) (cdv:Value) (A:Around) (outer:List Env) (s:Shared) (H:Hp) (E:XK),Room k (A.deeper (envOfC x (ak st) s.heap.objs.size f cdv))->HB (BM CX0 P w K mg base N x (ak st) f cdv A outer s H E).nox (cI st) t)
  (wp:∀ds M R,Pr ds M R->t ⟨λ_ M'=>aG M R .non M',aG M R,λ_ _=>False,λ_ _=>False⟩ (cQ N ds) M):Cal P w K mg base (k+1) x ps Pr :=
 Cal.of F Sc len (λf cdv A outer s H E hr=>(der f cdv A outer s H E hr).ok) wp
¶Hr{P:Program}{w:World}{K:AA5}{mg:Str->Option Value}{base:Heap}{x:Str}{st:Stmt}{N ps:List Str}{k:Nat}{Pr:DSp}{f:Addr}{fd:FuncData}(F:Fun K x x st f fd)(Sc:FnScope N ps (ak st))
  (len:∀ds M R,Pr ds M R->ds.length=ps.length) {t:DTS}
  (der:∀(f:Addr) (cdv:Value) (A:Around) (outer:List Env) (s:Shared) (H:Hp) (E:XK),Room k (A.deeper (envOfC x (ak st) s.heap.objs.size f cdv))->HB (BM CX0 P w K mg base N x (ak st) f cdv A outer s H E).nox (cI st) t)
  (wp:∀ds M R,Pr ds M R->t ⟨λ_ M'=>aG M R .non M',aG M R,λ_ _=>False,λ_ _=>False⟩ (cQ N ds) M):FnOk P w K mg base CX0 (k+1) f fd ps (spL K Pr) :=
 KI F Sc len (λf cdv A outer s H E hr=>(der f cdv A outer s H E hr).ok) wp
end L2
namespace L2
open PySem PySem.Spec PyProof.Rows DL
section
variable{ok:Mem->Prop}{g:DTG}{tb:DTS}{E:DEnds}{k0:Mem}
¶ki(I:List D->SD->Mem->Prop)(h0:∀S M,I [] S M->ok M/\E.nx S M)
  (h1:∀x xs S M,I (x::xs) S M->∀L:SD->Mem->Prop,(∀S' M',I xs S' M'->L S' M')->ok M/\g x S M λS2 M2=>tb ⟨Fgt k0 L,E.rt,E.nx,Fgt k0 L⟩ S2 M2) :
  ∀xs S M,I xs S M->pW ok g tb E k0 xs S M
 | [],S,M,h=>h0 S M h
 | x::xs,S,M,h=>h1 x xs S M h _ (ki I h0 h1 xs)
¶eL{xs:List D}(I:Nat->SD->Mem->Prop)(h0:∀S M,I xs.length S M->ok M/\E.nx S M)
  (h1:∀i x S M,xs[i]?=some x->I i S M->∀L:SD->Mem->Prop,(∀S' M',I (i+1) S' M'->L S' M')->ok M/\g x S M λS2 M2=>tb ⟨Fgt k0 L,E.rt,E.nx,Fgt k0 L⟩ S2 M2)
  {S:SD}{M:Mem} (h:I 0 S M):pW ok g tb E k0 xs S M:=by
 !ki (λys S M=>∃i,xs.drop i=ys/\i+ys.length=xs.length/\I i S M) ?_ ?_ xs S M ⟨0,rfl,by simp,h⟩
 ·rintro S M ⟨i,_,e,q⟩
  have:i=xs.length:=by simpa using e
  subst this
  ~h0 S M q
 ·rintro x ys S M ⟨i,e,el,q⟩ L hL
  have hx:xs[i]?=some x:=by
   have:(xs.drop i)[0]?=some x:=by rw[e];rfl
   simpa using this
  !h1 i x S M hx q L λS' M' q'=>hL S' M' ⟨i+1,?_,by simp at el;&,q'⟩
  rw[←List.drop_drop,e]
  rfl
¶Fgt.now{P:SD->Mem->Prop}{S:SD}{M:Mem}(h:P S M):Fgt k0 P S M:=.inl h
¶jJ{lo:Int}{n i:Nat}{x:D}:(tj lo n)[i]?=some x↔i<n/\x=.int (lo+(i:Int)):=by
 unfold tj
 rw[AAU]
 by_cases h:i<n
 ·simp[h,eq_comm]
 ·simp[h]
¶eJ{lo:Int}{n:Nat}:(tj lo n).length=n:=by simp[tj]
end
¶cS{ok:Mem->Prop}{g:DTG}{tt:DTT}{te:DTE}{Q:DK}{M:Mem}(p:D->Bool)(f:D->D)(I:SD->Prop)(hok:ok M) :
  ∀(xs acc:List D) (S:SD),(∀x∈xs,∀S,I S->∃S',I S'/\∀(Y:D->SD->Mem->Prop) (Z:SD->Mem->Prop),(if p x=true then Y (f x) S' M else Z S' M) ->
    g x S M λS2 M2=>tt S2 M2 λb M3=>if b=true then te S2 M3 λy M4=>Y y S2 M4 else Z S2 M3) ->
   I S->acc.length+xs.length<=sizeLine->Q (.ref M.length) (M++[.lst (acc++(xs.filter p).map f)])->oW ok g tt te Q xs acc S M
 | [],acc,S,_,_,_,q=>⟨hok,by simpa using q⟩
 | x::xs,acc,S,step,hS,hl,q=>by
  #⟨S',hS',k⟩:=step x AAI S hS
  !⟨hok,k (λy S2 M4=>acc.length<sizeLine/\oW ok g tt te Q xs (acc++[y]) S2 M4) (λS2 M3=>oW ok g tt te Q xs acc S2 M3) ?_⟩
  have step':=λy hy=>step y (AA9 _ hy)
  rw[AAA]at hl
  by_cases hp:p x=true
  ·rw[if_pos hp]
   !⟨¤,cS p f I hok xs _ S' step' hS' (by rw[AA8,AAX];&) ?_⟩
   rw[List.filter_cons_of_pos hp,AAL]at q
   rw[ABT]
   ~q
  ·rw[if_neg hp]
   !cS p f I hok xs acc S' step' hS' ¤ ?_
   rw[List.filter_cons_of_neg hp]at q
   ~q
¶cv{ok:Mem->Prop}{g:DTG}{te:DTE}{Q:DK}{M:Mem}(f:D->D)(I:SD->Prop)(hok:ok M)
  (xs acc:List D) (S:SD) (step:∀x∈xs,∀S,I S->∃S',I S'/\∀(Y:D->SD->Mem->Prop),Y (f x) S' M->g x S M λS2 M2=>te S2 M2 λy M4=>Y y S2 M4)
  (hS:I S) (hl:acc.length+xs.length<=sizeLine) (q:Q (.ref M.length) (M++[.lst (acc++xs.map f)])):oW ok g oV te Q xs acc S M:=by
 !cS (λ_=>true) f I hok xs acc S (λx hx S hS=>?_) hS hl (by rw[List.filter_eq_self.mpr λ_ _=>rfl];~q)
 #⟨S',hS',k⟩:=step x hx S hS
 !⟨S',hS',λY Z h=>?_⟩
 rw[if_pos rfl]at h
 have:=k Y h
 simp only[oV,if_true]
 ~this
¶bo{M:Mem}{mo:MO}:(M++[mo])[M.length]?=some mo:=by simp
¶ax{M:Mem}{xs:List D}:aA (M++[.lst xs]) M.length xs:=.inl bo
¶aA.more{M:Mem}{n:Nat}{xs:List D}(h:aA M n xs)(L:Mem):aA (M++L) n xs:=by
 have key:∀{mo:MO},M[n]?=some mo->(M++L)[n]?=some mo:=λe=>by
  rw[AAJ (AA2.mp e).1];~e
 rcases h with h | h | h
 ·~.inl (key h)
 ·~.inr (.inl (key h))
 ·~.inr (.inr (key h))
¶aA.ty{M:Mem}{n:Nat}{xs:List D}(h:aA M n xs):tyD M (.ref n) = "list":=by
 show (match M[n]? with | some mo=>if mo.isL=true then "list" else "?" | none=>"?") = "list"
 rcases h with h | h | h<;>(rw[h];rfl)
¶aG.keep{M M':Mem}{R:DK}{d:D}(h:R d M)(b:Bel M.length d)(p:M <+: M'):aG M R d M':=.inr (.inl ⟨M,.refl,b,p,h⟩)
¶aG.now{M:Mem}{R:DK}{d:D}(h:R d M):aG M R d M:=.inl h
¶aG.bl{M M':Mem}{R:DK}{b:Bool}(h:R (.bl b) M)(p:M <+: M'):aG M R (.bl b) M':=.keep h (.bl b) p
¶rM{M:Mem}{mo:MO}:M <+: M++[mo]:=ABK _ _
¶Cw{a b:Str}(h:a.cps.toList=b.cps.toList):a=b:=by
 cases a;cases b
 simp only[Array.toList_inj]at h
 simpa using h
¶aQ{a:Str}:a.length=a.cps.toList.length:=by show a.cps.size=_;simp
¶eD{a b:Str}:(a++b).cps.toList=a.cps.toList++b.cps.toList:=by
 show (a.cps++b.cps).toList=_
 simp
¶Lu{a b:Str}:(a++b).length=a.length+b.length:=by
 rw[aQ,aQ,aQ,eD,AA8]
¶Dx{c:Nat}:(⟨#[c]⟩:Str).length=1:=rfl
¶aC{n:Nat}(h:n<=1000):n<=sizeLine:=AEJ (small1000 h)
¶glob_mk{K:AA5}{h:Heap}{mg:Str->Option Value}{x:Str}{u:Value}{i:Int}(X:K.In h)(G:h.Ns mainGlobals mg)(a:AD0 K mainGlobals x=some (some u))(b:∃t,u=Value.int i t):∃t,mg x=some (.int i t):=by
 #⟨t,rfl⟩:=b
 ~⟨t,PySem.W.mg_of X G a⟩
¶gg{α:Type}{xs:List α}{i:Int}(h0:0<=i)(h1:i<xs.length):∃(j:Nat) (hj:j<xs.length),atI xs i=some xs[j]/\(j:Int)=i:=by
 have hj:i.toNat<xs.length:=¤
 !⟨i.toNat,hj,?_,¤⟩
 have e:i=((i.toNat:Nat):Int):=¤
 have q:atI xs ((i.toNat:Nat):Int)=some xs[i.toNat]:=bG (AA7 hj)
 rw[←e]at q
 ~q
def oZ(M:Mem)(d:D):Prop:=tyD M d∈pG/\∀x,d=.str x->x.length<=sizeLine
section
variable{M:Mem}
¶Ca:oZ M .non:=⟨by simp[tyD,pG],λ_ h=>by cases h⟩
¶FX{b:Bool}:oZ M (.bl b):=⟨by simp[tyD,pG],λ_ h=>by cases h⟩
¶Cb{b:Int}:oZ M (.int b):=⟨by simp[tyD,pG],λ_ h=>by cases h⟩
¶BX{b:List D}:oZ M (.tup b):=⟨by simp[tyD,pG],λ_ h=>by cases h⟩
¶BY{x:Str}(h:x.length<=1000):oZ M (.str x):=⟨by simp[tyD,pG],λ_ e=>by cases e;~aC h⟩
¶BZ{n:Nat}{xs:List D}(h:aA M n xs):oZ M (.ref n):=⟨by rw[h.ty];simp[pG],λ_ e=>by cases e⟩
¶bW{n:Nat}(h:tyD M (.ref n)∈pG):tyD M (.ref n) = "list":=by
 unfold tyD at h ⊢
 try dsimp only at h ⊢
 cases e:M[n]? with
 | some mo =>
  rw[e]at h
  cases q:mo.isL with
  | true=>~if_pos q
  | false =>
   simp only[q,AAF,if_false]at h
   ~absurd h (by decide)
 | none=>rw[e]at h;~absurd h (by decide)
end
section
variable{M:Mem}
¶aA.get{n:Nat}{xs:List D}(h:aA M n xs):∃mo,M[n]?=some mo/\mo.items=xs/\mo.isL=true:=by
 rcases h with h | h | h<;>~⟨_,h,rfl,rfl⟩
¶sE{i j n:Nat}{xs ys:List D}(h1:aA M i xs)(h2:aA M j ys):eqD M (n+1) (.ref i) (.ref j)=eqL (eqD M n) xs ys:=by
 #⟨a,ha,rfl,hl1⟩:=h1.get
 #⟨b,hb,rfl,hl2⟩:=h2.get
 simp only[eqD,ha,hb]
¶kP{i n:Nat}{xs:List D}(h1:aA M i xs)(h:∀x∈xs,okD M n x=true):okD M (n+1) (.ref i)=true:=by
 #⟨a,ha,rfl,hl1⟩:=h1.get
 simp only[okD,ha,hl1,AAx]
 ~AAK.mpr h
¶DF{n:Nat}{xs:List D}(h:∀x∈xs,okD M n x=true):okD M (n+1) (.tup xs)=true:=by
 simp only[okD]
 ~AAK.mpr h
¶aM{n:Nat}{x:Str}:okD M n (.str x)=true:=by cases n<;>rfl
¶aw{n:Nat}{x:Int}:okD M n (.int x)=true:=by cases n<;>rfl
¶qx{n:Nat}{x:Bool}:okD M n (.bl x)=true:=by cases n<;>rfl
¶rQ{n:Nat}:okD M n .non=true:=by cases n<;>rfl
¶EI{f:D->D->Bool}{xs:List D}:eqL f xs []=xs.isEmpty:=by cases xs<;>rfl
¶NL{n:Nat}{a b:Bool}:eqD M n (.bl a) (.bl b)=(a==b):=by cases n<;>rfl
¶bU{n:Nat}{a b:Int}:eqD M n (.int a) (.int b)=(a==b):=by cases n<;>rfl
¶cx{n:Nat}{a b:Str}:eqD M n (.str a) (.str b)=(a==b):=by cases n<;>rfl
end
def chD:D->Nat
 | .str x=>x.cps.toList.headD 0
 | _=>0
¶Ff{c:Nat}:chD (.str ⟨#[c]⟩)=c:=rfl
¶jI{x:Str}{d:D}(h:d∈signs x):∃c∈x.cps.toList,d=.str ⟨#[c]⟩:=by
 #⟨c,hc,rfl⟩:=AAN.mp h
 ~⟨c,hc,rfl⟩
¶uA{x:Str}:(signs x).length=x.length:=by rw[aQ];simp[signs]
end L2
namespace L2
open PySem PySem.Spec PyProof.Rows DL
section
variable{X:Cx}{pos:Pos}
def iG:FH:=λds S M Q=>match ds with
 | []=>Q S M
 | _=>False
def bw(t:DTG)(u:FH):FH:=λds S M Q=>match ds with
 | d::r=>t d S M λS' M'=>u r S' M' Q
 | []=>False
def iF(n:Nat)(t:FH):DTG:=λd S M Q=>match d with
 | .tup ds=>ds.length=n/\t ds S M Q
 | _=>False
¶KW:DGs X [] iG:=by
 intro pins s σ H vs us R I r ⟨ds,S,M,ρ,Q,sm,sr,rr,q,k⟩
 cases rr with
 | nil=>~JH pins s σ H _ us R I r ⟨rfl,k σ H ⟨S,M,ρ,sm,.refl,sr,q⟩⟩
 | cons _ _=>~q.elim
¶Hz{e:Expr}{es:List Expr}{t:DTG}{u:FH}(h1:DG X e t)(h2:DGs X es u)
  (hs:(assignEach (e::es) X.env).map (·.2)=assign e X.env::(assignEach es X.env).map (·.2):=by rfl):DGs X (e::es) (bw t u):=by
 intro pins s σ H vs us R I r ⟨ds,S,M,ρ,Q,sm,sr,rr,q,k⟩
 cases rr with
 | nil=>~q.elim
 | cons r1 rr =>
  !Gp h1 h2 hs pins s σ H _ us R I r ⟨_,_,rfl,_,S,M,ρ,_,sm,sr,r1,q,λσ1 H1 ⟨S1,M1,ρ1,s1,g1,sr1,q1⟩=>?_⟩
  ~⟨_,S1,M1,ρ1,Q,s1,sr1,rr.grow g1,q1,λσ' H' w=>k σ' H' (SQ.trans g1 w)⟩
¶Oc{es:List Expr}{j n:Nat}{t:FH}(h:DGs X es t)(hc:X.calm=true:=by rfl)
  (hn:(assignEach es X.env).length=n:=by rfl) (hst:(assignEach es X.env).findIdx? (·.1)=none:=by rfl):DG X (.Tuple es j pos) (iF n t):=by
 intro pins s σ H v u R I r ⟨d,S,M,ρ,Q,sm,sr,rd,q,k⟩
 cases rd with
 | tup hq rr=>~Ms hc h hn hst pins s σ H _ u R I r ⟨_,_,rfl,hq,by rw[←rr.length];~q.1,_,S,M,ρ,Q,sm,sr,rr,q.2,k⟩
 | _=>~q.elim
def dAsg(te:DTE)(g:DTG):DTS:=λE S M=>te S M λd M1=>g d S M1 E.nx
¶NY{tg e:Expr}{te:DTE}{g:DTG}(he:DE X e te)(hg:DG X tg g)(hs:swapsWithSole [tg] e pos.line X.env=pure false:=by rfl)(hw:swappedStores [tg] e X.env=pure none:=by rfl)
  (h1:(assignEach [tg] X.env).map (·.2)=[assign tg X.env]:=by rfl):DS X (.Assign [tg] e pos) (dAsg te g) :=
 PS.imp (Mq he hg hs hw h1) λE σ H ⟨S,M,ρ,F,s,sr,q,k⟩=>⟨S,M,ρ,_,s,sr,q,λv H1 ⟨d,M1,ρ1,s1,g1,r1,q1⟩=>⟨d,S,M1,ρ1,_,s1,sr.grow g1,r1,q1,λσ' H' w=>k.nx σ' H' (SQ.trans g1 w)⟩⟩
def qSet:D->D->D->Mem->(Mem->Prop)->Prop:=λo i v M Q=>match o,i with
 | .ref n,.int k=>∃xs j,M[n]?=some (.lst xs)/\ixN xs.length k=some j/\Q (M.set n (.lst (xs.set j v)))
 | _,_=>False
¶Reps.set{K:AA5}{ρ:List Addr}{H:Hp}{d:D}{v:V}(r:Rep K ρ H d v):∀{ds:List D}{vs:List V} (i:Nat),Reps K ρ H ds vs->Reps K ρ H (ds.set i d) (vs.set i v)
 | _,_,_,.nil=>.nil
 | _,_,0,.cons _ t=>.cons r t
 | _,_,i+1,.cons q t=>.cons q (Reps.set r i t)
def HD(to ti:DTE):DTG:=λv S M Q=>to S M λo M1=>ti S M1 λi M2=>qSet o i v M2 λM3=>Q S M3
¶Od{o i:Expr}{to ti:DTE}(ho:DE X o to)(hi:DE X i ti)
  (ha:∀v,assign (.Subscript o i pos) X.env v=(do
   let ov ←holding [v] (eval o X.env)
   let iv ←holding [v,ov] (eval i X.env)
   standAt pos
   holding [v,ov,iv] (setItem ov iv v)
   release [v,ov,iv] []):=by intro _;rfl):DG X (.Subscript o i pos) (HD to ti):=by
 intro pins s σ H v u R I r ⟨d,S,M,ρ,Q,sm,sr,rd,q,k⟩
 !Mt ho hi Gb ha pins s σ H v u R I r ⟨S,M,ρ,_,sm,sr,q,λvo H1 ⟨o',M1,ρ1,s1,g1,r1,q1⟩=>⟨S,M1,ρ1,_,s1,sr.grow g1,q1,λvi H2 ⟨i',M2,ρ2,s2,g2,r2,q2⟩=>?_⟩⟩
 have r1':=r1.grow g2
 cases r1' with
 | @ref n a hn =>
  cases r2 with
  | int j =>
   #⟨xs,jj,e,hj,q3⟩:=(show ∃xs j',M2[n]?=some (.lst xs)/\ixN xs.length j=some j'/\Q S (M2.set n (.lst (xs.set j' d)))from q2)
   #⟨vs,hH,rr⟩:=s2.obj n a _ hn e
   #⟨w1,w2⟩:=s2.write hn e hH (Reps.set (rd.grow (g1.trans g2)) jj rr)
   ~⟨a,vs,j,jj,rfl,rfl,hH,by rw[←rr.length];~hj,k σ _ ⟨S,_,ρ2,w1,(g1.trans g2).trans w2,sr.grow ((g1.trans g2).trans w2),q3⟩⟩
  | _=>~q2.elim
 | _=>~q2.elim
def Dd:DRA:=λds M Q=>match ds with
 | [.ref n]=>∃xs,aA M n xs/\Q (.ref M.length) (M++[.lst xs])
 | [.tup xs]=>Q (.ref M.length) (M++[.lst xs])
 | _=>False
¶Ln:mh X (.type "list") Dd:=by
 !fY.imp wn λvs H R ⟨ds,M,ρ,Q,sm,rs,q,k⟩=>?_
 unfold Dd at q
 split at q
 ·#⟨xs,hL,q⟩:=q
  first | have hzz:=Reps.inv_cons rs | have hzz:=aL.inv_cons rs
  clear rs
  #⟨_,_,rfl,r1,rs⟩:=hzz
  cases rs
  #⟨_,rfl,e⟩:=Rep.inv_ref r1
  #⟨ws,hq,r⟩:=aA.seq sm hL e
  ~⟨_,ws,rfl,.inl hq,λl hl=>k _ _ (VQ.laidL sm .refl r hl q)⟩
 ·first | have hzz:=Reps.inv_cons rs | have hzz:=aL.inv_cons rs
  clear rs
  #⟨_,_,rfl,r1,rs⟩:=hzz
  cases rs
  cases r1 with
  | tup hq r=>~⟨_,_,rfl,.inr hq,λl hl=>k _ _ (VQ.laidL sm .refl r hl q)⟩
 ·~q.elim
def iK:DRA:=λds M Q=>match ds with
 | [.ref n]=>∃xs,aA M n xs/\Q (.tup xs) M
 | [.tup xs]=>Q (.tup xs) M
 | _=>False
¶HY:mh X (.type "tuple") iK:=by
 !fY.imp sV λvs H R ⟨ds,M,ρ,Q,sm,rs,q,k⟩=>?_
 unfold iK at q
 split at q
 ·#⟨xs,hL,q⟩:=q
  first | have hzz:=Reps.inv_cons rs | have hzz:=aL.inv_cons rs
  clear rs
  #⟨_,_,rfl,r1,rs⟩:=hzz
  cases rs
  #⟨_,rfl,e⟩:=Rep.inv_ref r1
  #⟨ws,hq,r⟩:=aA.seq sm hL e
  ~⟨_,ws,rfl,.inl ⟨hq,λl hl=>k _ _ (VQ.laidT sm .refl r hl q)⟩⟩
 ·first | have hzz:=Reps.inv_cons rs | have hzz:=aL.inv_cons rs
  clear rs
  #⟨_,_,rfl,r1,rs⟩:=hzz
  cases rs
  cases r1 with
  | tup hq r=>~⟨_,_,rfl,.inr ⟨hq,k _ H (VQ.now sm (.tup hq r) q)⟩⟩
 ·~q.elim
¶Gw:OpR X (binaryOp .Add) (λx y H Q=>∃a b ys,x=.ref a/\y=.ref b/\SqT X.K H a []/\SqT X.K H b ys/\Q (.ref b) H):=by
 intro pins s σ H x y v u Q I rx ry h
 #⟨a,b,ys,rfl,rfl,ha,hb,q⟩:=h
 cases rx
 cases ry
 #⟨its,r1,p1,_⟩:=I.tuple ha
 #⟨its2,r2,p2,_⟩:=I.tuple hb
 have e:its=[]:=r1.nil_iff.mpr rfl
 subst e
 #⟨⟨cls,dd,data,sl⟩,ho,hc,n,hd⟩:=id p1
 #⟨⟨cls2,dd2,data2,sl2⟩,ho2,hc2,n2,hd2⟩:=id p2
 simp only at hc hd hc2 hd2
 subst hc hd hc2 hd2
 ~concat_meets ⟨_,ho,rfl⟩ ⟨_,ho2,rfl⟩ noFill_tuple_add seq_tuple_add ADh ADY (ADS _ _)
  (tuple_addW0 a b _ _ n n2 dd dd2 sl sl2 (by simp)) ⟨ho,ho2,⟨.ref b,H,I,rfl,q⟩⟩
def bf:DR2:=λx y M Q=>match x,y with
 | .tup xs,.tup ys=>xs.length+ys.length<=sizeLine/\Q (.tup (xs++ys)) M
 | _,_=>qAdd x y M Q
¶Kb:OpD X (binaryOp .Add) bf:=by
 intro pins s σ H vx vy v u R I rx ry ⟨x,y,M,ρ,Q,sm,r1,r2,q,k⟩
 unfold bf at q
 split at q
 ·rename_i xs ys
  #⟨a,vs,rfl,h1,t1⟩:=Rep.inv_tup r1
  #⟨b,ws,rfl,h2,t2⟩:=Rep.inv_tup r2
  have l1:=t1.length
  have l2:=t2.length
  cases xs with
  | nil =>
   cases t1
   ~Gw pins s σ H _ _ v u R I rx ry ⟨a,b,ws,rfl,rfl,h1,h2,k _ H (VQ.now sm (.tup h2 t2) q.2)⟩
  | cons x0 xs0 =>
   !JP pins s σ H _ _ v u R I rx ry ⟨a,b,vs,ws,rfl,rfl,h1,h2,?_,by rw[←l1,←l2];~q.1,λz=>?_,λ_ p hp=>k _ _ (VQ.laidT sm .refl (t1.append t2) hp q.2)⟩
   ·intro z
    subst z
    simp at l1
   ·subst z
    have:ys=[]:=by simpa using l2
    subst this
    rw[ACa]at q
    ~k _ H (VQ.now sm (.tup h1 t1) q.2)
 ·~MX pins s σ H vx vy v u R I rx ry ⟨x,y,M,ρ,Q,sm,r1,r2,q,k⟩
def nN(n:Nat):DRA:=λds M Q=>match ds with
 | [.ref m]=>∃xs ys,M[n]?=some (.lst xs)/\M[m]?=some (.lst ys)/\n≠m/\xs.length+ys.length<=sizeLine/\Q .non (M.set n (.lst (xs++ys)))
 | _=>False
¶Bj:MtR X "list.extend" (DR X.K nN):=by
 intro pins s σ H x xs v us R I rx rs ⟨n,a,ds,M,ρ,Q,ez,hn,sm,rr,q,k⟩
 unfold nN at q
 split at q
 ·rename_i m
  #⟨ys,zs,e,e2,hne,hl,q⟩:=q
  first | have hzz:=Reps.inv_cons rr | have hzz:=aL.inv_cons rr
  clear rr
  #⟨_,_,rfl,r1,rr⟩:=hzz
  cases rr
  #⟨b,rfl,hm⟩:=Rep.inv_ref r1
  #⟨vs,hH,r⟩:=sm.obj n a _ hn e
  #⟨ws,hH2,r2⟩:=sm.obj m b _ hm e2
  #⟨w1,w2⟩:=sm.write hn e hH (r.append r2)
  ~DN pins s σ H x _ v us R I rx rs ⟨a,b,vs,ws,ez,rfl,hH,hH2,by rw[←r.length,←r2.length];~hl,k _ _ ⟨.non,_,ρ,w1,w2,.non,q⟩⟩
 ·~q.elim
end
end L2
namespace Srt
open PySem PySem.W PyProof.Rows
def run{α:Type}(c:Nat->Nat->Bool):KasT α->α
 | .ret a=>a
 | .ask i j k=>run c (k (c i j))
¶ip{α β:Type}{c:Nat->Nat->Bool}{f:α->KasT β}:∀t:KasT α,run c (t.bind f)=run c (f (run c t))
 | .ret a=>rfl
 | .ask i j k=>ip (k (c i j))
def Bd{α:Type}(n:Nat):KasT α->Prop
 | .ret _=>True
 | .ask i j k=>i<n/\j<n/\∀b,Bd n (k b)
def All{α:Type}(P:α->Prop):KasT α->Prop
 | .ret a=>P a
 | .ask _ _ k=>∀b,All P (k b)
¶All.mono{α:Type}{P Q:α->Prop}(h:∀a,P a->Q a):∀t:KasT α,All P t->All Q t
 | .ret a,q=>h a q
 | .ask _ _ k,q=>λb=>All.mono h (k b) (q b)
¶All.bind{α β:Type}{P:β->Prop}{f:α->KasT β}:∀t:KasT α,All (λa=>All P (f a)) t->All P (t.bind f)
 | .ret a,q=>q
 | .ask _ _ k,q=>λb=>All.bind (k b) (q b)
¶Bd.bindA{α β:Type}{n:Nat}{f:α->KasT β}:∀t:KasT α,Bd n t->All (λa=>Bd n (f a)) t->Bd n (t.bind f)
 | .ret a,_,q=>q
 | .ask _ _ k,b,q=>⟨b.1,b.2.1,λx=>Bd.bindA (k x) (b.2.2 x) (q x)⟩
¶All.run{α:Type}{P:α->Prop}{c:Nat->Nat->Bool}:∀t:KasT α,All P t->P (Srt.run c t)
 | .ret a,q=>q
 | .ask i j k,q=>All.run (k (c i j)) (q _)
¶wp_run{α:Type}{cmp:Nat->Nat->(Bool->Shared->Prop)->Shared->Prop}{c:Nat->Nat->Bool}{n:Nat}{s:Shared}{Q:α->Shared->Prop}(hc:∀i j (C:Bool->Shared->Prop),i<n->j<n->C (c i j) s->cmp i j C s) :
  ∀t:KasT α,Bd n t->Q (run c t) s->t.kasWp cmp Q s
 | .ret a,_,q=>q
 | .ask i j k,b,q=>hc i j _ b.1 b.2.1 (wp_run hc (k (c i j)) (b.2.2 _) q)
structure Ord(c:Nat->Nat->Bool):Prop where
 irr:∀a,c a a=false
 tr:∀a b d,c a b=true->c b d=true->c a d=true
 neg:∀a b d,c a d=true->c a b=true\/c b d=true
section
variable{c:Nat->Nat->Bool}(O:Ord c)
def le(c:Nat->Nat->Bool)(a b:Nat):Prop:=c b a=false
¶le_refl(O:Ord c)(a:Nat):le c a a:=O.irr a
¶le_trans(O:Ord c){a b d:Nat}(h1:le c a b)(h2:le c b d):le c a d:=by
 unfold le at *
 cases q:c d a with
 | false=>rfl
 | true =>
  rcases O.neg d b a q with h | h
  ·rw[h2]at h;cases h
  ·rw[h1]at h;cases h
¶le_of_lt(O:Ord c){a b:Nat}(h:c a b=true):le c a b:=by
 unfold le
 cases q:c b a with
 | false=>rfl
 | true=>have:=O.tr a b a h q;rw[O.irr]at this;cases this
abbrev at_(p:Array Nat)(k:Nat):Nat:=p.getD k 0
def Up(c:Nat->Nat->Bool)(p:Array Nat)(m:Nat):Prop:=∀i j,i<=j->j<m->le c (at_ p i) (at_ p j)
def Dn(c:Nat->Nat->Bool)(p:Array Nat)(m:Nat):Prop:=∀i j,i<=j->j<m->le c (at_ p j) (at_ p i)
def Eqs(c:Nat->Nat->Bool)(p:Array Nat)(a b:Nat):Prop:=∀i j,a<=i->i<b->a<=j->j<b->le c (at_ p i) (at_ p j)
¶Up.one(O:Ord c)(p:Array Nat):Up c p 1:=λi j hij hj=>by
 have:i=j:=¤
 subst this;~le_refl O _
¶Up.snoc(O:Ord c){p:Array Nat}{n:Nat}(h:Up c p n)(h1:1<=n)(hl:le c (at_ p (n-1)) (at_ p n)):Up c p (n+1):=λi j hij hj=>by
 by_cases hjn:j<n
 ·~h i j hij hjn
 ·have:j=n:=¤
  subst this
  by_cases hi:i=j
  ·subst hi;~le_refl O _
  ·~le_trans O (h i (j-1) ¤ ¤) hl
¶Dn.snoc(O:Ord c){p:Array Nat}{n:Nat}(h:Dn c p n)(h1:1<=n)(hl:le c (at_ p n) (at_ p (n-1))):Dn c p (n+1):=λi j hij hj=>by
 by_cases hjn:j<n
 ·~h i j hij hjn
 ·have:j=n:=¤
  subst this
  by_cases hi:i=j
  ·subst hi;~le_refl O _
  ·~le_trans O hl (h i (j-1) ¤ ¤)
¶iM{p:Array Nat}{i j:Nat}(hj:j<=p.size)(k:Nat):at_ (AD7 p i j) k=if i<=k/\k<j then at_ p (i+j-1-k)else at_ p k:=by
 have e:=getElem?_mirror_all (xs:=p) (i:=i) hj k
 unfold at_ AD7
 rw[AB8,e]
 by_cases h:i<=k/\k<j
 ·rw[if_pos h,if_pos h,AB8]
 ·rw[if_neg h,if_neg h,AB8]
¶wA{p:Array Nat}{k d:Nat}(hk:k<p.size)(hd:d<=k)(i:Nat):at_ (bubble p k d) i=if i=k-d then at_ p k else if k-d<i/\i<=k then at_ p (i-1)else at_ p i:=by
 have e:=getElem?_bubble (xs:=p) hk d hd i
 unfold at_
 rw[AB8,e]
 by_cases h:i=k-d
 ·rw[if_pos h,if_pos h,AB8]
 ·rw[if_neg h,if_neg h]
  by_cases h':k-d<i/\i<=k
  ·rw[if_pos h',if_pos h',AB8]
  ·rw[if_neg h',if_neg h',AB8]
¶Dn.rev{p:Array Nat}{n:Nat}(h:Dn c p n)(hn:n<=p.size):Up c (AD7 p 0 n) n:=λi j hij hj=>by
 rw[iM hn,iM hn,if_pos ⟨AAT _,¤⟩,if_pos ⟨AAT _,hj⟩]
 ~h _ _ ¤ ¤
¶Dn.revEq(O:Ord c){p:Array Nat}{n a:Nat}(h:Dn c p n)(hn:n<=p.size)(he:Eqs c p a n):Dn c (AD7 p a n) n:=λi j hij hj=>by
 rw[iM hn,iM hn]
 by_cases h1:a<=i/\i<n
 ·by_cases h2:a<=j/\j<n
  ·rw[if_pos h1,if_pos h2]
   ~he _ _ ¤ ¤ ¤ ¤
  ·~absurd ⟨¤,hj⟩ h2
 ·by_cases h2:a<=j/\j<n
  ·rw[if_neg h1,if_pos h2]
   ~h _ _ ¤ ¤
  ·rw[if_neg h1,if_neg h2]
   ~h _ _ hij hj
¶yS(O:Ord c){p:Array Nat}:∀(f n:Nat),1<=n->Up c p n->Up c p (run c (ADp p f n))/\n<=run c (ADp p f n)/\run c (ADp p f n)<=n+f /\
  (run c (ADp p f n)<n+f->c (at_ p (run c (ADp p f n))) (at_ p (run c (ADp p f n)-1))=true)
 | 0,n,_,h=>⟨h,AAC _,AAC _,λz=>absurd z (AAq _)⟩
 | f+1,n,h1,h=>by
  show Up c p (run c (if c (at_ p n) (at_ p (n-1))=true then .ret n else ADp p f (n+1)))/\n<=run c (if c (at_ p n) (at_ p (n-1))=true then .ret n else ADp p f (n+1)) /\
   run c (if c (at_ p n) (at_ p (n-1))=true then .ret n else ADp p f (n+1))<=n+(f+1)/\(run c (if c (at_ p n) (at_ p (n-1))=true then .ret n else ADp p f (n+1))<n+(f+1) ->
    c (at_ p (run c (if c (at_ p n) (at_ p (n-1))=true then .ret n else ADp p f (n+1)))) (at_ p (run c (if c (at_ p n) (at_ p (n-1))=true then .ret n else ADp p f (n+1))-1))=true)
  by_cases q:c (at_ p n) (at_ p (n-1))=true
  ·rw[if_pos q]
   ~⟨h,AAC _,ADN _ _,λ_=>q⟩
  ·rw[if_neg q]
   #⟨a1,a2,a3,a4⟩:=yS O f (n+1) ¤ (h.snoc O h1 (by unfold le;simpa using q))
   ~⟨a1,¤,¤,λz=>a4 ¤⟩
¶fP{p:Array Nat}{i j:Nat}:(AD7 p i j).size=p.size:=mirror_size _ _ _ _
def FD(c:Nat->Nat->Bool)(z n m:Nat)(r:Array Nat×Nat×Nat):Prop:=r.1.size=z/\Dn c r.1 r.2.1/\n<=r.2.1/\r.2.1<=m/\r.2.2+1<=r.2.1/\Eqs c r.1 (r.2.1-(r.2.2+1)) r.2.1
def sZ(c:Nat->Nat->Bool)(z nrem:Nat)(r:Nat×Array Nat):Prop:=r.2.size=z/\Up c r.2 r.1/\1<=r.1/\r.1<=nrem
def yT(c:Nat->Nat->Bool)(p:Array Nat)(k m:Nat):Prop:=m<=k/\(∀i,i<m->le c (at_ p i) (at_ p k))/\∀i,m<=i->i<k->c (at_ p k) (at_ p i)=true
¶mx(O:Ord c):∀(f:Nat) (p:Array Nat) (n q:Nat),q+1<=n->n+f<=p.size->Dn c p n->Eqs c p (n-(q+1)) n ->
  FD c p.size n (n+f) (run c (AC2 f p n q))
 | 0,p,n,q,h1,h2,hd,he=>⟨rfl,hd,AAC _,AAC _,h1,he⟩
 | f+1,p,n,q,h1,h2,hd,he=>by
  have hn:n<=p.size:=¤
  show FD c p.size n (n+(f+1)) (run c (if c (at_ p n) (at_ p (n-1))=true then(if q > 0 then AC2 f (AD7 p (n-(q+1)) n) (n+1) 0 else AC2 f p (n+1) 0)
   else .ask (at_ p (n-1)) (at_ p n) λd=>if d=true then .ret (p,n,q)else AC2 f p (n+1) (q+1)))
  by_cases hc:c (at_ p n) (at_ p (n-1))=true
  ·rw[if_pos hc]
   by_cases hq:q > 0
   ·rw[if_pos hq]
    have hd':Dn c (AD7 p (n-(q+1)) n) (n+1):=by
     !(hd.revEq O hn he).snoc O ¤ ?_
     rw[iM hn,iM hn,if_neg ¤,if_pos ⟨¤,¤⟩]
     ~le_trans O (le_of_lt O hc) (he _ _ ¤ ¤ ¤ ¤)
    have r:=mx O f (AD7 p (n-(q+1)) n) (n+1) 0 ¤ (by rw[fP];&) hd' (λi j a1 a2 a3 a4=>by
     have:i=n:=¤
     have:j=n:=¤
     subst_vars
     ~le_refl O _)
    #⟨a1,a2,a3,a4,a5,a6⟩:=r
    ~⟨a1.trans fP,a2,¤,¤,a5,a6⟩
   ·rw[if_neg hq]
    have r:=mx O f p (n+1) 0 ¤ ¤ (hd.snoc O ¤ (le_of_lt O hc)) (λi j a1 a2 a3 a4=>by
     have:i=n:=¤
     have:j=n:=¤
     subst_vars
     ~le_refl O _)
    #⟨a1,a2,a3,a4,a5,a6⟩:=r
    ~⟨a1,a2,¤,¤,a5,a6⟩
  ·rw[if_neg hc]
   show FD c p.size n (n+(f+1)) (run c (if c (at_ p (n-1)) (at_ p n)=true then .ret (p,n,q)else AC2 f p (n+1) (q+1)))
   by_cases hc':c (at_ p (n-1)) (at_ p n)=true
   ·rw[if_pos hc']
    ~⟨rfl,hd,AAC _,by show n<=_;&,h1,he⟩
   ·rw[if_neg hc']
    have l1:le c (at_ p n) (at_ p (n-1)):=by unfold le;simpa using hc'
    have l2:le c (at_ p (n-1)) (at_ p n):=by unfold le;simpa using hc
    have r:=mx O f p (n+1) (q+1) ¤ ¤ (hd.snoc O ¤ l1) (λi j a1 a2 a3 a4=>by
     by_cases hi:i=n
     ·by_cases hj:j=n
      ·subst hi hj;~le_refl O _
      ·subst hi
       ~le_trans O l1 (he _ _ ¤ ¤ ¤ ¤)
     ·by_cases hj:j=n
      ·subst hj
       ~le_trans O (he _ _ ¤ ¤ ¤ ¤) l2
      ·~he _ _ ¤ ¤ ¤ ¤)
    #⟨a1,a2,a3,a4,a5,a6⟩:=r
    ~⟨a1,a2,¤,¤,a5,a6⟩
¶tO(O:Ord c){p:Array Nat}{n nrem:Nat}(h1:1<=n)(hn:n<=nrem)(hz:nrem<=p.size)(hd:Dn c p n) :
  sZ c p.size nrem (run c (kas_tail3 n nrem p)):=by
 unfold kas_tail3
 rw[ip]
 #⟨a1,a2,a3,_⟩:=yS O (nrem-n) n h1 (hd.rev ¤)
 ~⟨fP,a1,ABN h1 a2,ABN a3 ¤⟩
¶lO(O:Ord c){p:Array Nat}{n nrem:Nat}(h1:1<=n)(hn:n+1<=nrem)(hz:nrem<=p.size)(he:Eqs c p 0 n)(hc:c (at_ p n) (at_ p (n-1))=true) :
  sZ c p.size nrem (run c (ADz n nrem p)):=by
 have hd:Dn c p (n+1):=by
  !Dn.snoc O (λi j hij hj=>he _ _ ¤ ¤ ¤ ¤) h1 (le_of_lt O hc)
 unfold ADz
 rw[ip]
 #⟨b1,b2,b3,b4,b5,b6⟩:=mx O (nrem-(n+1)) p (n+1) 0 ¤ ¤ hd (λi j a1 a2 a3 a4=>by
  have:i=n:=¤
  have:j=n:=¤
  subst_vars
  ~le_refl O _)
 by_cases hq:(run c (AC2 (nrem-(n+1)) p (n+1) 0)).2.2 > 0
 ·rw[if_pos hq]
  #⟨d1,d2,d3,d4⟩:=tO O (p:=AD7 (run c (AC2 (nrem-(n+1)) p (n+1) 0)).1 ((run c (AC2 (nrem-(n+1)) p (n+1) 0)).2.1-((run c (AC2 (nrem-(n+1)) p (n+1) 0)).2.2+1)) (run c (AC2 (nrem-(n+1)) p (n+1) 0)).2.1)
   (n:=(run c (AC2 (nrem-(n+1)) p (n+1) 0)).2.1) (nrem:=nrem) ¤ ¤ (by rw[fP,b1];~hz) (b2.revEq O (by rw[b1];&) b6)
  ~⟨d1.trans (fP.trans b1),d2,d3,d4⟩
 ·rw[if_neg hq]
  #⟨d1,d2,d3,d4⟩:=tO O (p:=(run c (AC2 (nrem-(n+1)) p (n+1) 0)).1) (n:=(run c (AC2 (nrem-(n+1)) p (n+1) 0)).2.1) (nrem:=nrem) ¤ ¤ (by rw[b1];~hz) b2
  ~⟨d1.trans b1,d2,d3,d4⟩
¶Fc(O:Ord c){p:Array Nat}{nrem:Nat}(h1:1<=nrem)(hz:nrem<=p.size) :
  sZ c p.size nrem (run c (kas_count nrem p)):=by
 unfold kas_count
 rw[ip]
 #⟨a1,a2,a3,a4⟩:=yS O (nrem-1) 1 (AAC _) (Up.one O p)
 generalize run c (ADp p (nrem-1) 1)=n at a1 a2 a3 a4
 by_cases hn:(n==nrem)=true
 ·rw[if_pos hn]
  ~⟨rfl,a1,a2,by show n<=nrem;&⟩
 ·rw[if_neg hn]
  have hn':n≠nrem:=by simpa using hn
  have hlt:c (at_ p n) (at_ p (n-1))=true:=a4 ¤
  by_cases h2:n > 1
  ·rw[if_pos h2]
   show sZ c p.size nrem (run c (if c (at_ p 0) (at_ p (n-1))=true then .ret (n,p)else ADz n nrem (AD7 p 0 n)))
   by_cases hc:c (at_ p 0) (at_ p (n-1))=true
   ·rw[if_pos hc]
    ~⟨rfl,a1,a2,by show n<=nrem;&⟩
   ·rw[if_neg hc]
    have hz':n<=p.size:=¤
    have l0:le c (at_ p (n-1)) (at_ p 0):=by unfold le;simpa using hc
    have he:Eqs c p 0 n:=λi j b1 b2 b3 b4=>le_trans O (a1 i (n-1) ¤ ¤) (le_trans O l0 (a1 0 j ¤ b4))
    have he':Eqs c (AD7 p 0 n) 0 n:=λi j b1 b2 b3 b4=>by
     rw[iM hz',iM hz',if_pos ⟨b1,b2⟩,if_pos ⟨b3,b4⟩]
     ~he _ _ ¤ ¤ ¤ ¤
    have hc':c (at_ (AD7 p 0 n) n) (at_ (AD7 p 0 n) (n-1))=true:=by
     rw[iM hz',iM hz',if_neg ¤,if_pos ⟨¤,¤⟩]
     rcases O.neg _ (at_ p (0+n-1-(n-1))) _ hlt with z | z
     ·~z
     ·have:=he (n-1) (0+n-1-(n-1)) ¤ ¤ ¤ ¤
      unfold le at this
      rw[this]at z;cases z
    #⟨d1,d2,d3,d4⟩:=lO O (p:=AD7 p 0 n) (n:=n) (nrem:=nrem) ¤ ¤ (by rw[fP];~hz) he' hc'
    ~⟨d1.trans fP,d2,d3,d4⟩
  ·rw[if_neg h2]
   have:n=1:=¤
   subst this
   ~lO O ¤ ¤ hz (λi j b1 b2 b3 b4=>by
    have:i=0:=¤
    have:j=0:=¤
    subst_vars
    ~le_refl O _) hlt
¶nO(O:Ord c){p:Array Nat}{k:Nat}(hu:Up c p k):∀(f l r:Nat),l<=r->r<=k->r-l<=f->(∀i,i<l->le c (at_ p i) (at_ p k))->(∀i,r<=i->i<k->c (at_ p k) (at_ p i)=true) ->
  yT c p k (run c (ADD p k f l r))
 | 0,l,r,h1,h2,h3,h4,h5=>⟨by show l<=k;&,h4,λi a1 a2=>h5 i (by have a1':l<=i:=a1;&) a2⟩
 | f+1,l,r,h1,h2,h3,h4,h5=>by
  show yT c p k (run c (if l ≥ r then .ret l else .ask (at_ p k) (at_ p ((l+r) / 2)) λc=>if c=true then ADD p k f l ((l+r) / 2)else ADD p k f ((l+r) / 2+1) r))
  by_cases hl:l ≥ r
  ·rw[if_pos hl]
   ~⟨by show l<=k;&,h4,λi a1 a2=>h5 i (by have a1':l<=i:=a1;&) a2⟩
  ·rw[if_neg hl]
   show yT c p k (run c (if c (at_ p k) (at_ p ((l+r) / 2))=true then ADD p k f l ((l+r) / 2)else ADD p k f ((l+r) / 2+1) r))
   by_cases hc:c (at_ p k) (at_ p ((l+r) / 2))=true
   ·rw[if_pos hc]
    !nO O hu f l ((l+r) / 2) ¤ ¤ ¤ h4 λi a1 a2=>?_
    rcases O.neg _ (at_ p i) _ hc with z | z
    ·~z
    ·have:=hu ((l+r) / 2) i a1 a2
     unfold le at this
     rw[this]at z;cases z
   ·rw[if_neg hc]
    have lm:le c (at_ p ((l+r) / 2)) (at_ p k):=by unfold le;simpa using hc
    !nO O hu f ((l+r) / 2+1) r ¤ h2 ¤ (λi hi=>?_) h5
    ~le_trans O (hu i ((l+r) / 2) ¤ ¤) lm
¶Fj(O:Ord c){p:Array Nat}{k m:Nat}(hk:k<p.size)(hu:Up c p k)(hm:m<=k)(h1:∀i,i<m->le c (at_ p i) (at_ p k))(h2:∀i,m<=i->i<k->c (at_ p k) (at_ p i)=true):Up c (bubble p k (k-m)) (k+1):=by
 intro i j hij hj
 have e:k-(k-m)=m:=¤
 rw[wA hk ¤,wA hk ¤,e]
 by_cases hi:i=m
 ·rw[if_pos hi]
  by_cases hjm:j=m
  ·rw[if_pos hjm];~le_refl O _
  ·rw[if_neg hjm,if_pos ⟨¤,¤⟩]
   ~le_of_lt O (h2 _ ¤ ¤)
 ·rw[if_neg hi]
  by_cases hi2:m<i/\i<=k
  ·rw[if_pos hi2,if_neg ¤,if_pos ⟨¤,¤⟩]
   ~hu _ _ ¤ ¤
  ·rw[if_neg hi2]
   by_cases hjm:j=m
   ·rw[if_pos hjm];~h1 i ¤
   ·rw[if_neg hjm]
    by_cases hj2:m<j/\j<=k
    ·rw[if_pos hj2]
     ~hu _ _ ¤ ¤
    ·rw[if_neg hj2]
     ~hu _ _ hij ¤
¶Fl(O:Ord c):∀(f:Nat) (p:Array Nat) (k:Nat),k+f<=p.size->Up c p k->(run c (kas_bin f p k)).size=p.size/\Up c (run c (kas_bin f p k)) (k+f)
 | 0,p,k,_,h=>⟨rfl,h⟩
 | f+1,p,k,hz,h=>by
  show (run c ((ADD p k k 0 k).bind λl=>kas_bin f (bubble p k (k-l)) (k+1))).size=p.size/\Up c (run c ((ADD p k k 0 k).bind λl=>kas_bin f (bubble p k (k-l)) (k+1))) (k+(f+1))
  rw[ip]
  #⟨a1,a2,a3⟩:=nO O h k 0 k (AAT _) (AAC _) ¤ (λi hi=>absurd hi (ABy _)) λi a1 a2=>absurd a2 ¤
  #⟨b1,b2⟩:=Fl O f (bubble p k (k-run c (ADD p k k 0 k))) (k+1) (by rw[bubble_size];&) (Fj O ¤ h a1 a2 a3)
  ~⟨b1.trans (bubble_size _ _ _),by rw[show k+(f+1)=k+1+f by &];~b2⟩
¶Jm(O:Ord c){n:Nat}(h1:1<=n):(run c (AEK n)).size=n/\Up c (run c (AEK n)) n:=by
 have hs:(List.toArray (AAe n)).size=n:=by simp
 unfold AEK
 rw[ip]
 #⟨a1,a2,a3,a4⟩:=Fc O (p:=List.toArray (AAe n)) h1 (by rw[hs];~AAC _)
 rw[hs]at a1
 generalize run c (kas_count n (List.toArray (AAe n)))=r at a1 a2 a3 a4
 by_cases hl:r.1<n
 ·rw[if_pos hl]
  #⟨b1,b2⟩:=Fl O (n-max r.1 1) r.2 (max r.1 1) (by rw[a1];&) (by rw[show max r.1 1=r.1 by &];~a2)
  ~⟨b1.trans a1,by rw[show n=max r.1 1+(n-max r.1 1) by &];simpa using b2⟩
 ·rw[if_neg hl]
  have e1:r.1=n:=¤
  rw[e1]at a2
  ~⟨a1,a2⟩
def Ent(n:Nat)(p:Array Nat):Prop:=p.toList.Perm (AAe n)
¶Ent.lt{n:Nat}{p:Array Nat}(h:Ent n p)(h0:0<n)(k:Nat):at_ p k<n:=by
 unfold at_
 rw[AB8]
 cases e:p[k]? with
 | none=>simpa using h0
 | some x =>
  have:x∈p.toList:=by
   rw[←AAV]at e
   ~AAu e
  have:=h.mem_iff.mp this
  simpa using this
¶Ent.rev{n:Nat}{p:Array Nat}{i j:Nat}(h:Ent n p):Ent n (AD7 p i j):=(Array.perm_iff_toList_perm.mp (mirror_perm p i j ((j-i) / 2))).trans h
¶Ent.bub{n:Nat}{p:Array Nat}{i j:Nat}(h:Ent n p):Ent n (bubble p i j):=(Array.perm_iff_toList_perm.mp (bubble_perm p i j)).trans h
section
variable{n:Nat}(h0:0<n)
¶Fn{p:Array Nat}(h0:0<n)(h:Ent n p):∀(f k:Nat),Bd n (ADp p f k)
 | 0,_=>trivial
 | f+1,k=>⟨h.lt h0 _,h.lt h0 _,λb=>by cases b with
  | true=>~trivial
  | false=>~Fn h0 h f (k+1)⟩
¶sG(h0:0<n):∀(f:Nat) (p:Array Nat) (k q:Nat),Ent n p->Bd n (AC2 f p k q)/\All (λr=>Ent n r.1) (AC2 f p k q)
 | 0,p,k,q,h=>⟨trivial,h⟩
 | f+1,p,k,q,h=>by
  have key:∀b,(Bd n (if b=true then(if q > 0 then AC2 f (AD7 p (k-(q+1)) k) (k+1) 0 else AC2 f p (k+1) 0)
    else KasT.ask (p.getD (k-1) 0) (p.getD k 0) λd=>if d=true then KasT.ret (p,k,q)else AC2 f p (k+1) (q+1)))/\All (λr=>Ent n r.1) (if b=true then(if q > 0 then AC2 f (AD7 p (k-(q+1)) k) (k+1) 0 else AC2 f p (k+1) 0)
    else KasT.ask (p.getD (k-1) 0) (p.getD k 0) λd=>if d=true then KasT.ret (p,k,q)else AC2 f p (k+1) (q+1)):=λb=>by
   cases b with
   | true =>
    rw[if_pos rfl]
    by_cases hq:q > 0
    ·rw[if_pos hq];~sG h0 f _ _ _ h.rev
    ·rw[if_neg hq];~sG h0 f _ _ _ h
   | false =>
    rw[if_neg (by simp)]
    have a:=sG h0 f p (k+1) (q+1) h
    !⟨⟨h.lt h0 _,h.lt h0 _,λb=>?_⟩,λb=>?_⟩
    ·cases b with
     | true=>~trivial
     | false=>~a.1
    ·cases b with
     | true=>~h
     | false=>~a.2
  ~⟨⟨h.lt h0 _,h.lt h0 _,λb=>(key b).1⟩,λb=>(key b).2⟩
¶mi(h0:0<n){p:Array Nat}{k m:Nat}(h:Ent n p):Bd n (kas_tail3 k m p)/\All (λr=>Ent n r.2) (kas_tail3 k m p):=by
 have triv:∀{t:KasT Nat}{Q:Prop},Q->All (λ_=>Q) t:=λ{t Q} q=>by
  induction t with
  | ret a=>~q
  | ask i j k ih=>~λb=>ih b
 unfold kas_tail3
 ~⟨Bd.bindA _ (Fn h0 h.rev _ _) (triv trivial),All.bind _ (triv h.rev)⟩
¶fV(h0:0<n){p:Array Nat}{k m:Nat}(h:Ent n p):Bd n (ADz k m p)/\All (λr=>Ent n r.2) (ADz k m p):=by
 unfold ADz
 #⟨b1,b2⟩:=sG h0 (m-(k+1)) p (k+1) 0 h
 !⟨Bd.bindA _ b1 (b2.mono (λr hr=>?_)),All.bind _ (b2.mono (λr hr=>?_))⟩
 ·by_cases hq:r.2.2 > 0
  ·rw[if_pos hq];~(mi h0 hr.rev).1
  ·rw[if_neg hq];~(mi h0 hr).1
 ·by_cases hq:r.2.2 > 0
  ·rw[if_pos hq];~(mi h0 hr.rev).2
  ·rw[if_neg hq];~(mi h0 hr).2
¶HX(h0:0<n){p:Array Nat}{m:Nat}(h:Ent n p):Bd n (kas_count m p)/\All (λr=>Ent n r.2) (kas_count m p):=by
 have triv:∀{t:KasT Nat}{Q:Nat->Prop},(∀a,Q a)->All Q t:=λ{t Q} q=>by
  induction t with
  | ret a=>~q a
  | ask i j k ih=>~λb=>ih b
 unfold kas_count
 !⟨Bd.bindA _ (Fn h0 h _ _) (triv λk=>?_),All.bind _ (triv λk=>?_)⟩
 ·by_cases h1:(k==m)=true
  ·rw[if_pos h1];~trivial
  ·rw[if_neg h1]
   by_cases h2:k > 1
   ·rw[if_pos h2]
    !⟨h.lt h0 _,h.lt h0 _,λb=>?_⟩
    cases b with
    | true=>~trivial
    | false=>~(fV h0 h.rev).1
   ·rw[if_neg h2];~(fV h0 h).1
 ·by_cases h1:(k==m)=true
  ·rw[if_pos h1];~h
  ·rw[if_neg h1]
   by_cases h2:k > 1
   ·rw[if_pos h2]
    intro b
    cases b with
    | true=>~h
    | false=>~(fV h0 h.rev).2
   ·rw[if_neg h2];~(fV h0 h).2
¶rN(h0:0<n){p:Array Nat}{k:Nat}(h:Ent n p):∀(f l r:Nat),Bd n (ADD p k f l r)
 | 0,_,_=>trivial
 | f+1,l,r=>by
  show Bd n (if l ≥ r then KasT.ret l else KasT.ask (p.getD k 0) (p.getD ((l+r) / 2) 0) λc=>if c=true then ADD p k f l ((l+r) / 2)else ADD p k f ((l+r) / 2+1) r)
  by_cases hl:l ≥ r
  ·rw[if_pos hl];~trivial
  ·rw[if_neg hl]
   !⟨h.lt h0 _,h.lt h0 _,λb=>?_⟩
   cases b with
   | true=>~rN h0 h f _ _
   | false=>~rN h0 h f _ _
¶Ae(h0:0<n):∀(f:Nat) (p:Array Nat) (k:Nat),Ent n p->Bd n (kas_bin f p k)/\All (λr=>Ent n r) (kas_bin f p k)
 | 0,p,k,h=>⟨trivial,h⟩
 | f+1,p,k,h=>by
  have triv:∀{t:KasT Nat}{Q:Nat->Prop},(∀a,Q a)->All Q t:=λ{t Q} q=>by
   induction t with
   | ret a=>~q a
   | ask i j k ih=>~λb=>ih b
  ~⟨Bd.bindA _ (rN h0 h _ _ _) (triv λl=>(Ae h0 f _ _ h.bub).1),All.bind _ (triv λl=>(Ae h0 f _ _ h.bub).2)⟩
¶sort_bd(h0:0<n):Bd n (AEK n)/\All (λr=>Ent n r) (AEK n):=by
 have h:Ent n (List.toArray (AAe n)):=by unfold Ent;simp
 #⟨b1,b2⟩:=HX h0 (m:=n) h
 unfold AEK
 !⟨Bd.bindA _ b1 (b2.mono λr hr=>?_),All.bind _ (b2.mono λr hr=>?_)⟩
 ·by_cases hl:r.1<n
  ·rw[if_pos hl];~(Ae h0 _ _ _ hr).1
  ·rw[if_neg hl];~trivial
 ·by_cases hl:r.1<n
  ·rw[if_pos hl];~(Ae h0 _ _ _ hr).2
  ·rw[if_neg hl];~hr
end
¶sort_list{α:Type}[Inhabited α]{lt:α->α->Bool}(xs:List α)(h1:1<=xs.length)(irr:∀a∈xs,lt a a=false)(tr:∀a∈xs,∀b∈xs,∀d∈xs,lt a b=true->lt b d=true->lt a d=true)
  (neg:∀a∈xs,∀b∈xs,∀d∈xs,lt a d=true->lt a b=true\/lt b d=true) :
  let c:=λi j=>if i<xs.length then(if j<xs.length then lt (xs.getD i default) (xs.getD j default)else true)else false
  let p:=run c (AEK xs.length)
  let ys:=p.toList.map λi=>xs.getD i default
  ys.Perm xs/\ys.Pairwise λa b=>lt b a=false:=by
 intro c p ys
 have mem:∀i,i<xs.length->xs.getD i default∈xs:=λi hi=>by
  rw[AAP,AA7 hi]
  ~AAn hi
 have O:Ord c:=by
  !⟨λa=>?_,λa b d=>?_,λa b d=>?_⟩
  ·show (if a<xs.length then(if a<xs.length then lt _ _ else true)else false)=false
   by_cases ha:a<xs.length
   ·rw[if_pos ha,if_pos ha];~irr _ (mem a ha)
   ·rw[if_neg ha]
  ·show (if a<xs.length then(if b<xs.length then lt _ _ else true)else false)=true->(if b<xs.length then(if d<xs.length then lt _ _ else true)else false)=true->(if a<xs.length then(if d<xs.length then lt _ _ else true)else false)=true
   by_cases ha:a<xs.length
   ·by_cases hb:b<xs.length
    ·by_cases hd:d<xs.length
     ·rw[if_pos ha,if_pos hb,if_pos hb,if_pos hd,if_pos ha,if_pos hd];~tr _ (mem a ha) _ (mem b hb) _ (mem d hd)
     ·intro _ _;rw[if_pos ha,if_neg hd]
    ·rw[if_neg (show ¬b<xs.length from hb)]
     intro _ z
     rw[if_neg hb]at z;cases z
   ·intro z;rw[if_neg ha]at z;cases z
  ·show (if a<xs.length then(if d<xs.length then lt _ _ else true)else false)=true->(if a<xs.length then(if b<xs.length then lt _ _ else true)else false)=true\/(if b<xs.length then(if d<xs.length then lt _ _ else true)else false)=true
   by_cases ha:a<xs.length
   ·by_cases hb:b<xs.length
    ·by_cases hd:d<xs.length
     ·rw[if_pos ha,if_pos hd,if_pos ha,if_pos hb,if_pos hb,if_pos hd];~neg _ (mem a ha) _ (mem b hb) _ (mem d hd)
     ·intro _;right;rw[if_pos hb,if_neg hd]
    ·intro _;left;rw[if_pos ha,if_neg hb]
   ·intro z;rw[if_neg ha]at z;cases z
 have hE:Ent xs.length p:=All.run _ (sort_bd ¤).2
 #⟨hs,hU⟩:=Jm O h1
 !⟨?_,?_⟩
 ·have e:(AAe xs.length).map (λi=>xs.getD i default)=xs:=by
   apply List.ext_getElem?
   intro i
   rw[AAU]
   by_cases hi:i<xs.length
   ·rw[List.getElem?_range hi]
    simp[AAP,AA7 hi]
   ·rw[ABV (by simpa using hi),ABV (by simpa using hi)]
    rfl
  have:=hE.map λi=>xs.getD i default
  rw[e]at this
  ~this
 ·show (p.toList.map λi=>xs.getD i default).Pairwise λa b=>lt b a=false
  rw[List.pairwise_iff_getElem]
  intro i j hi hj hij
  rw[AA6,AAO]at hi hj
  have hs':p.size=xs.length:=hs
  have l:=hU i j ¤ ¤
  have hl:∀k,at_ p k<xs.length:=λk=>hE.lt ¤ k
  unfold le at l
  have l':(if at_ p j<xs.length then(if at_ p i<xs.length then lt (xs.getD (at_ p j) default) (xs.getD (at_ p i) default)else true)else false)=false:=l
  rw[if_pos (hl j),if_pos (hl i)]at l'
  have ai:p.toList[i]=at_ p i:=by unfold at_;simp[ACM,hi]
  have aj:p.toList[j]=at_ p j:=by unfold at_;simp[ACM,hj]
  rw[ACN,ACN,ai,aj]
  ~l'
end
end Srt
namespace L2
open PySem PySem.Spec PyProof.Rows DL
def BJ(A:Around)(s:Shared)(x y:Value)(k:Bool):Prop:=∀(prog:Program) (w:World) (E:Value->Shared->Prop) (Q:Value->Shared->Prop),Q (.bool k) s->wpAny (model prog w) A (richCompare .Lt x y) Q E s
inductive LexAt(A:Around)(s:Shared):List Value->List Value->Bool->Prop
 | nn:LexAt A s [] [] false
 | nc {y:Value}{ys:List Value}:LexAt A s [] (y::ys) true
 | cn {x:Value}{xs:List Value}:LexAt A s (x::xs) [] false
 | eq {x y:Value}{xs ys:List Value}{k:Bool} (h:ACp A s x y true) (t:LexAt A s xs ys k):LexAt A s (x::xs) (y::ys) k
 | ne {x y:Value}{xs ys:List Value}{k:Bool} (h:ACp A s x y false) (t:BJ A s x y k):LexAt A s (x::xs) (y::ys) k
section
open PySem.SeqAt
open PySem.AutoSeq1 (wpAny_loadPart')
open PySem.MeetsSeq PySem.MeetsSeq2 PySem.MeetsSeq3
¶tN(l b:Addr)(items items2:Array Value)(n n2:Nat)(dd dd2:Option Addr)(sl sl2:Array (Option Value))(k:Bool) :
  Meets (Builtin.«tuple.__lt__» ⟨[.ref l,.ref b],[]⟩)
   (λA R s=>s.heap.get? l=some (⟨.type "tuple",dd,.seq items n,sl⟩:Obj)/\s.heap.get? b=some { cls:=.type "tuple",dict:=dd2,data:=.seq items2 n2,slots:=sl2 } /\
    LexAt A.in1 s items.toList items2.toList k/\R (.ok (.ret (.bool k))) s) :=
 .of_wp λprog w A R s h=>by
  #⟨hp,g,d,tk,os⟩:=s;#⟨hl,hb,hx,h⟩:=h
  have f2:=AutoSeq1.sub_tuple_tuple
  wp_walk using AE8 hl,AE8 hb,AC4 _ (λbn b s'=>b.1=none/\s'=⟨hp,g,d,tk,os⟩/\∃(vs ws:List Value),bn=vs.zip ws /\
   LexAt A.in1 ⟨hp,g,d,tk,os⟩ vs ws k/\vs.length+items2.size=ws.length+items.size) _
  case turn =>
   rintro⟨y,x⟩ bn b s' ⟨hb',rfl,vs,ws,hz,hlex,hlen⟩
   cases hlex with
   | nn=>cases hz
   | nc=>cases hz
   | cn=>cases hz
   | eq he t =>
    rw[ABL]at hz
    injection hz with hyx hrest
    injection hyx with hy hx
    subst hy hx
    !AA0 (he prog w _ _ ?_)
    wp_walk
    ~⟨rfl,rfl,_,_,hrest,t,by simp only[AAA]at hlen;&⟩
   | ne he t =>
    rw[ABL]at hz
    injection hz with hyx hrest
    injection hyx with hy hx
    subst hy hx
    !AA0 (he prog w _ _ ?_)
    have hri:=t prog w
    wp_walk using hri
    ~⟨_,rfl,by simpa using h⟩
  case fin =>
   rintro⟨b1,b2⟩ s' ⟨hb',rfl,vs,ws,hz,hlex,hlen⟩
   simp only at hb'
   subst hb'
   have hv:k=decide (items.size<items2.size):=by
    cases hlex with
    | nn=>simp only[AAW]at hlen;~(decide_eq_false ¤).symm
    | nc=>simp only[AAW,AAA]at hlen;~(decide_eq_true ¤).symm
    | cn=>simp only[AAW,AAA]at hlen;~(decide_eq_false ¤).symm
    | eq _ _=>rw[ABL]at hz;cases hz
    | ne _ _=>rw[ABL]at hz;cases hz
   rw[hv]at h
   wp_walk
   ~⟨_,rfl,by simpa [Builtin.Tuple.tupleCompareSizes]using h⟩
  case h =>
   ~⟨rfl,rfl,items.toList,items2.toList,rfl,hx,by simp;&⟩
end
¶BJ.tuples{A:Around}{s:Shared}{l b:Addr}{items items2:Array Value}{k:Bool}(hl:s.heap.IsTuple l items)(hb:s.heap.IsTuple b items2)(hu:A.units<cLine)(hx:LexAt A.in1 s items.toList items2.toList k):BJ A s (.ref l) (.ref b) k:=λprog w E Q h=>by
 #⟨⟨cls,dd,data,sl⟩,ho,hc,n,hd⟩:=id hl
 #⟨⟨cls2,dd2,data2,sl2⟩,ho2,hc2,n2,hd2⟩:=id hb
 simp only at hc hd hc2 hd2
 subst hc hd hc2 hd2
 ~richCompare_meets_room (op:=.Lt) ⟨_,ho,rfl⟩ ⟨_,ho2,rfl⟩ PySem.F.slot_tuple_lt PySem.F.entry_tuple_lt (PySem.F.args_tuple_lt_2 _ _) (tN l b items items2 n n2 dd dd2 sl sl2 k)
  ⟨ho,ho2,hx,show AD1 k≠Value.notImplemented/\Q (.bool k) s from⟨(λx=>nomatch x),h⟩⟩ hu
end L2
namespace L2
open PySem PySem.Spec PyProof.Rows DL
def xW(f g:D->D->Bool):List D->List D->Bool
 | [],[]=>false
 | [],_::_=>true
 | _::_,[]=>false
 | x::xs,y::ys=>if f x y=true then xW f g xs ys else g x y
def ltD(M:Mem):Nat->D->D->Bool
 | _,.int a,.int b=>decide (a<b)
 | _,.str a,.str b=>cr a b
 | n+1,.tup xs,.tup ys=>xW (eqD M n) (ltD M n) xs ys
 | _,_,_=>false
def FF(f g:D->D->Bool):List D->List D->Bool
 | x::xs,y::ys=>if f x y=true then FF f g xs ys else g x y
 | _,_=>true
def lP(M:Mem):Nat->D->D->Bool
 | _,.int _,.int _=>true
 | _,.str _,.str _=>true
 | n+1,.tup xs,.tup ys=>FF (eqD M n) (lP M n) xs ys
 | _,_,_=>false
¶BJ.ints(A:Around)(s:Shared)(a:Int)(t:Tok)(c:Int)(u:Tok):BJ A s (.int a t) (.int c u) (decide (a<c)):=λprog w E Q h=>HT.rcLt_int A s a t c u prog w E Q h
¶BJ.texts(A:Around)(s:Shared)(a:Str)(t:Tok)(c:Str)(u:Tok):BJ A s (.str a t) (.str c u) (cr a c):=λprog w E Q h =>
 (PySem.P.lt_str (show Q (.bool (decide (a.cps.toList<c.cps.toList))) s from h):wpAny (model prog w) A (compareOp .Lt (.str a t) (.str c u)) Q E s)
section
variable{X:Cx}{pins:List (Addr×Obj)}{σ:St}{H:Hp}{s:Shared}{ρ:List Addr}{M:Mem}
¶DQ(I:Inv X pins σ H s)(sm:Sim X.K ρ M H):∀(n:Nat) (A:Around) (x y:D) (vx vy:V) (u v:Value),A.units+n<cLine->Rep X.K ρ H x vx->bi vx u->Rep X.K ρ H y vy->bi vy v->okD M n x=true->okD M n y=true->lP M n x y=true ->
  BJ A s u v (ltD M n x y):=by
 intro n
 induction n with
 | zero =>
  intro A x y vx vy u v hu r1 e1 r2 e2 o1 o2 cm
  cases r1 with
  | int a =>
   cases r2 with
   | int b=>#⟨t,rfl⟩:=e1;#⟨t',rfl⟩:=e2;~BJ.ints A s a t b t'
   | _=>simp[lP]at cm
  | str a =>
   cases r2 with
   | str b=>#⟨t,rfl⟩:=e1;#⟨t',rfl⟩:=e2;~BJ.texts A s a t b t'
   | _=>simp[lP]at cm
  | _=>simp[lP]at cm
 | succ n ih =>
  intro A x y vx vy u v hu r1 e1 r2 e2 o1 o2 cm
  have hu0:A.units<cLine:=¤
  have hu1:A.in1.units+n<cLine:=by show A.units+1+n<cLine;&
  have lex:∀(ds es:List D) (vs ws:List V) (its jts:List Value),Reps X.K ρ H ds vs->aL vs its->Reps X.K ρ H es ws->aL ws jts->ds.all (okD M n)=true->es.all (okD M n)=true->FF (eqD M n) (lP M n) ds es=true ->
    LexAt A.in1 s its jts (xW (eqD M n) (ltD M n) ds es):=by
   intro ds
   induction ds with
   | nil =>
    intro es vs ws its jts p1 q1 p2 q2 _ _ _
    cases p1;cases q1
    cases p2 with
    | nil=>cases q2;~.nn
    | cons _ _=>cases q2;~.nc
   | cons d ds hi =>
    intro es vs ws its jts p1 q1 p2 q2 k1 k2 k3
    cases p1 with
    | cons a1 p1 =>
     cases q1 with
     | cons b1 q1 =>
      cases p2 with
      | nil=>cases q2;~.cn
      | @cons e _ es' _ a2 p2 =>
       cases q2 with
       | cons b2 q2 =>
        rw[ABF,AAD]at k1 k2
        have he:=(oQ I sm n A.in1 d _ _ _ _ _ hu1 a1 b1 a2 b2 k1.1 k2.1).1
        rw[xW]
        rw[FF]at k3
        by_cases hq:eqD M n d e=true
        ·rw[hq]at he
         rw[if_pos hq]at k3 ⊢
         ~.eq he (hi _ _ _ _ _ p1 q1 p2 q2 k1.2 k2.2 k3)
        ·have hq':=ABs.mpr hq
         rw[hq']at he
         rw[if_neg hq]at k3 ⊢
         ~.ne he (ih A.in1 _ _ _ _ _ _ hu1 a1 b1 a2 b2 k1.1 k2.1 k3)
  cases r1 with
  | int a =>
   cases r2 with
   | int b=>#⟨t,rfl⟩:=e1;#⟨t',rfl⟩:=e2;~BJ.ints A s a t b t'
   | _=>simp[lP]at cm
  | str a =>
   cases r2 with
   | str b=>#⟨t,rfl⟩:=e1;#⟨t',rfl⟩:=e2;~BJ.texts A s a t b t'
   | _=>simp[lP]at cm
  | tup hq r =>
   cases r2 with
   | tup hq' r' =>
    cases e1;cases e2
    #⟨its,rr,pl,_⟩:=I.tuple hq
    #⟨jts,rr',pl',_⟩:=I.tuple hq'
    !BJ.tuples pl pl' hu0 ?_
    ~lex _ _ _ _ _ _ r rr r' rr' (by simpa [okD]using o1) (by simpa [okD]using o2) cm
   | _=>simp[lP]at cm
  | _=>simp[lP]at cm
end
def Mg:DR2:=λx y M Q=>match x,y with
 | .tup xs,.tup ys=>(okD M eqN (.tup xs)=true/\okD M eqN (.tup ys)=true/\lP M eqN (.tup xs) (.tup ys)=true)/\Q (.bl (ltD M eqN (.tup xs) (.tup ys))) M
 | _,_=>qLt x y M Q
¶MV{X:Cx}{k:Nat}(hr:Room k X.A):OpD X (compareOp .Lt) Mg:=by
 intro pins s σ H vx vy v u R I rx ry ⟨x,y,M,ρ,Q,sm,r1,r2,q,k⟩
 unfold Mg at q
 split at q
 ·#⟨⟨o1,o2,o3⟩,q⟩:=q
  ~DQ I sm eqN X.A _ _ vx vy v u (qT hr) r1 rx r2 ry o1 o2 o3 _ _ _ _ (ie I sm k q)
 ·~MW pins s σ H vx vy v u R I rx ry ⟨x,y,M,ρ,Q,sm,r1,r2,q,k⟩
def okP:Nat->D->Bool
 | _,.int _=>true
 | _,.str _=>true
 | n+1,.tup xs=>xs.all (okP n)
 | _,_=>false
def LD(f:D->List Int):List D->List Int
 | []=>[0]
 | x::xs=>1::(f x++LD f xs)
def enc:Nat->D->List Int
 | _,.int i=>[0,i]
 | _,.str x=>1::(x.cps.toList.map (λ(c:Nat)=>(c:Int)+1)++[0])
 | n+1,.tup xs=>2::LD (enc n) xs
 | _,_=>[3]
def cU(x y:List Int):Prop:=∀a b,x++a<y++b
¶cU.cons{x y:List Int}(i:Int)(h:cU x y):cU (i::x) (i::y):=λa b=>AB0.mpr (.inr ⟨rfl,h a b⟩)
¶cU.head{i j:Int}(x y:List Int)(h:i<j):cU (i::x) (j::y):=λa b=>AB0.mpr (.inl h)
¶cU.lt{x y:List Int}(h:cU x y):x<y:=by have:=h [] [];simpa using this
¶cU.pre{x y:List Int}(z:List Int)(h:cU x y):cU (z++x) (z++y):=by
 induction z with
 | nil=>~h
 | cons i z ih=>~ih.cons i
¶cU.more{x y:List Int}(u v:List Int)(h:cU x y):cU (x++u) (y++v):=λa b=>by
 rw[ABT,ABT]
 ~h _ _
def Tri(x y:D)(n:Nat)(l:Bool)(r:Bool):Prop:=(x=y/\l=false/\r=false)\/(x≠y/\l=true/\r=false/\cU (enc n x) (enc n y))\/(x≠y/\l=false/\r=true/\cU (enc n y) (enc n x))
¶wk:∀(x y:List Nat),(x=y)\/(x<y/\¬y<x/\cU (x.map (λ(c:Nat)=>(c:Int)+1)++[0]) (y.map (λ(c:Nat)=>(c:Int)+1)++[0]))\/(¬x<y/\y<x/\cU (y.map (λ(c:Nat)=>(c:Int)+1)++[0]) (x.map (λ(c:Nat)=>(c:Int)+1)++[0]))
 | [],[]=>.inl rfl
 | [],c::y=>.inr (.inl ⟨List.nil_lt_cons _ _,List.not_lt_nil _,cU.head _ _ (by dsimp only;&)⟩)
 | c::x,[]=>.inr (.inr ⟨List.not_lt_nil _,List.nil_lt_cons _ _,cU.head _ _ (by dsimp only;&)⟩)
 | c::x,e::y=>by
  rcases ACd c e with h | h | h
  ·!.inr (.inl ⟨AB0.mpr (.inl h),λz=>?_,cU.head _ _ (by dsimp only;&)⟩)
   rcases AB0.mp z with z | ⟨z,_⟩<;>&
  ·subst h
   rcases wk x y with q | ⟨q1,q2,q3⟩|⟨q1,q2,q3⟩
   ·~.inl (by rw[q])
   ·!.inr (.inl ⟨AB0.mpr (.inr ⟨rfl,q1⟩),λz=>?_,q3.cons _⟩)
    rcases AB0.mp z with z | ⟨_,z⟩
    ·&
    ·~q2 z
   ·!.inr (.inr ⟨λz=>?_,AB0.mpr (.inr ⟨rfl,q2⟩),q3.cons _⟩)
    rcases AB0.mp z with z | ⟨_,z⟩
    ·&
    ·~q1 z
  ·!.inr (.inr ⟨λz=>?_,AB0.mpr (.inl h),cU.head _ _ (by dsimp only;&)⟩)
   rcases AB0.mp z with z | ⟨z,_⟩<;>&
¶NM(M:Mem):∀(n:Nat) (x y:D),okP n x=true->okP n y=true->(eqD M n x y=true↔x=y):=by
 have all:∀(n:Nat),(∀(x y:D),okP n x=true->okP n y=true->(eqD M n x y=true↔x=y))->∀(xs ys:List D),xs.all (okP n)=true->ys.all (okP n)=true->(eqL (eqD M n) xs ys=true↔xs=ys):=by
  intro n ih xs
  induction xs with
  | nil=>intro ys _ _;cases ys<;>simp[eqL]
  | cons x xs hi =>
   intro ys h1 h2
   cases ys with
   | nil=>simp[eqL]
   | cons y ys =>
    rw[ABF,AAD]at h1 h2
    rw[eqL,AAD,ih x y h1.1 h2.1,hi ys h1.2 h2.2,AED]
 intro n
 induction n with
 | zero =>
  intro x y h1 h2
  cases x<;>simp[okP]at h1<;>cases y<;>simp[okP]at h2<;>simp[eqD]
 | succ n ih =>
  intro x y h1 h2
  cases x with
  | int a=>cases y<;>simp[okP]at h2<;>simp[eqD]
  | str a=>cases y<;>simp[okP]at h2<;>simp[eqD]
  | tup xs =>
   cases y with
   | tup ys =>
    simp only[eqD,D.tup.injEq]
    ~all n ih xs ys (by simpa [okP]using h1) (by simpa [okP]using h2)
   | int a=>simp[eqD]
   | str a=>simp[eqD]
   | _=>simp[okP]at h2
  | _=>simp[okP]at h1
¶MR(M:Mem):∀(n:Nat) (x:D),okP n x=true->okD M n x=true:=by
 intro n
 induction n with
 | zero=>intro x h;cases x<;>simp[okP]at h<;>rfl
 | succ n ih =>
  intro x h
  cases x with
  | int a=>rfl
  | str a=>rfl
  | tup xs =>
   simp only[okD]
   rw[AAK]
   intro y hy
   ~ih y (AAK.mp (show xs.all (okP n)=true from h) y hy)
  | _=>simp[okP]at h
¶tri_D(M:Mem):∀(n:Nat) (x y:D),okP n x=true->okP n y=true->lP M n x y=true->Tri x y n (ltD M n x y) (ltD M n y x):=by
 have base:∀(n:Nat) (a b:Int),Tri (.int a) (.int b) n (decide (a<b)) (decide (b<a)):=λn a b=>by
  have e:∀a,enc n (.int a)=[0,a]:=λa=>by cases n<;>rfl
  rcases Int.lt_trichotomy a b with h | h | h
  ·~.inr (.inl ⟨by simp;&,decide_eq_true h,decide_eq_false ¤,by rw[e,e];~(cU.head [] [] h).cons 0⟩)
  ·subst h;~.inl ⟨rfl,decide_eq_false ¤,decide_eq_false ¤⟩
  ·~.inr (.inr ⟨by simp;&,decide_eq_false ¤,decide_eq_true h,by rw[e,e];~(cU.head [] [] h).cons 0⟩)
 have bases:∀(n:Nat) (a b:Str),Tri (.str a) (.str b) n (cr a b) (cr b a):=λn a b=>by
  have e:∀a:Str,enc n (.str a)=1::(a.cps.toList.map (λ(c:Nat)=>(c:Int)+1)++[0]):=λa=>by cases n<;>rfl
  unfold cr
  rcases wk a.cps.toList b.cps.toList with h | ⟨h1,h2,h3⟩|⟨h1,h2,h3⟩
  ·have:a=b:=Cw h
   subst this
   ~.inl ⟨rfl,decide_eq_false (ADE _),decide_eq_false (ADE _)⟩
  ·~.inr (.inl ⟨λz=>by cases z;~h2 h1,decide_eq_true h1,decide_eq_false h2,by rw[e,e];~h3.cons 1⟩)
  ·~.inr (.inr ⟨λz=>by cases z;~h1 h2,decide_eq_false h1,decide_eq_true h2,by rw[e,e];~h3.cons 1⟩)
 intro n
 induction n with
 | zero =>
  intro x y h1 h2 h3
  cases x<;>simp[okP]at h1<;>cases y<;>simp[okP]at h2<;>first | ~base 0 _ _ | ~bases 0 _ _ | simp[lP]at h3
 | succ n ih =>
  intro x y h1 h2 h3
  have lists:∀(xs ys:List D),xs.all (okP n)=true->ys.all (okP n)=true->FF (eqD M n) (lP M n) xs ys=true ->
    (xs=ys/\xW (eqD M n) (ltD M n) xs ys=false/\xW (eqD M n) (ltD M n) ys xs=false) \/
    (xs≠ys/\xW (eqD M n) (ltD M n) xs ys=true/\xW (eqD M n) (ltD M n) ys xs=false/\cU (LD (enc n) xs) (LD (enc n) ys)) \/
    (xs≠ys/\xW (eqD M n) (ltD M n) xs ys=false/\xW (eqD M n) (ltD M n) ys xs=true/\cU (LD (enc n) ys) (LD (enc n) xs)):=by
   intro xs
   induction xs with
   | nil =>
    intro ys _ _ _
    cases ys with
    | nil=>~.inl ⟨rfl,rfl,rfl⟩
    | cons y ys=>~.inr (.inl ⟨by simp,rfl,rfl,cU.head _ _ (by decide)⟩)
   | cons x xs hi =>
    intro ys h1 h2 h3
    cases ys with
    | nil=>~.inr (.inr ⟨by simp,rfl,rfl,cU.head _ _ (by decide)⟩)
    | cons y ys =>
     rw[ABF,AAD]at h1 h2
     rw[FF]at h3
     have qe:=NM M n x y h1.1 h2.1
     have qe':=NM M n y x h2.1 h1.1
     rw[xW,xW]
     by_cases hq:x=y
     ·subst hq
      rw[if_pos (qe.mpr rfl)]at h3
      rw[if_pos (qe.mpr rfl),if_pos (qe.mpr rfl)]
      rcases hi ys h1.2 h2.2 h3 with⟨a1,a2,a3⟩|⟨a1,a2,a3,a4⟩|⟨a1,a2,a3,a4⟩
      ·~.inl ⟨by rw[a1],a2,a3⟩
      ·~.inr (.inl ⟨λz=>a1 (AEU z).2,a2,a3,(a4.pre (enc n x)).cons 1⟩)
      ·~.inr (.inr ⟨λz=>a1 (AEU z).2,a2,a3,(a4.pre (enc n x)).cons 1⟩)
     ·have n1:¬eqD M n x y=true:=λz=>hq (qe.mp z)
      have n2:¬eqD M n y x=true:=λz=>hq (qe'.mp z).symm
      rw[if_neg n1]at h3
      rw[if_neg n1,if_neg n2]
      rcases ih x y h1.1 h2.1 h3 with⟨a1,_⟩|⟨a1,a2,a3,a4⟩|⟨a1,a2,a3,a4⟩
      ·~absurd a1 hq
      ·~.inr (.inl ⟨λz=>hq (AEU z).1,a2,a3,(a4.more _ _).cons 1⟩)
      ·~.inr (.inr ⟨λz=>hq (AEU z).1,a2,a3,(a4.more _ _).cons 1⟩)
  cases x with
  | int a=>cases y<;>simp[okP]at h2<;>first | ~base (n+1) _ _ | simp[lP]at h3
  | str a=>cases y<;>simp[okP]at h2<;>first | ~bases (n+1) _ _ | simp[lP]at h3
  | tup xs =>
   cases y with
   | tup ys =>
    rcases lists xs ys (by simpa [okP]using h1) (by simpa [okP]using h2) h3 with⟨a1,a2,a3⟩|⟨a1,a2,a3,a4⟩|⟨a1,a2,a3,a4⟩
    ·~.inl ⟨by rw[a1],a2,a3⟩
    ·~.inr (.inl ⟨λz=>a1 (D.tup.inj z),a2,a3,a4.cons 2⟩)
    ·~.inr (.inr ⟨λz=>a1 (D.tup.inj z),a2,a3,a4.cons 2⟩)
   | _=>simp[lP]at h3
  | _=>simp[okP]at h1
¶Ke{M:Mem}{n:Nat}{x y:D}(h1:okP n x=true)(h2:okP n y=true)(h3:lP M n x y=true):ltD M n x y=decide (enc n x<enc n y):=by
 rcases tri_D M n x y h1 h2 h3 with⟨a1,a2,a3⟩|⟨a1,a2,a3,a4⟩|⟨a1,a2,a3,a4⟩
 ·subst a1;rw[a2,decide_eq_false (ADE _)]
 ·rw[a2,decide_eq_true a4.lt]
 ·rw[a2,decide_eq_false (λz=>ADE _ (List.lt_trans z a4.lt))]
end L2
namespace L2
open PySem PySem.Spec PyProof.Rows DL PySem.W
section
variable{X:Cx}{pins:List (Addr×Obj)}{σ:St}{H:Hp}{s:Shared}
¶Inv.laidF{a:Addr}{o:HO}{h':Heap}{t':Nat}{m:Str->Option Value}(I:Inv X pins σ H s)(k:∀b u,b≠X.env.locals->s.heap.get? b=some u->h'.get? b=some u)(hn:s.heap.Ns X.env.locals m)(hn':h'.Ns X.env.locals m)
  (hp:s.heap.get? a=none) (fa:H a=none) (new:cL X.prog X.w (upd H a o) h' a o):Inv X pins σ (upd H a o) { s with heap:=h',toks:=t' }:=by
 have nea:∀b u,s.heap.get? b=some u->b≠a:=λb u e z=>by subst z;rw[hp]at e;cases e
 !I.step (g':=s.gens) (d':=s.drawn) (ch:=[]) (λ_ z=>nomatch z) (λb u hL _ _ e _=>k b u hL e) (λb u hL _ _ e _=>⟨u.slots,k b u hL e⟩) (λb u _ e n=>by rw[aJ (nea b u e)];~n) (λb u _ e=>?_)
  (λb xs q=>by rw[aJ (au q fa)];~q) (λb u xs q=>by rw[aJ (au q fa)];~q) (λb ps q=>⟨#[],by rw[aJ (au q fa),q];simp⟩) (λm' hm=>?_) (λb w q=>?_) I.bare
 ·by_cases hb:b=X.env.locals
  ·subst hb
   #⟨o',_,_,ho,_⟩:=hn'
   ~⟨o',ho⟩
  ·~⟨u,k b u hb e⟩
 ·have:m=m':=funext λx=>hn.agree hm x
  subst this
  ~hn'
 ·by_cases hb:b=a
  ·subst hb
   rw[bB]at q
   cases q
   ~new
  ·rw[aJ hb]at q
   !(I.hok b w q).stay (λc v hc r=>k c v ?_ r) (λc z=>by rw[aJ (au z fa)];~z) λc xs z=>by rw[aJ (au z fa)];~z
   rcases hc with rfl | hc
   ·~au q I.free
   ·~au hc I.free
¶Inv.keptF{h':Heap}{t':Nat}{m:Str->Option Value}(I:Inv X pins σ H s)(k:∀b u,b≠X.env.locals->s.heap.get? b=some u->h'.get? b=some u)(hn:s.heap.Ns X.env.locals m)(hn':h'.Ns X.env.locals m):Inv X pins σ H { s with heap:=h',toks:=t' }:=by
 !I.step (g':=s.gens) (d':=s.drawn) (ch:=[]) (λ_ z=>nomatch z) (λb u hL _ _ e _=>k b u hL e) (λb u hL _ _ e _=>⟨u.slots,k b u hL e⟩) (λb u _ e n=>n) (λb u _ e=>?_)
  (λb xs q=>q) (λb u xs q=>q) (λb ps q=>⟨#[],by rw[q];simp⟩) (λm' hm=>?_) (λb w q=>?_) I.bare
 ·by_cases hb:b=X.env.locals
  ·subst hb
   #⟨o',_,_,ho,_⟩:=hn'
   ~⟨o',ho⟩
  ·~⟨u,k b u hb e⟩
 ·have:m=m':=funext λx=>hn.agree hm x
  subst this
  ~hn'
 ·!(I.hok b w q).stay (λc v hc r=>k c v ?_ r) (λc z=>z) λc xs z=>z
  rcases hc with rfl | hc
  ·~au q I.free
  ·~au hc I.free
end
section
variable{prog:Program}{w:World}{A:Around}{E:Value->Shared->Prop}{s:Shared}
¶uu{l:Addr}{vs:List Value}{Q:Value->Shared->Prop}(hl:s.heap.IsList l vs.toArray)(h2:vs.length<2)
  (h:∀D h' n,s.heap.objs.size<=D->(∀b o,s.heap.get? b=some o->h'.get? b=some o)->h'.get? D=some { cls:=.type "list",data:=.seq vs.toArray n }->Q (.ref D) { s with heap:=h' }) :
  wpAny (model prog w) A (call (.builtin "sorted") ([AB3 l])) Q E s:=by
 have few:vs.length<=sizeLine:=by rw[ABm];&
 !Calls.call_function_entry kind_sorted plain_sorted entry_sorted (args_sorted1 (.ref l)) ?_
 unfold Builtin.«sorted»
 !AA0 (m:=checkCount "sorted" 1 1 _) (AA3 (AA0 (collect_list hl (AA0 (AE5 ?_ few)) few)))
 generalize hg:((s.heap.push (seqObj "list" #[] 0)).update s.heap.objs.size (ABZ (· ++ vs.toArray)))=g1
 have hsz:g1.objs.size=s.heap.objs.size+1:=by rw[←hg,Heap.size_update,size_push']
 have k1:∀b o,s.heap.get? b=some o->g1.get? b=some o:=λb o q=>by
  have hlt:=AAG q
  rw[←hg,ACj _ _ _ _ (AAQ hlt),Heap.get?_push_ne _ _ _ (AAQ hlt)]
  ~q
 show wpAny _ _ _ _ _ { s with heap:=g1.push (seqObj "list" vs.toArray 0) }
 have hoL:(g1.push (seqObj "list" vs.toArray 0)).get? g1.objs.size=some (seqObj "list" vs.toArray 0):=AAE _ rfl
 !AA0 (AAp (AAm slot_list_sort (⟨_,hoL,rfl⟩) entry_list_sort ?body (args_list_sort (.ref _))))
 case body =>
  rw[list_sort_plain]
  !AA0 (listItems_at hoL rfl ?_)
  !AA0 (listUpdate_at hoL rfl ?_ (by rw[AAB,ABm];&) (AAT _))
  obtain⟨e1,ho1⟩:∃e1,((g1.push (seqObj "list" vs.toArray 0)).update g1.objs.size (ABZ λ_=>(#[]:Array Value))).get? g1.objs.size=some (seqObj "list" #[] e1):=⟨_,AEE hoL λ_=>#[]⟩
  !AA0 (seqEpoch_at ho1 rfl (AA0 (wpAny_newTuple (AA0 (AE5 (AAp ?_) (AAT _))) few)))
  dsimp only
  have hv2:vs.toArray.size<2:=by rw[AAB];~h2
  rw[if_pos hv2,if_pos hv2]
  !AA0 (AA3 ?_)
  rw[StateT.run_pure]
  !AA0 (AA3 ?_)
  dsimp only
  generalize hg3:(((g1.push (seqObj "list" vs.toArray 0)).update g1.objs.size (ABZ λ_=>(#[]:Array Value))).push (seqObj "tuple" vs.toArray 0)).push (seqObj "list" #[] 0)=g3
  have ho3:g3.get? g1.objs.size=some (seqObj "list" #[] e1):=by rw[←hg3];~AA4 _ (AA4 _ ho1)
  have k3:∀b o,b≠g1.objs.size->s.heap.get? b=some o->g3.get? b=some o:=λb o hb q=>by
   have q1:=k1 b o q
   rw[←hg3]
   !AA4 _ (AA4 _ ?_)
   rw[ACj _ _ _ _ hb]
   ~AA4 _ q1
  !AA0 (seqEpoch_at ho3 rfl ?_)
  have eo:∀us:List Value,us.length<2->(us.toArray.zip us.toArray).map (·.2)=us.toArray:=λus hu=>by
   match us,hu with
   | [],_=>simp
   | [v],_=>simp
   | _::_::_,hu=>simp at hu;&
  have eout:(arrOf (SortSt.mk' general' (vs.toArray.zip vs.toArray) #[] 7 none)).map (·.2)=vs.toArray:=eo vs h2
  rw[eout]
  !AA0 (listUpdate_at ho3 rfl ?_ (AAT _) (by rw[AAB,ABm];&))
  simp only[show failedOf (SortSt.mk' general' (vs.toArray.zip vs.toArray) #[] 7 none)=none from rfl,bne_self_eq_false,AAF,if_false]
  !AA3 ⟨_,rfl,AA3 ⟨_,rfl,?_⟩⟩
  obtain⟨c2,hc2⟩:∃c2,(g3.update g1.objs.size (ABZ λ_=>vs.toArray)).get? g1.objs.size=some (seqObj "list" vs.toArray c2):=⟨_,AEE ho3 λ_=>vs.toArray⟩
  !h g1.objs.size _ c2 ¤ (λb o q=>?_) hc2
  have hb:b≠g1.objs.size:=AAQ (by rw[hsz];~ACA (AAG q))
  rw[ACj _ _ _ _ hb]
  ~k3 b o hb q
end
structure SrtOk(M:Mem)(xs:List D):Prop where
 len:xs.length<64
 ok:∀x∈xs,okP eqN x=true
 cm:∀x∈xs,∀y∈xs,lP M eqN x y=true
 kd:(∀x∈xs,∃z,x=.str z)\/(∀x∈xs,∃i,x=.int i)\/(∀x∈xs,∃z r,x=.tup (.str z::r))\/(∀x∈xs,∃i r,x=.tup (.int i::r))\/(∀x∈xs,∃z r,x=.tup (.tup z::r))
structure SrtG(M:Mem)(xs:List D):Prop where
 len:xs.length<64
 okd:∀x∈xs,okD M eqN x=true
 cm:∀x∈xs,∀y∈xs,lP M eqN x y=true
 kd:(∀x∈xs,∃z,x=.str z)\/(∀x∈xs,∃i,x=.int i)\/(∀x∈xs,∃z r,x=.tup (.str z::r))\/(∀x∈xs,∃i r,x=.tup (.int i::r))\/(∀x∈xs,∃z r,x=.tup (.tup z::r))
 od:∃en:D->List Int,∀a∈xs,∀b∈xs,ltD M eqN a b=decide (en a<en b)
¶SrtOk.g{M:Mem}{xs:List D}(so:SrtOk M xs):SrtG M xs :=
 ⟨so.len,λx hx=>MR M _ _ (so.ok x hx),so.cm,so.kd,enc eqN,λa ha b hb=>Ke (so.ok a ha) (so.ok b hb) (so.cm a ha b hb)⟩
def BN(M:Mem)(ys:List D):Prop:=ys.Pairwise λa b=>ltD M eqN b a=false
def Db:DRA:=λds M Q=>match ds with
 | [.ref n]=>∃xs,aA M n xs/\SrtG M xs/\∀ys,ys.Perm xs->BN M ys->Q (.ref M.length) (M++[.lst ys])
 | _=>False
¶Reps.perm{K:AA5}{ρ:List Addr}{H:Hp}{ds:List D}{vs:List V}(r:Reps K ρ H ds vs)(is:List Nat)(hi:∀i∈is,i<ds.length):Reps K ρ H (is.map λi=>ds.getD i .non) (is.map λi=>vs.getD i .non):=by
 induction is with
 | nil=>~.nil
 | cons i is ih =>
  have h:=hi i AAI
  #⟨v,e,rv⟩:=r.get (AA7 h)
  !.cons ?_ (ih λj hj=>hi j (AA9 _ hj))
  show Rep K ρ H (ds.getD i .non) (vs.getD i .non)
  rw[AAP,AAP,e,AA7 h]
  ~rv
¶aL.perm{vs:List V}{us:List Value}(r:aL vs us)(is:List Nat)(hi:∀i∈is,i<vs.length):aL (is.map λi=>vs.getD i .non) (is.map λi=>us.getD i .none):=by
 induction is with
 | nil=>~.nil
 | cons i is ih =>
  have h:=hi i AAI
  #⟨v,e,rv⟩:=jy r (AA7 h)
  !.cons ?_ (ih λj hj=>hi j (AA9 _ hj))
  show bi (vs.getD i .non) (us.getD i .none)
  rw[AAP,AAP,e,AA7 h]
  ~rv
instance:Inhabited D:=⟨.non⟩
section
variable{X:Cx}{pins:List (Addr×Obj)}{σ:St}{H:Hp}{s:Shared}{ρ:List Addr}{M:Mem}
¶Kc{P:Program}{w:World}{h:Heap}{a:Addr}:∀(o:HO),cL P w H h a o->∃u,h.get? a=some u
 | .lst _,⟨_,_,_,_,e⟩=>⟨_,e⟩
 | .tup _,⟨_,_,_,o,e,_⟩=>⟨o,e⟩
 | .dK _,⟨_,_,_,_,_,_,_,e,_⟩=>⟨_,e⟩
 | .dT _,⟨_,_,_,_,o,_,_,e,_⟩=>⟨o,e⟩
 | .set _ _,x=>by #⟨o,_,_,_,e,_⟩:=x;~⟨_,e⟩
 | .ins _ _ _,⟨_,_,_,e,_⟩=>⟨_,e⟩
 | .own _,x=>x
 | .xd _,⟨_,⟨_,_,_,e,_⟩,_⟩=>⟨_,e⟩
 | .rng _ _,⟨_,_,_,e⟩=>⟨_,e⟩
 | .frz _ _,⟨e,_⟩=>⟨_,e⟩
 | .tbl _,e=>⟨_,e⟩
 | .met _ _,e=>⟨_,e⟩
 | .ext _,⟨_,e,_⟩=>e
¶HOk.none{P:Program}{w:World}{h:Heap}{a:Addr}(x:HOk P w H h)(e:h.get? a=none):H a=none:=by
 cases q:H a with
 | none=>rfl
 | some o =>
  exfalso
  #⟨u,hu⟩:=Kc o (x a o q)
  rw[e]at hu;cases hu
¶Kg(I:Inv X pins σ H s)(sm:Sim X.K ρ M H)(n:Nat)(A:Around)(hu:A.units+n<cLine):∀(ds es:List D) (vs ws:List V) (its jts:List Value),Reps X.K ρ H ds vs->aL vs its->Reps X.K ρ H es ws->aL ws jts->ds.all (okD M n)=true->es.all (okD M n)=true ->
  FF (eqD M n) (lP M n) ds es=true->LexAt A s its jts (xW (eqD M n) (ltD M n) ds es):=by
 intro ds
 induction ds with
 | nil =>
  intro es vs ws its jts p1 q1 p2 q2 _ _ _
  cases p1;cases q1
  cases p2 with
  | nil=>cases q2;~.nn
  | cons _ _=>cases q2;~.nc
 | cons d ds hi =>
  intro es vs ws its jts p1 q1 p2 q2 k1 k2 k3
  cases p1 with
  | cons a1 p1 =>
   cases q1 with
   | cons b1 q1 =>
    cases p2 with
    | nil=>cases q2;~.cn
    | @cons e _ es' _ a2 p2 =>
     cases q2 with
     | cons b2 q2 =>
      rw[ABF,AAD]at k1 k2
      have he:=(oQ I sm n A d _ _ _ _ _ hu a1 b1 a2 b2 k1.1 k2.1).1
      rw[xW]
      rw[FF]at k3
      by_cases hq:eqD M n d e=true
      ·rw[hq]at he
       rw[if_pos hq]at k3 ⊢
       ~.eq he (hi _ _ _ _ _ p1 q1 p2 q2 k1.2 k2.2 k3)
      ·have hq':=ABs.mpr hq
       rw[hq']at he
       rw[if_neg hq]at k3 ⊢
       ~.ne he (DQ I sm n A _ _ _ _ _ _ hu a1 b1 a2 b2 k1.1 k2.1 k3)
end
section
variable{prog:Program}{w:World}{A:Around}{s:Shared}{b:Bool}{Q:Bool->Shared->Prop}
¶Ha{its jts:List Value}{k:Bool}(h:LexAt A s its jts k):∀(i:Nat),(b&&i==0)=false->(b&&i+1==0)=false->Q k s->KatLex prog w A b (decide (its.length<jts.length)) Q (its.zip jts) i s:=by
 have un:∀i:Nat,(b&&i+1==0)=false:=λi=>by cases b<;>simp
 induction h with
 | nn=>intro i _ _ q;~q
 | nc=>intro i _ _ q;~(show Q (decide (0<_+1)) s by rw[decide_eq_true (Nat.succ_pos _)];~q)
 | cn=>intro i _ _ q;~(show Q (decide (_+1<0)) s by rw[decide_eq_false (ABy _)];~q)
 | @eq x y xs ys k he t ih =>
  intro i hb _ q
  !kat_cons (he prog w _ _ (kat_yes ?_))
  have:=ih (i+1) (un i) (un (i+1)) q
  rw[show decide ((x::xs).length<(y::ys).length)=decide (xs.length<ys.length) by simp]
  ~this
 | @ne x y xs ys k he t =>
  intro i hb _ q
  !kat_cons (he prog w _ _ (kat_no ?_))
  rw[hb]
  ~kat_one _ _ (t prog w _ _ q)
¶En{p q:Value}{its jts:List Value}{e l k:Bool}(he:ACp A s p q e)(hl:e=false->∀Q':Bool->Shared->Prop,Q' l s->wpAny (model prog w) A (oneLt' (b&&0==0) p q) Q' (λ_ _=>False) s)(ht:e=true->LexAt A s its jts k)(h:Q (if e=true then k else l) s) :
  KatLex prog w A b (decide ((p::its).length<(q::jts).length)) Q ((p::its).zip (q::jts)) 0 s:=by
 !kat_cons (he prog w _ _ ?_)
 cases e with
 | true =>
  !kat_yes ?_
  rw[show decide ((p::its).length<(q::jts).length)=decide (its.length<jts.length) by simp]
  ~Ha (ht rfl) 1 (by cases b<;>rfl) (by cases b<;>rfl) h
 | false=>~kat_no (hl rfl _ h)
end
section
variable{X:Cx}{pins:List (Addr×Obj)}{σ:St}{H:Hp}{s:Shared}{ρ:List Addr}{M:Mem}
¶vC{M:Model}{h:Heap}{x:Str}{t:Tok}:Looks M h (typeOf (.str x t)) (.type "str"):=Looks.of_pure rfl
¶vD{M:Model}{h:Heap}{x:Int}{t:Tok}:Looks M h (typeOf (.int x t)) (.type "int"):=Looks.of_pure rfl
¶Reps.getD'{ds:List D}{vs:List V}{its:List Value}(r:Reps X.K ρ H ds vs)(rr:aL vs its){i:Nat}(h:i<ds.length):∃v,Rep X.K ρ H (ds.getD i default) v/\bi v (its.getD i .none)/\ds.getD i default∈ds:=by
 #⟨v,e,rv⟩:=r.get (AA7 h)
 #⟨u,e',ru⟩:=jy rr e
 !⟨v,?_,?_,?_⟩
 ·rw[AAP,AA7 h];~rv
 ·rw[AAP,e'];~ru
 ·rw[AAP,AA7 h];~AAn h
¶Reps.mem{ds:List D}{vs:List V}{its:List Value}(r:Reps X.K ρ H ds vs)(rr:aL vs its){u:Value}(h:u∈its):∃d v,d∈ds/\Rep X.K ρ H d v/\bi v u:=by
 induction ds generalizing vs its with
 | nil=>cases r;cases rr;cases h
 | cons d0 ds ih =>
  cases r with
  | cons r1 r =>
   cases rr with
   | cons q1 q =>
    rcases(AAH (a:=u)).mp h with rfl | h
    ·~⟨_,_,AAI,r1,q1⟩
    ·#⟨d,v,h1,h2,h3⟩:=ih r q h
     ~⟨d,v,AA9 _ h1,h2,h3⟩
¶yp(I:Inv X pins σ H s){xs:List D}{ws:List V}{its:List Value}(r:Reps X.K ρ H xs ws)(rr:aL ws its)(hx:∀x∈xs,∃f r,x=.tup (f::r)) :
  ∃fs,KatTups s.heap its fs/\fs.length=its.length/\∀u∈fs,∃d v,Rep X.K ρ H d v/\bi v u/\∃r,D.tup (d::r)∈xs:=by
 induction xs generalizing ws its with
 | nil=>cases r;cases rr;~⟨[],.nil,rfl,λ_ z=>nomatch z⟩
 | cons d ds ih =>
  cases r with
  | cons r1 r =>
   cases rr with
   | cons q1 q =>
    #⟨fs,h1,h2,h3⟩:=ih r q λx hx'=>hx x (AA9 _ hx')
    #⟨f,bn,rfl⟩:=hx d AAI
    cases r1 with
    | tup hq rs =>
     cases q1
     #⟨its,rv,pl,hz⟩:=I.tuple hq
     cases rs with
     | cons a1 rs =>
      cases rv with
      | cons b1 rv =>
       #⟨o,ho,hc,n,hd⟩:=pl
       !⟨_::fs,.cons ho hc hd rfl h1,by simp[h2],λu hu=>?_⟩
       rcases AAH.mp hu with rfl | hu
       ·~⟨_,_,a1,b1,_,AAI⟩
       ·#⟨d,v,e1,e2,r',e3⟩:=h3 u hu
        ~⟨d,v,e1,e2,r',AA9 _ e3⟩
def ltc(M:Mem)(xs:List D)(i j:Nat):Bool:=ltD M eqN (xs.getD i default) (xs.getD j default)
¶uw(I:Inv X pins σ H s)(sm:Sim X.K ρ M H){xs:List D}{ws:List V}{its:List Value}(so:SrtG M xs)(r:Reps X.K ρ H xs ws)(rr:aL ws its)(h2:2<=its.length){A:Around}(hu:A.units+eqN<cLine) :
  wpAny (model X.prog X.w) A (keyKind' its.toArray) (λκ s'=>s'=s/\∀i j (C:Bool->Shared->Prop),i<its.length->j<its.length->C (ltc M xs i j) s->kas_ask X.prog X.w A κ its i j C s) (λ_ _=>False) s:=by
 have lw:=r.length
 have li:=rr.length
 have le:xs.length=its.length:=¤
 have tups:∀(b:Bool),(∀x∈xs,∃f r,x=.tup (f::r))->(∀(f g:D) (vf vg:V) (p q:Value) (r r':List D),D.tup (f::r)∈xs->D.tup (g::r')∈xs->Rep X.K ρ H f vf->bi vf p->Rep X.K ρ H g vg->bi vg q ->
   (eqD M 29 f g=false->∀Q':Bool->Shared->Prop,Q' (ltD M 29 f g) s->wpAny (model X.prog X.w) A (oneLt' (b&&0==0) p q) Q' (λ_ _=>False) s)) ->
   ∀i j (C:Bool->Shared->Prop),i<its.length->j<its.length->C (ltc M xs i j) s->kas_ask X.prog X.w A (tuples' b) its i j C s:=by
  intro b hx hone i j C hi hj hc
  unfold kas_ask
  #⟨v1,r1,e1,m1⟩:=r.getD' rr (show i<xs.length by &)
  #⟨v2,r2,e2,m2⟩:=r.getD' rr (show j<xs.length by &)
  unfold ltc at hc
  have k1:=so.okd _ m1
  have k2:=so.okd _ m2
  have k3:=so.cm _ m1 _ m2
  generalize xs.getD i default=x at *
  generalize xs.getD j default=y at *
  #⟨f,rf,rfl⟩:=hx _ m1
  #⟨g,rg,rfl⟩:=hx _ m2
  cases r1 with
  | tup hq rs =>
   cases r2 with
   | tup hq' rs' =>
    generalize its.getD i .none=u1 at *
    generalize its.getD j .none=u2 at *
    cases e1;cases e2
    #⟨as,ra,pa,_⟩:=I.tuple hq
    #⟨bs,rb,pb,_⟩:=I.tuple hq'
    #⟨o,ho,_,n,hd⟩:=pa
    #⟨o',ho',_,n',hd'⟩:=pb
    !kat_lt ho hd ho' hd' ?_
    cases rs with
    | cons a1 rs =>
     cases ra with
     | @cons _ p _ la b1 ra =>
      cases rs' with
      | cons a2 rs' =>
       cases rb with
       | @cons _ q _ lb b2 rb =>
        have hu':A.units+29<cLine:=by have:eqN=30:=rfl;&
        have z1:okD M 29 f=true/\rf.all (okD M 29)=true:=by
         have:(f::rf).all (okD M 29)=true:=k1
         rwa [ABF,AAD]at this
        have z2:okD M 29 g=true/\rg.all (okD M 29)=true:=by
         have:(g::rg).all (okD M 29)=true:=k2
         rwa [ABF,AAD]at this
        have z3:(if eqD M 29 f g=true then FF (eqD M 29) (lP M 29) rf rg else lP M 29 f g)=true:=k3
        have he:=(oQ I sm 29 A _ _ _ _ _ _ hu' a1 b1 a2 b2 z1.1 z2.1).1
        have hc':C (if eqD M 29 f g=true then xW (eqD M 29) (ltD M 29) rf rg else ltD M 29 f g) s:=hc
        cases hq3:eqD M 29 f g with
        | true =>
         rw[hq3]at he hc' z3
         have:=En (prog:=X.prog) (w:=X.w) (b:=b) (Q:=C) (l:=true) he (λz=>nomatch z) (λ_=>Kg I sm 29 A hu' _ _ _ _ _ _ rs ra rs' rb z1.2 z2.2 z3) hc'
         simpa using this
        | false =>
         rw[hq3]at he hc'
         have:=En (prog:=X.prog) (w:=X.w) (b:=b) (Q:=C) (l:=ltD M 29 f g) (its:=la) (jts:=lb) (k:=true) he (λ_=>hone f g _ _ _ _ _ _ m1 m2 a1 b1 a2 b2 hq3) (λz=>nomatch z) hc'
         simpa using this
 have fin:∀(κ:SortKind),(∀i j (C:Bool->Shared->Prop),i<its.length->j<its.length->C (ltc M xs i j) s->kas_ask X.prog X.w A κ its i j C s)->(s=s/\∀i j (C:Bool->Shared->Prop),i<its.length->j<its.length->C (ltc M xs i j) s->kas_ask X.prog X.w A κ its i j C s):=λκ h=>⟨rfl,h⟩
 have eqn:A.units+29<cLine:=by have:eqN=30:=rfl;&
 rcases so.kd with hk | hk | hk | hk | hk
 ·!kas_kind (T:=.type "str") h2 (λu hu=>?_) (by decide) (by decide) (fin _ λi j C hi hj hc=>?_)
  ·#⟨d,v,m1,r1,e1⟩:=r.mem rr hu
   #⟨z,rfl⟩:=hk d m1
   cases r1
   #⟨t,rfl⟩:=e1
   ~vC
  ·unfold kas_ask
   #⟨v1,r1,e1,m1⟩:=r.getD' rr (show i<xs.length by &)
   #⟨v2,r2,e2,m2⟩:=r.getD' rr (show j<xs.length by &)
   unfold ltc at hc
   #⟨z,hz⟩:=hk _ m1
   #⟨z',hz'⟩:=hk _ m2
   rw[hz]at r1 hc
   rw[hz']at r2 hc
   cases r1;cases r2
   #⟨t,h1⟩:=e1
   #⟨t',h2⟩:=e2
   rw[h1,h2]
   ~kas_lt_str hc
 ·!kas_kind (T:=.type "int") h2 (λu hu=>?_) (by decide) (by decide) (fin _ λi j C hi hj hc=>?_)
  ·#⟨d,v,m1,r1,e1⟩:=r.mem rr hu
   #⟨z,rfl⟩:=hk d m1
   cases r1
   #⟨t,rfl⟩:=e1
   ~vD
  ·unfold kas_ask
   #⟨v1,r1,e1,m1⟩:=r.getD' rr (show i<xs.length by &)
   #⟨v2,r2,e2,m2⟩:=r.getD' rr (show j<xs.length by &)
   unfold ltc at hc
   #⟨z,hz⟩:=hk _ m1
   #⟨z',hz'⟩:=hk _ m2
   rw[hz]at r1 hc
   rw[hz']at r2 hc
   cases r1;cases r2
   #⟨t,h1⟩:=e1
   #⟨t',h2⟩:=e2
   rw[h1,h2]
   ~kat_lt_int hc
 ·#⟨fs,t1,t2,t3⟩:=yp I r rr λx hx=>(hk x hx).elim λz ⟨r,e⟩=>⟨_,_,e⟩
  !kat_kind (T:=.type "str") t1 ¤ (λu hu=>?_) (by decide) (fin _ (tups _ (λx hx=>(hk x hx).elim λz ⟨r,e⟩=>⟨_,_,e⟩) λf g vf vg p q r r' m1 m2 r1 e1 r2 e2 hq Q' h=>?_))
  ·#⟨d,v,r1,e1,r',m1⟩:=t3 u hu
   #⟨z,r'',e⟩:=hk _ m1
   cases e
   cases r1
   #⟨t,rfl⟩:=e1
   ~vC
  ·#⟨z,_,e⟩:=hk _ m1
   cases e
   #⟨z',_,e'⟩:=hk _ m2
   cases e'
   cases r1;cases r2
   #⟨t,rfl⟩:=e1
   #⟨t',rfl⟩:=e2
   ~oneLt_str h
 ·#⟨fs,t1,t2,t3⟩:=yp I r rr λx hx=>(hk x hx).elim λz ⟨r,e⟩=>⟨_,_,e⟩
  !kat_kind (T:=.type "int") t1 ¤ (λu hu=>?_) (by decide) (fin _ (tups _ (λx hx=>(hk x hx).elim λz ⟨r,e⟩=>⟨_,_,e⟩) λf g vf vg p q r r' m1 m2 r1 e1 r2 e2 hq Q' h=>?_))
  ·#⟨d,v,r1,e1,r',m1⟩:=t3 u hu
   #⟨z,r'',e⟩:=hk _ m1
   cases e
   cases r1
   #⟨t,rfl⟩:=e1
   ~vD
  ·#⟨z,_,e⟩:=hk _ m1
   cases e
   #⟨z',_,e'⟩:=hk _ m2
   cases e'
   cases r1;cases r2
   #⟨t,rfl⟩:=e1
   #⟨t',rfl⟩:=e2
   ~oneLt_int h
 ·#⟨fs,t1,t2,t3⟩:=yp I r rr λx hx=>(hk x hx).elim λz ⟨r,e⟩=>⟨_,_,e⟩
  !kat_kind (T:=.type "tuple") t1 ¤ (λu hu=>?_) (by decide) (fin _ (tups _ (λx hx=>(hk x hx).elim λz ⟨r,e⟩=>⟨_,_,e⟩) λf g vf vg p q r r' m1 m2 r1 e1 r2 e2 hq Q' h=>?_))
  ·#⟨d,v,r1,e1,r',m1⟩:=t3 u hu
   #⟨z,r'',e⟩:=hk _ m1
   cases e
   cases r1 with
   | tup hq rs =>
    cases e1
    #⟨_,_,pl,_⟩:=I.tuple hq
    #⟨o,ho,hc,_⟩:=pl
    rw[←hc]
    ~(show Looks _ s.heap (typeOf (.ref _)) o.cls from(Looks.ld ho).andThen .now)
  ·have k1:okD M 29 f=true:=by
    have:(f::r).all (okD M 29)=true:=so.okd _ m1
    rw[ABF,AAD]at this
    ~this.1
   have k2:okD M 29 g=true:=by
    have:(g::r').all (okD M 29)=true:=so.okd _ m2
    rw[ABF,AAD]at this
    ~this.1
   have k3:(if eqD M 29 f g=true then FF (eqD M 29) (lP M 29) r r' else lP M 29 f g)=true:=so.cm _ m1 _ m2
   rw[hq]at k3
   ~kat_one _ _ (DQ I sm 29 A _ _ _ _ _ _ eqn r1 e1 r2 e2 k1 k2 k3 _ _ _ _ h)
end
section
variable{X:Cx}{pins:List (Addr×Obj)}{σ:St}{H:Hp}{s:Shared}{ρ:List Addr}{M:Mem}
¶MG{xs:List D}(so:SrtG M xs):(∀a∈xs,ltD M eqN a a=false)/\(∀a∈xs,∀b∈xs,∀d∈xs,ltD M eqN a b=true->ltD M eqN b d=true->ltD M eqN a d=true)/\∀a∈xs,∀b∈xs,∀d∈xs,ltD M eqN a d=true->ltD M eqN a b=true\/ltD M eqN b d=true:=by
 #⟨en,e⟩:=so.od
 !⟨λa ha=>?_,λa ha b hb d hd h1 h2=>?_,λa ha b hb d hd h=>?_⟩
 ·rw[e a ha a ha,decide_eq_false (ADE _)]
 ·rw[e a ha b hb,decide_eq_true_eq]at h1
  rw[e b hb d hd,decide_eq_true_eq]at h2
  rw[e a ha d hd,decide_eq_true_eq]
  ~List.lt_trans h1 h2
 ·rw[e a ha d hd,decide_eq_true_eq]at h
  rw[e a ha b hb,e b hb d hd,decide_eq_true_eq,decide_eq_true_eq]
  by_cases z:en a<en b
  ·~.inl z
  ·have z':en b<=en a:=z
   ~.inr (List.lt_of_le_of_lt z' h)
¶Ga{k:Nat}{l:Addr}{xs:List D}{ws:List V}{its:List Value}{R:VK}(hr:Room k X.A)(I:Inv X pins σ H s)(sm:Sim X.K ρ M H)(so:SrtG M xs)(r:Reps X.K ρ H xs ws)(rr:aL ws its)(hl:s.heap.IsList l its.toArray)(hz:ws.length<=sizeLine)(h2:2<=its.length)(h64:its.length<64)
  (hne:l≠X.env.locals) (kk:∀v H',((∀Q:DK,(∀ys,ys.Perm xs->BN M ys->Q (.ref M.length) (M++[.lst ys]))->VQ X.K ρ H Q v H'))->R v H') :
  wpAny (model X.prog X.w) X.A (call (.builtin "sorted") [.ref l]) (EP X pins σ R) X.xe s:=by
 #⟨m,hn,hm⟩:=I.loc
 have lw:=r.length
 have li:=rr.length
 #⟨ol,hol,_⟩:=id hl
 have mem:∀a o,(a,o)∈[]++(l,ol)::Att.ledger s.heap X.env.locals l↔a≠X.env.locals/\s.heap.get? a=some o:=λa o=>by
  rw[AAr,AAH,Att.mem_ledger]
  constructor
  ·rintro(h | ⟨h1,_,h3⟩)
   ·cases h;~⟨hne,hol⟩
   ·~⟨h1,h3⟩
  ·rintro⟨h1,h2⟩
   by_cases hal:a=l
   ·subst hal
    rw[hol]at h2;cases h2
    ~.inl rfl
   ·~.inr ⟨h1,hal,h2⟩
 !kat_sorted (Att.fr_all hn) (Att.news_ledger hne hol) hl h2 h64 λD e1 h' F' N' lt=>?_
 have kp:∀b u,b≠X.env.locals->s.heap.get? b=some u->h'.get? b=some u:=λb u hb e=>(N' (b,u) (AA9 _ ((mem b u).mpr ⟨hb,e⟩))).1
 have hDL:D≠X.env.locals:=(N' _ AAI).2.1
 have hD:s.heap.get? D=none:=by
  cases q:s.heap.get? D with
  | none=>rfl
  | some o=>~absurd (lt (D,o) ((mem D o).mpr ⟨hDL,q⟩)) (AAq _)
 have I':Inv X pins σ H { s with heap:=h' }:=I.keptF (t':=s.toks) kp hn F'.ns
 have hu:X.A.in1.in1.units+eqN<cLine:=by
  have:=hr.un
  have:eqN=30:=rfl
  show X.A.units+1+1+eqN<cLine
  &
 !ABi (uw I' sm so r rr h2 hu) (λκ s' hk=>?_) λ_ _ x=>x
 #⟨rfl,hask⟩:=hk
 !Srt.wp_run (n:=its.length) (c:=λi j=>if i<xs.length then(if j<xs.length then ltD M eqN (xs.getD i default) (xs.getD j default)else true)else false) (λi j C hi hj hc=>?_) _ (Srt.sort_bd ¤).1 ?_
 ·!hask i j C hi hj ?_
  rw[if_pos ¤,if_pos ¤]at hc
  ~hc
 ·have hent:=Srt.All.run (c:=λi j=>if i<xs.length then(if j<xs.length then ltD M eqN (xs.getD i default) (xs.getD j default)else true)else false) _ (Srt.sort_bd (n:=its.length) ¤).2
  #⟨o1,o2,o3⟩:=MG so
  have hsl:=Srt.sort_list xs ¤ o1 o2 o3
  try dsimp only at hsl
  rw[show xs.length=its.length by &]at hsl hent ⊢
  generalize Srt.run _ (AEK its.length)=p at hent hsl ⊢
  have hi:∀i∈p.toList,i<xs.length:=λi h=>by
   have:=hent.mem_iff.mp h
   rw[AAo]at this
   &
  !KasFin.intro F' N' (UpdF.head λq hq=>AAQ (lt q hq)) λh2 c F2 N2=>?_
  have r':=r.perm p.toList hi
  have rr':=rr.perm p.toList (λi h=>by have:=hi i h;&)
  have hD':H D=none:=HOk.none I.hok hD
  !⟨.ref D,_,I.laidF (t':=s.toks) (o:=.lst (p.toList.map λi=>ws.getD i .non)) (λb u hb e=>(N2 (b,u) (AA9 _ ((mem b u).mpr ⟨hb,e⟩))).1) hn F2.ns hD hD' ⟨?_,_,c,rr',(N2 _ AAI).1⟩,rfl,
   kk _ _ λQ hQ=>VQ.laidL sm .refl r' hD' (hQ _ hsl.1 hsl.2)⟩
  rw[AA6]
  have:=hsl.1.length_eq
  rw[AA6]at this
  &
end
¶Inv.sqL_ne{X:Cx}{pins:List (Addr×Obj)}{σ:St}{H:Hp}{s:Shared}{a:Addr}{xs:List V}(I:Inv X pins σ H s)(h:SqL X.K H a xs):a≠X.env.locals:=by
 rcases h with h | ⟨o,its,n,hk,_⟩
 ·rcases h with h | ⟨_,h⟩
  ·~au h I.free
  ·~au h I.free
 ·have:=AAG (I.mod.kin a o hk)
  ~AAQ (AAd this (ABN I.ok.bsz I.ok.above))
section
variable{X:Cx}
¶Fg{k:Nat}(hr:Room k X.A):mh X (.builtin "sorted") Db:=by
 intro pins s σ H vs us R I rv ⟨ds,M,ρ,Q,sm,rs,q,kk⟩
 unfold Db at q
 split at q
 ·#⟨xs,hL,so,q⟩:=q
  cases rs with
  | cons r1 rs =>
   cases rs
   #⟨u,rfl,e1⟩:=aL.one rv
   cases r1 with
   | ref e =>
    cases e1
    #⟨ws,hq,r⟩:=aA.seq sm hL e
    #⟨its,rr,pl,hz⟩:=I.list hq
    have lw:=r.length
    have li:=rr.length
    by_cases h2:its.length<2
    ·!uu pl.isList h2 λD h' n hD hk ho=>?_
     !⟨.ref D,_,I.laid (t':=s.toks) (o:=.lst ws) hk hD ⟨hz,its,n,rr,ho⟩,rfl,kk _ _ (VQ.laidL sm .refl r (I.hok.fresh hD) (q xs (ADF _) ?_))⟩
     unfold BN
     match xs,(show xs.length<2 by &) with
     | [],_=>~ADm
     | [x],_=>~ADa _ _
     | _::_::_,hx=>simp at hx;&
    ·have h2':2<=its.length:=¤
     have h64:its.length<64:=by have:=so.len;&
     ~Ga hr I sm so r rr pl.isList hz h2' h64 (I.sqL_ne hq) λv H' x=>kk v H' (x Q q)
 ·~q.elim
end
end L2
namespace L2
open PySem PySem.Spec PyProof.Rows DL PySem.W
section
variable{prog:Program}{w:World}{A:Around}{E:Value->Shared->Prop}{s:Shared}
¶vB{it t:Addr}{i:Nat}{items:Array Value}{x:Value}{Q:Value->Shared->Prop}(hit:s.heap.IsTupleIter it t i)(ht:s.heap.IsTuple t items)(hx:items[i]?=some x)
  (hQ:∀h',h'.IsTupleIter it t (i+1)->ABO it s.heap h'->Q x { s with heap:=h' }):wpAny (model prog w) A (ABC (.ref it)) Q E s:=by
 #⟨o,ho,hc,hd⟩:=id hit
 #⟨ol,hol,_,nl,hdl⟩:=ht
 unfold ABC
 !AA0 (AAl (name:=AA1 "__next__") hit.typeIs F.slot_tuple_iterator_next (AAm F.slot_tuple_iterator_next hit.typeIs F.entry_tuple_iterator_next ?_ (F.args_tuple_iterator_next_1 (.ref it))))
 !(show wpAny (model prog w) _ (field (.ref it) 0 >>= _) _ _ s from AA0 (ABH ho hd (x:=.ref t) rfl ?_))
 !(show wpAny (model prog w) _ (if (AB3 t==ABb)=true then _ else field (.ref it) 1 >>= _) _ _ s from ?_)
 rw[if_neg (show ¬(AB3 t==ABb)=true from AAb)]
 !AA0 (ABH ho hd (x:=.int i 0) rfl (show wpAny (model prog w) _ (seqItems? (.ref t) >>= _) _ _ s from AA0 (ABM hol hdl ?_)))
 simp only[ABr,hx]
 !AA0 (AC9 ho hd (by simp) (AA3 ⟨x,rfl,AA3 (hQ _ ⟨_,AAZ _ ho (Obj.isFreed_of_fields (Obj.data_mapFields hd _)),(Obj.cls_mapFields ..).trans hc,?_⟩ (AB2 ..))⟩))
 rw[Obj.data_mapFields hd];simp[rawInt]
¶me{it t:Addr}{i:Nat}{items:Array Value}{Q:Value->Shared->Prop}(hh:A.handled=none)(hit:s.heap.IsTupleIter it t i)(ht:s.heap.IsTuple t items)(hx:items[i]?=none)
  (hE:∀h' e,Heap.ExtBut it s.heap h'->(∃o,h'.get? e=some o/\o.cls=.type "StopIteration")->E (.ref e) { s with heap:=h' }):wpAny (model prog w) A (ABC (.ref it)) Q E s:=by
 #⟨o,ho,hc,hd⟩:=id hit
 #⟨ol,hol,_,nl,hdl⟩:=ht
 unfold ABC
 !AA0 (AAl (name:=AA1 "__next__") hit.typeIs F.slot_tuple_iterator_next (AAm F.slot_tuple_iterator_next hit.typeIs F.entry_tuple_iterator_next ?_ (F.args_tuple_iterator_next_1 (.ref it))))
 !(show wpAny (model prog w) _ (field (.ref it) 0 >>= _) _ _ s from AA0 (ABH ho hd (x:=.ref t) rfl ?_))
 !(show wpAny (model prog w) _ (if (AB3 t==ABb)=true then _ else field (.ref it) 1 >>= _) _ _ s from ?_)
 rw[if_neg (show ¬(AB3 t==ABb)=true from AAb)]
 !AA0 (ABH ho hd (x:=.int i 0) rfl (show wpAny (model prog w) _ (seqItems? (.ref t) >>= _) _ _ s from AA0 (ABM hol hdl ?_)))
 simp only[ABr,hx]
 !AA0 (ACL (AA0 (AC9 ho hd (by simp) (show wpAny (model prog w) _ (newExc (.type "StopIteration") [] >>= _) _ _ _ from AA0 ?_))))
 simp only[newExc,newTuple]
 !AA0 (AAj (AA0 (m:=firstArgMember _ _) (wpAny_of_eq (a:=ABb) (by first | rfl | (simp only[firstArgMember];rfl)) (AAj ?_ (by size_fits)))) (by size_fits))
 simp only[raiseNew]
 !AA0 (wpAny_handled ?_)
 first | rw[show A.in1.handled=none from hh] | rw[hh]
 ~AA0 (AA3 (wpAny_throw (hE _ _ (((AB2 ..).extBut.push _).push _) (⟨_,AAE _ rfl,rfl⟩))))
end
¶yC{prog:Program}{w:World}{A:Around}(hh:A.handled=none)(it t:Addr)(hne:t≠it)(items:Array Value):Draws prog w A it [it,t] items.size (λi v=>items[i]?=some v) (λi h=>h.IsTupleIter it t i/\h.IsTuple t items) where
 live:=λ_ _ ⟨⟨o,ho,_⟩,_⟩=>⟨o,ho⟩
 frame:=λ_ _ _ ⟨h1,o,e,r⟩ hk=>⟨h1.at λo e=>hk it (AAI) o e,o,hk t (by simp) o e,r⟩
 item:=λi s Q E hi ⟨h1,h2⟩ hQ=>by
  !vB h1 h2 (x:=items[i]) (AAS hi) λh' hit' hs'=>hQ _ h' s.toks (AAS hi) ⟨hit',?_⟩ hs'
  #⟨o,e,r⟩:=h2
  ~⟨o,hs'.extBut _ _ hne e,r⟩
 done:=λs Q E ⟨h1,h2⟩ hE=>me hh h1 h2 (ACI (AAC _)) hE
structure ZA(z TI TO i1 i2:Addr)(f1 f2:List Addr):Prop where
 nd:[z,TI,TO,i1,i2].Nodup
 z1:z∉f1
 o1:TO∉f1
 y1:i2∉f1
 z2:z∉f2
 o2:TO∉f2
 x2:i1∉f2
¶fg{prog:Program}{w:World}{A:Around}{it c:Addr}{fp:List Addr}{n k:Nat}{P:Nat->Value->Prop}{St:Nat->Heap->Prop}{h h':Heap}(D:Draws prog w A it fp n P St)(hc:c∉fp)(hs:Heap.ExtBut c h h')(st:St k h):St k h' :=
 D.frame k h h' st λb hb o e=>hs b o (λq=>hc (q ▸ hb)) e
section
variable{prog:Program}{w:World}{A:Around}{E:Value->Shared->Prop}{s:Shared}{z TI TO i1 i2:Addr}{f1 f2:List Addr}{n1 n2 k:Nat}{P1 P2:Nat->Value->Prop}{S1 S2:Nat->Heap->Prop}{a b:Value}
¶FI{Q:Value->Shared->Prop}(D1:Draws prog w A i1 f1 n1 P1 S1)(D2:Draws prog w A i2 f2 n2 P2 S2)(Z:ZA z TI TO i1 i2 f1 f2)(hz:IsZip s.heap z TI TO .none)(hTI:IsPair s.heap TI (.ref i1) (.ref i2))(hTO:IsPair s.heap TO a b)
  (st1:S1 k s.heap) (st2:S2 k s.heap) (l1:k<n1) (l2:k<n2)
  (hQ:∀h' tk x y T,P1 k x->P2 k y->s.heap.objs.size<=T->IsZip h' z TI TO (rawInt T)->IsPair h' TO x y->S1 (k+1) h'->S2 (k+1) h'->IsPair h' T x y->(∀c o,c≠z->c≠TO->c≠i1->c≠i2->s.heap.get? c=some o->h'.get? c=some o)->Q (.ref T) { s with heap:=h',toks:=tk }) :
  wpAny (model prog w) A (Builtin.«zip.__next__» ⟨[.ref z],[]⟩) (λfin s'=>∃v,fin=.done (.ret v)/\Q v s') E s:=by
 have nd:=Z.nd
 simp only[ABG,AAH,AAf,or_false,not_or]at nd
 #⟨⟨zTI,zTO,zi1,zi2⟩,⟨TITO,TIi1,TIi2⟩,⟨TOi1,TOi2⟩,i12,_⟩:=nd
 !(show wpAny (model prog w) A (field (.ref z) 2 >>= _) _ _ _ from AA0 (ABH hz rfl (x:=.bool false) rfl ?_))
 !(show wpAny (model prog w) A (field (.ref z) 3 >>= _) _ _ _ from AA0 (ABH hz rfl (x:=.ref TI) rfl (AA0 (ABM hTI rfl ?_))))
 !(show wpAny (model prog w) A (ABg (.ref z) >>= _) _ _ _ from AA0 ?_)
 unfold ABg
 !AA0 (ABH hz rfl (x:=ABb) rfl (AA3 ?_))
 simp only[if_true]
 !AA0 (ACL (AA0 (ABH hz rfl (x:=.ref TO) rfl (AA0 (ABA hz (by simp) λh₁ (hz₁:IsZip h₁ z TI TO .ellipsis) hs₁=>AA0 ?_)))))
 simp only[List.zipIdx_cons,List.zipIdx_nil,AEA,List.forIn_nil]
 !AA0 (AA0 (wpAny_onRaise (show wpAny (model prog w) A (ABC (.ref i1) >>= _) _ _ _ from AA0 ?_)))
 !D1.item k _ _ _ l1 (fg D1 Z.z1 hs₁.extBut st1) λx h₂ tk₂ px s1₂ hs₂=>AA3 ?_
 have hTO₂:IsPair h₂ TO a b:=hs₂.extBut _ _ TOi1 (hs₁.extBut _ _ (AAz zTO) hTO)
 !AA0 (ABM hTO₂ rfl (AA0 (wpAny_updateSeq_pair hTO₂ λh₃ (hTO₃:IsPair h₃ TO x b) hs₃=>AA0 (wpAny_letGo (AA3 ?_)))))
 !AA0 (AA0 (wpAny_onRaise (show wpAny (model prog w) A (ABC (.ref i2) >>= _) _ _ _ from AA0 ?_)))
 !D2.item k _ _ _ l2 (fg D2 Z.o2 hs₃.extBut (fg D2 Z.x2 hs₂.extBut (fg D2 Z.z2 hs₁.extBut st2))) λy h₄ tk₄ py s2₄ hs₄=>AA3 ?_
 have hTO₄:IsPair h₄ TO x b:=hs₄.extBut _ _ TOi2 hTO₃
 !AA0 (ABM hTO₄ rfl (AA0 (wpAny_updateSeq_pair hTO₄ λh₅ (hTO₅:IsPair h₅ TO x y) hs₅=>AA0 (wpAny_letGo (AA3 (AA3 ?_))))))
 !AA0 (ABM hTO₅ rfl (AA0 (wpAny_newTuple ?_)))
 have hz₅:IsZip h₅ z TI TO .ellipsis:=hs₅.extBut _ _ zTO (hs₄.extBut _ _ zi2 (hs₃.extBut _ _ zTO (hs₂.extBut _ _ zi1 hz₁)))
 have kp:∀c o,c≠z->c≠TO->c≠i1->c≠i2->s.heap.get? c=some o->h₅.get? c=some o:=λc o c1 c2 c3 c4 e=>hs₅.extBut _ _ c2 (hs₄.extBut _ _ c4 (hs₃.extBut _ _ c2 (hs₂.extBut _ _ c3 (hs₁.extBut _ _ c1 e))))
 have sz:h₅.objs.size=s.heap.objs.size:=by rw[hs₅.1,hs₄.1,hs₃.1,hs₂.1];~hs₁.1
 have t1:=fg D1 Z.o1 hs₅.extBut (fg D1 Z.y1 hs₄.extBut (fg D1 Z.o1 hs₃.extBut s1₂))
 have t2:=fg D2 Z.o2 hs₅.extBut s2₄
 !(show wpAny (model prog w) A (ADG (.ref z) (.ref h₅.objs.size) >>= _) _ _ _ from AA0 ?_)
 unfold ADG
 have hz₆:IsZip (h₅.push { cls:=.type "tuple",data:=.seq #[x,y] }) z TI TO .ellipsis:=AA4 _ hz₅
 !AA0 (ABA hz₆ (by simp) λh₇ (hz₇:IsZip h₇ z TI TO (rawInt h₅.objs.size)) hs₇=>ABA hz₇ (by simp) λh₈ (hz₈:IsZip h₈ z TI TO (rawInt h₅.objs.size)) hs₈=>?_)
 have up:∀c o,c≠z->h₅.get? c=some o->h₈.get? c=some o:=λc o c1 e=>hs₈.extBut _ _ c1 (hs₇.extBut _ _ c1 (AA4 _ e))
 have ne:h₅.objs.size≠z:=ABU (AAG hz₅)
 !AA3 ⟨_,rfl,hQ h₈ _ x y h₅.objs.size px py (Nat.le_of_eq sz.symm) hz₈ (up _ _ (AAz zTO) hTO₅) ?_ ?_ (hs₈.extBut _ _ ne (hs₇.extBut _ _ ne (AAE _ rfl))) λc o c1 c2 c3 c4 e=>up c o c1 (kp c o c1 c2 c3 c4 e)⟩
 ·~D1.frame _ _ _ t1 λc hc o e=>up c o (λq=>Z.z1 (q ▸ hc)) e
 ·~D2.frame _ _ _ t2 λc hc o e=>up c o (λq=>Z.z2 (q ▸ hc)) e
¶FK{Q:Fin->Shared->Prop}(D1:Draws prog w A i1 f1 n1 P1 S1)(D2:Draws prog w A i2 f2 n2 P2 S2)(Z:ZA z TI TO i1 i2 f1 f2)(hz:IsZip s.heap z TI TO .none)(hTI:IsPair s.heap TI (.ref i1) (.ref i2))(hTO:IsPair s.heap TO a b)
  (st1:S1 k s.heap) (st2:S2 k s.heap) (hk:k=n1\/(k<n1/\k=n2))
  (hE:∀h' tk e,(∀c o,c≠z->c≠TO->c≠i1->c≠i2->s.heap.get? c=some o->h'.get? c=some o)->(∃o,h'.get? e=some o/\o.cls=.type "StopIteration")->E (.ref e) { s with heap:=h',toks:=tk }) :
  wpAny (model prog w) A (Builtin.«zip.__next__» ⟨[.ref z],[]⟩) Q E s:=by
 have nd:=Z.nd
 simp only[ABG,AAH,AAf,or_false,not_or]at nd
 #⟨⟨zTI,zTO,zi1,zi2⟩,⟨TITO,TIi1,TIi2⟩,⟨TOi1,TOi2⟩,i12,_⟩:=nd
 !(show wpAny (model prog w) A (field (.ref z) 2 >>= _) _ _ _ from AA0 (ABH hz rfl (x:=.bool false) rfl ?_))
 !(show wpAny (model prog w) A (field (.ref z) 3 >>= _) _ _ _ from AA0 (ABH hz rfl (x:=.ref TI) rfl (AA0 (ABM hTI rfl ?_))))
 !(show wpAny (model prog w) A (ABg (.ref z) >>= _) _ _ _ from AA0 ?_)
 unfold ABg
 !AA0 (ABH hz rfl (x:=ABb) rfl (AA3 ?_))
 simp only[if_true]
 !AA0 (ACL (AA0 (ABH hz rfl (x:=.ref TO) rfl (AA0 (ABA hz (by simp) λh₁ (hz₁:IsZip h₁ z TI TO .ellipsis) hs₁=>AA0 ?_)))))
 simp only[List.zipIdx_cons,List.zipIdx_nil,AEA,List.forIn_nil]
 !AA0 (AA0 (wpAny_onRaise (show wpAny (model prog w) A (ABC (.ref i1) >>= _) _ _ _ from AA0 ?_)))
 rcases hk with rfl | ⟨l1,rfl⟩
 ·!D1.done _ _ _ (fg D1 Z.z1 hs₁.extBut st1) λh₂ e hs₂ ⟨oe,hoe,hce⟩=>?_
  have hz₂:IsZip h₂ z TI TO .ellipsis:=hs₂ _ _ zi1 hz₁
  have hez:e≠z:=λq=>by subst q;rw[hz₂]at hoe;cases hoe;simp at hce
  ~ABA hz₂ (by simp) λh₃ _ hs₃=>hE h₃ _ e (λc o c1 _ c3 _ q=>hs₃.extBut _ _ c1 (hs₂ _ _ c3 (hs₁.extBut _ _ c1 q))) ⟨oe,hs₃.extBut _ _ hez hoe,hce⟩
 ·!D1.item k _ _ _ l1 (fg D1 Z.z1 hs₁.extBut st1) λx h₂ tk₂ px s1₂ hs₂=>AA3 ?_
  have hTO₂:IsPair h₂ TO a b:=hs₂.extBut _ _ TOi1 (hs₁.extBut _ _ (AAz zTO) hTO)
  !AA0 (ABM hTO₂ rfl (AA0 (wpAny_updateSeq_pair hTO₂ λh₃ (hTO₃:IsPair h₃ TO x b) hs₃=>AA0 (wpAny_letGo (AA3 ?_)))))
  !AA0 (AA0 (wpAny_onRaise (show wpAny (model prog w) A (ABC (.ref i2) >>= _) _ _ _ from AA0 ?_)))
  !D2.done _ _ _ (fg D2 Z.o2 hs₃.extBut (fg D2 Z.x2 hs₂.extBut (fg D2 Z.z2 hs₁.extBut st2))) λh₄ e hs₄ ⟨oe,hoe,hce⟩=>?_
  have hz₄:IsZip h₄ z TI TO .ellipsis:=hs₄ _ _ zi2 (hs₃.extBut _ _ zTO (hs₂.extBut _ _ zi1 hz₁))
  have hez:e≠z:=λq=>by subst q;rw[hz₄]at hoe;cases hoe;simp at hce
  ~ABA hz₄ (by simp) λh₅ _ hs₅=>hE h₅ _ e (λc o c1 c2 c3 c4 q=>hs₅.extBut _ _ c1 (hs₄ _ _ c4 (hs₃.extBut _ _ c2 (hs₂.extBut _ _ c3 (hs₁.extBut _ _ c1 q))))) ⟨oe,hs₅.extBut _ _ hez hoe,hce⟩
end
section
variable{X:Cx}{pins:List (Addr×Obj)}{σ:St}{H:Hp}{s:Shared}{h':Heap}
¶Inv.turnedL{t':Nat}{fp:List Addr}(I:Inv X pins σ H s)(hf:∀b∈fp,An X pins H b)(k:∀b o,b∉fp->s.heap.get? b=some o->h'.get? b=some o):Inv X pins σ H { s with heap:=h',toks:=t' }:=by
 have nfp:∀b u,H b=some u->b∉fp:=λb u e z=>by rw[(hf b z).1]at e;cases e
 !I.step (g':=s.gens) (d':=s.drawn) (ch:=fp) (λb hb=>⟨(hf b hb).2.2.2.1,(hf b hb).2.1,(hf b hb).2.2.2.2.1,(hf b hb).2.2.2.2.2⟩) (λb o _ _ hc e _=>k b o hc e) (λb o _ _ hc e _=>⟨o.slots,k b o hc e⟩) (λ_ _ _ _ n=>n)
  (λb o hc e=>⟨o,k b o hc e⟩) (λ_ _ e=>e) (λ_ _ _ e=>e) (λb ps e=>⟨#[],by rw[e];simp⟩) (λm hm=>?_) (λb u e=>?_) I.bare
 ·#⟨o,es,ep,ho,r⟩:=hm
  ~⟨o,es,ep,k _ o (λz=>(hf _ z).2.1 rfl) ho,r⟩
 ·!(I.hok b u e).stay (λc v hc q=>k c v ?_ q) (λ_ q=>q) λ_ _ q=>q
  rcases hc with rfl | z
  ·~nfp _ u e
  ·~nfp _ _ z
¶Inv.turnedT{t':Nat}{fp:List Addr}{T:Addr}{o:HO}(I:Inv X pins σ H s)(hf:∀b∈fp,An X pins H b)(k:∀b o,b∉fp->s.heap.get? b=some o->h'.get? b=some o)(hT:s.heap.objs.size<=T)(new:cL X.prog X.w (upd H T o) h' T o):Inv X pins σ (upd H T o) { s with heap:=h',toks:=t' }:=by
 have fa:H T=none:=I.hok.fresh hT
 have neT:∀b u,s.heap.get? b=some u->b≠T:=λb u e=>AAQ (AAd (AAG e) hT)
 have nfp:∀b u,H b=some u->b∉fp:=λb u e z=>by rw[(hf b z).1]at e;cases e
 !I.step (g':=s.gens) (d':=s.drawn) (ch:=fp) (λb hb=>⟨(hf b hb).2.2.2.1,(hf b hb).2.1,(hf b hb).2.2.2.2.1,(hf b hb).2.2.2.2.2⟩) (λb o _ _ hc e _=>k b o hc e) (λb o _ _ hc e _=>⟨o.slots,k b o hc e⟩) (λb u _ e n=>by rw[aJ (neT b u e)];~n)
  (λb o hc e=>⟨o,k b o hc e⟩) (λb xs q=>by rw[aJ (au q fa)];~q) (λb u xs q=>by rw[aJ (au q fa)];~q) (λb ps q=>⟨#[],by rw[aJ (au q fa),q];simp⟩) (λm hm=>?_) (λb u e=>?_) I.bare
 ·#⟨o,es,ep,ho,r⟩:=hm
  ~⟨o,es,ep,k _ o (λz=>(hf _ z).2.1 rfl) ho,r⟩
 ·by_cases hb:b=T
  ·subst hb
   rw[bB]at e
   cases e
   ~new
  ·rw[aJ hb]at e
   !(I.hok b u e).stay (λc v hc q=>k c v ?_ q) (λc q=>by rw[aJ (au q fa)];~q) λc xs q=>by rw[aJ (au q fa)];~q
   rcases hc with rfl | z
   ·~nfp _ u e
   ·~nfp _ _ z
def Sq(t:Bool)(K:AA5)(H:Hp)(a:Addr)(xs:List V):Prop:=if t=true then SqT K H a xs else SqL K H a xs
def SIt(t:Bool)(h:Heap)(i l:Addr)(k:Nat):Prop:=if t=true then h.IsTupleIter i l k else h.IsListIter i l k
def SIs(t:Bool)(h:Heap)(l:Addr)(xs:Array Value):Prop:=if t=true then h.IsTuple l xs else h.IsList l xs
¶SIt.at{t:Bool}{h h':Heap}{i l:Addr}{k:Nat}(x:SIt t h i l k)(e:∀o,h.get? i=some o->h'.get? i=some o):SIt t h' i l k:=by
 cases t with
 | true=>~(show h.IsTupleIter i l k from x).at e
 | false=>~(show h.IsListIter i l k from x).at e
¶SIt.obj{t:Bool}{h:Heap}{i l:Addr}{k:Nat}(x:SIt t h i l k):∃o,h.get? i=some o/\∀v,o.data≠.cell v:=by
 cases t with
 | true =>
  #⟨o,e,c,d⟩:=(show h.IsTupleIter i l k from x)
  ~⟨o,e,λv z=>by rw[d]at z;cases z⟩
 | false =>
  #⟨o,e,c,d⟩:=(show h.IsListIter i l k from x)
  ~⟨o,e,λv z=>by rw[d]at z;cases z⟩
¶Sq.is{t:Bool}{a:Addr}{xs:List V}(I:Inv X pins σ H s)(h:Sq t X.K H a xs):∃its,aL xs its/\SIs t s.heap a its.toArray/\xs.length<=sizeLine:=by
 cases t with
 | true=>~I.tuple (show SqT X.K H a xs from h)
 | false =>
  #⟨its,rr,pl,hz⟩:=I.list (show SqL X.K H a xs from h)
  ~⟨its,rr,pl.isList,hz⟩
¶Sq.inj{t:Bool}{a:Addr}{xs ys:List V}(I:Inv X pins σ H s)(h:Sq t X.K H a xs)(h':Sq t X.K H a ys):xs=ys:=by
 cases t with
 | true=>~I.tuple_inj h h'
 | false=>~I.list_inj h h'
¶Sq.ne{t:Bool}{a b:Addr}{xs:List V}(I:Inv X pins σ H s)(h:Sq t X.K H a xs)(f:An X pins H b):a≠b:=by
 have kc:∀o,X.K.lookup a=some o->a≠b:=λo hk=>by
  have hb:=I.mod.kin a o hk
  rcases f.2.2.2.1 with z | z
  ·intro q;subst q;~I.ok.noex a o hb z
  ·~AAQ (AAd (AAG hb) (ABN I.ok.bsz z))
 cases t with
 | true =>
  rcases(show SqT X.K H a xs from h)with(h | ⟨_,h⟩) | ⟨o,its,n,hk,_⟩
  ·~au h f.1
  ·~au h f.1
  ·~kc o hk
 | false =>
  rcases(show SqL X.K H a xs from h)with(h | ⟨_,h⟩) | ⟨o,its,n,hk,_⟩
  ·~au h f.1
  ·~au h f.1
  ·~kc o hk
¶kg{prog:Program}{w:World}{A:Around}(hh:A.handled=none)(t:Bool)(it l:Addr)(hne:l≠it)(items:Array Value):Draws prog w A it [it,l] items.size (λi v=>items[i]?=some v) (λi h=>SIt t h it l i/\SIs t h l items):=by
 cases t with
 | true=>~yC hh it l hne items
 | false=>~Draws.list hh it l hne items
def Itz(K:AA5)(t1 t2:Bool)(l1 l2:Addr):It :=
 ⟨λi H=>∃xs ys x y,Sq t1 K H l1 xs/\Sq t2 K H l2 ys/\xs[i]?=some x/\ys[i]?=some y,
  λi H v H'=>∃T x y,v=.ref T/\H T=none/\H'=upd H T (.tup [x,y])/\(∀xs,Sq t1 K H l1 xs->xs[i]?=some x)/\∀ys,Sq t2 K H l2 ys->ys[i]?=some y,
  λi H=>∃xs ys,Sq t1 K H l1 xs/\Sq t2 K H l2 ys/\(i=xs.length\/(i<xs.length/\i=ys.length))⟩
def ZSt(t1 t2:Bool)(z TI TO i1 i2 l1 l2:Addr)(i:Nat)(h:Heap):Prop:=IsZip h z TI TO .none/\IsPair h TI (.ref i1) (.ref i2)/\(∃a b,IsPair h TO a b)/\SIt t1 h i1 l1 i/\SIt t2 h i2 l2 i
¶FV{P:Program}{w:World}{K:AA5}{elts:List Expr}{x1:Nat}{pos:Pos}{t1 t2:Bool}{z TI TO i1 i2 l1 l2:Addr}(nd:[z,TI,TO,i1,i2].Nodup) :
  Turn P w K (.Tuple elts x1 pos) (Itz K t1 t2 l1 l2) [z,TI,TO,i1,i2] z (ZSt t1 t2 z TI TO i1 i2 l1 l2) where
 mem:=AAI
 obj:=λi h ⟨hz,hTI,⟨a,b,hTO⟩,h1,h2⟩ c hc=>by
  simp only[AAH,AAf,or_false]at hc
  rcases hc with rfl | rfl | rfl | rfl | rfl
  ·~⟨_,hz,λv q=>nomatch q⟩
  ·~⟨_,hTI,λv q=>nomatch q⟩
  ·~⟨_,hTO,λv q=>nomatch q⟩
  ·~h1.obj
  ·~h2.obj
 keep:=λi h h' ⟨hz,hTI,⟨a,b,hTO⟩,h1,h2⟩ k=>⟨k z (by simp) _ hz,k TI (by simp) _ hTI,⟨a,b,k TO (by simp) _ hTO⟩,h1.at λo e=>k i1 (by simp) o e,h2.at λo e=>k i2 (by simp) o e⟩
 item:=by
  intro X hP hw hK hc i pins s σ H E I hf ⟨hz,hTI,⟨a,b,hTO⟩,h1,h2⟩ ⟨xs,ys,x,y,q1,q2,hx,hy⟩
  subst hP hw hK
  #⟨us,ru,iu,hzu⟩:=q1.is I
  #⟨vs,rv,iv,hzv⟩:=q2.is I
  have lu:=ru.length
  have lv:=rv.length
  have f:=hf
  have nd':=nd
  simp only[ABG,AAH,AAf,or_false,not_or]at nd'
  #⟨⟨zTI,zTO,zi1,zi2⟩,⟨TITO,TIi1,TIi2⟩,⟨TOi1,TOi2⟩,i12,_⟩:=nd'
  have a1:l1≠i1:=q1.ne I (f i1 (by simp))
  have a2:l2≠i2:=q2.ne I (f i2 (by simp))
  have Z:ZA z TI TO i1 i2 [i1,l1] [i2,l2]:=⟨nd,by simp[zi1,AAz (q1.ne I (f z (by simp)))],by simp[TOi1,AAz (q1.ne I (f TO (by simp)))],by simp[AAz i12,AAz (q1.ne I (f i2 (by simp)))],
   by simp[zi2,AAz (q2.ne I (f z (by simp)))],by simp[TOi2,AAz (q2.ne I (f TO (by simp)))],by simp[i12,AAz (q2.ne I (f i1 (by simp)))]⟩
  have ix:i<us.length:=by have:=(AA2.mp hx).1;&
  have iy:i<vs.length:=by have:=(AA2.mp hy).1;&
  have hT:s.TypeIs (.ref z) "zip":=⟨_,hz,rfl⟩
  unfold pyNext
  !AA0 (ACk (AAl (name:=AA1 "__next__") hT F.slot_zip_next (AAm F.slot_zip_next hT F.entry_zip_next ?_ (F.args_zip_next_1 (.ref z)))))
  !FI (k:=i) (kg (show X.A.in1.handled=none from I.ok.hd hc) t1 i1 l1 a1 us.toArray) (kg (show X.A.in1.handled=none from I.ok.hd hc) t2 i2 l2 a2 vs.toArray) Z hz hTI hTO ⟨h1,iu⟩ ⟨h2,iv⟩ (by simpa using ix) (by simpa using iy)
   λh' tk px py T hpx hpy hT' hz' hTO' s1 s2 hp hk=>AA3 ⟨_,rfl,?_⟩
  !wpAny_letOwnedTupleGo_zip hz' λh2 hz2 hs2=>?_
  have zne:T≠z:=λq=>by subst q;~absurd (AAG hz) (Nat.not_lt_of_le hT')
  #⟨px',epx,rpx⟩:=ru.get hx
  #⟨py',epy,rpy⟩:=rv.get hy
  have e1:px'=px:=by rw[ADy,epx]at hpx;~AAR hpx
  have e2:py'=py:=by rw[ADy,epy]at hpy;~AAR hpy
  subst e1 e2
  have hp2:IsPair h2 T px' py':=hs2.extBut _ _ zne hp
  !⟨.ref T,upd H T (.tup [x,y]),?_,rfl,⟨T,x,y,rfl,I.hok.fresh hT',rfl,λzs hq=>by rw[hq.inj I q1];~hx,λzs hq=>by rw[hq.inj I q2];~hy⟩,
   ⟨hz2,hs2.extBut _ _ (AAz zTI) (hk _ _ (AAz zTI) TITO TIi1 TIi2 hTI),⟨_,_,hs2.extBut _ _ (AAz zTO) hTO'⟩,s1.1.at λo e=>hs2.extBut _ _ (AAz zi1) e,s2.1.at λo e=>hs2.extBut _ _ (AAz zi2) e⟩,λc hc=>?_⟩
  ·!I.turnedT (t':=tk) hf (λc o hc e=>?_) hT' ⟨by simp[ABm],[px',py'],.cons rpx (.cons rpy .nil),⟨_,hp2,rfl,⟨0,rfl⟩,rfl⟩⟩
   simp only[AAH,AAf,or_false,not_or]at hc
   ~hs2.extBut _ _ hc.1 (hk _ _ hc.1 hc.2.2.1 hc.2.2.2.1 hc.2.2.2.2 e)
  ·obtain⟨oc,ec⟩:∃o,s.heap.get? c=some o:=by
    simp only[AAH,AAf,or_false]at hc
    rcases hc with rfl | rfl | rfl | rfl | rfl
    ·~⟨_,hz⟩
    ·~⟨_,hTI⟩
    ·~⟨_,hTO⟩
    ·#⟨o,e,_⟩:=h1.obj;~⟨o,e⟩
    ·#⟨o,e,_⟩:=SIt.obj ‹SIt t2 s.heap _ l2 i›;~⟨o,e⟩
   rw[aJ (AAQ (AAd (AAG ec) hT'))]
   ~(hf c hc).1
 done:=by
  intro X hP hw hK hc i pins s σ H E I hf ⟨hz,hTI,⟨a,b,hTO⟩,h1,h2⟩ ⟨xs,ys,q1,q2,hend⟩
  subst hP hw hK
  #⟨us,ru,iu,hzu⟩:=q1.is I
  #⟨vs,rv,iv,hzv⟩:=q2.is I
  have lu:=ru.length
  have lv:=rv.length
  have f:=hf
  have nd':=nd
  simp only[ABG,AAH,AAf,or_false,not_or]at nd'
  #⟨⟨zTI,zTO,zi1,zi2⟩,⟨TITO,TIi1,TIi2⟩,⟨TOi1,TOi2⟩,i12,_⟩:=nd'
  have a1:l1≠i1:=q1.ne I (f i1 (by simp))
  have a2:l2≠i2:=q2.ne I (f i2 (by simp))
  have Z:ZA z TI TO i1 i2 [i1,l1] [i2,l2]:=⟨nd,by simp[zi1,AAz (q1.ne I (f z (by simp)))],by simp[TOi1,AAz (q1.ne I (f TO (by simp)))],by simp[AAz i12,AAz (q1.ne I (f i2 (by simp)))],
   by simp[zi2,AAz (q2.ne I (f z (by simp)))],by simp[TOi2,AAz (q2.ne I (f TO (by simp)))],by simp[i12,AAz (q2.ne I (f i1 (by simp)))]⟩
  have hT:s.TypeIs (.ref z) "zip":=⟨_,hz,rfl⟩
  unfold pyNext
  !AA0 (ACk (AAl (name:=AA1 "__next__") hT F.slot_zip_next (AAm F.slot_zip_next hT F.entry_zip_next ?_ (F.args_zip_next_1 (.ref z)))))
  !FK (k:=i) (kg (show X.A.in1.handled=none from I.ok.hd hc) t1 i1 l1 a1 us.toArray) (kg (show X.A.in1.handled=none from I.ok.hd hc) t2 i2 l2 a2 vs.toArray) Z hz hTI hTO ⟨h1,iu⟩ ⟨h2,iv⟩ ?_ λh' tk e hk ⟨o,ho,ho'⟩=>?_
  ·rw[AAB,AAB,←lu,←lv]
   ~hend
  ·!AA0 (ACO (T:="StopIteration") (b:=true) ⟨o,ho,ho'⟩ isSubtype_stop (AA3 ⟨rfl,?_⟩))
   !I.turnedL (t':=tk) hf λc o hc e=>?_
   simp only[AAH,AAf,or_false,not_or]at hc
   ~hk _ _ hc.1 hc.2.2.1 hc.2.2.2.1 hc.2.2.2.2 e
 self:=λ_ _ _ _ _ st h=>wpAny_pyIter_zip st.1 h
end
abbrev itO(t:Bool)(l:Addr):Obj:={ cls:=.type (if t=true then "tuple_iterator" else "list_iterator"),data:=.fields #[.ref l,.int 0 0] }
section
variable{prog:Program}{w:World}{A:Around}{E:Value->Shared->Prop}{s:Shared}
¶zR{t:Bool}{l:Addr}{xs:Array Value}{Q:Value->Shared->Prop}(h:SIs t s.heap l xs)(q:Q (.ref s.heap.objs.size) { s with heap:=s.heap.push (itO t l) }):wpAny (model prog w) A (pyIter (.ref l)) Q E s:=by
 cases t with
 | true=>~wpAny_pyIter_tuple (show s.heap.IsTuple l xs from h) q
 | false=>~ADo (show s.heap.IsList l xs from h) q
abbrev zp1(h:Heap)(t1:Bool)(l1:Addr):Heap:=h.push (itO t1 l1)
abbrev zp2(h:Heap)(t1 t2:Bool)(l1 l2:Addr):Heap:=(zp1 h t1 l1).push (itO t2 l2)
abbrev zp3(h:Heap)(t1 t2:Bool)(l1 l2:Addr):Heap:=(zp2 h t1 t2 l1 l2).push { cls:=.type "tuple",data:=.seq #[.ref h.objs.size,.ref (zp1 h t1 l1).objs.size] }
abbrev zp4(h:Heap)(t1 t2:Bool)(l1 l2:Addr):Heap:=(zp3 h t1 t2 l1 l2).push { cls:=.type "tuple",data:=.seq #[.none,.none] }
abbrev zp5(h:Heap)(t1 t2:Bool)(l1 l2:Addr):Heap:=(zp4 h t1 t2 l1 l2).push { cls:=.type "zip",data:=.fields #[.none,.bool false,.bool false,.ref (zp2 h t1 t2 l1 l2).objs.size,.ref (zp3 h t1 t2 l1 l2).objs.size] }
¶SIs.push{t:Bool}{h:Heap}{l:Addr}{xs:Array Value}(x:SIs t h l xs)(o:Obj):SIs t (h.push o) l xs:=by
 cases t with
 | true=>#⟨u,e,r⟩:=(show h.IsTuple l xs from x);~(show (h.push o).IsTuple l xs from⟨u,AA4 _ e,r⟩)
 | false=>#⟨u,e,r⟩:=(show h.IsList l xs from x);~(show (h.push o).IsList l xs from⟨u,AA4 _ e,r⟩)
¶FJ(t1 t2:Bool)(l1 l2:Addr)(xs ys:Array Value):Meets (Builtin.«zip.__new__» ⟨[.type "zip",.ref l1,.ref l2],[]⟩) (λ_ R s=>SIs t1 s.heap l1 xs/\SIs t2 s.heap l2 ys/\R (.ok (.ret (.ref (zp4 s.heap t1 t2 l1 l2).objs.size))) { s with heap:=zp5 s.heap t1 t2 l1 l2 }) :=
 .of_wp λprog w A R s h=>by
  #⟨hp,g,d,tk,os⟩:=s;#⟨hl1,hl2,h⟩:=h
  have hsub:=sub_zip
  have r1:SIs t1 (Shared.heap ⟨hp,g,d,tk,os⟩) l1 xs:=hl1
  have r2:SIs t2 (Shared.heap ⟨hp.push (itO t1 l1),g,d,tk,os⟩) l2 ys:=hl2.push _
  wp_walk using zR r1,zR r2
  ~⟨_,rfl,h⟩
¶Fh{t1 t2:Bool}{l1 l2:Addr}{xs ys:Array Value}{Q:Value->Shared->Prop}(h1:SIs t1 s.heap l1 xs)(h2:SIs t2 s.heap l2 ys)
  (h:∀h',ZSt t1 t2 (s.heap.objs.size+4) (s.heap.objs.size+2) (s.heap.objs.size+3) s.heap.objs.size (s.heap.objs.size+1) l1 l2 0 h'->(∀c o,s.heap.get? c=some o->h'.get? c=some o)->Q (.ref (s.heap.objs.size+4)) { s with heap:=h' }) :
  wpAny (model prog w) A (call (.type "zip") [.ref l1,.ref l2]) Q E s:=by
 !callType_new F.called_zip (by decide) (F.typeCall_zip_2 _ _) (F.newCall_zip_2 _ _) (λobj=>F.args_object_init_3 obj _ _) F.entry_zip_new (FJ t1 t2 l1 l2 xs ys) ⟨h1,h2,?_⟩
 have z1:(zp1 s.heap t1 l1).objs.size=s.heap.objs.size+1:=AB1 ..
 have z2:(zp2 s.heap t1 t2 l1 l2).objs.size=s.heap.objs.size+2:=by rw[AB1,z1]
 have z3:(zp3 s.heap t1 t2 l1 l2).objs.size=s.heap.objs.size+3:=by rw[AB1,z2]
 have z4:(zp4 s.heap t1 t2 l1 l2).objs.size=s.heap.objs.size+4:=by rw[AB1,z3]
 have up:∀{h:Heap}{c:Addr}{o:Obj} (u:Obj),h.get? c=some o->(h.push u).get? c=some o:=λu e=>AA4 _ e
 have g5:(zp5 s.heap t1 t2 l1 l2).get? (zp4 s.heap t1 t2 l1 l2).objs.size=some _:=AAE _ rfl
 have g4:(zp5 s.heap t1 t2 l1 l2).get? (zp3 s.heap t1 t2 l1 l2).objs.size=some _:=up _ (AAE _ rfl)
 have g3:(zp5 s.heap t1 t2 l1 l2).get? (zp2 s.heap t1 t2 l1 l2).objs.size=some _:=up _ (up _ (AAE _ rfl))
 have g2:(zp5 s.heap t1 t2 l1 l2).get? (zp1 s.heap t1 l1).objs.size=some _:=up _ (up _ (up _ (AAE _ rfl)))
 have g1:(zp5 s.heap t1 t2 l1 l2).get? s.heap.objs.size=some _:=up _ (up _ (up _ (up _ (AAE _ rfl))))
 have si:∀(t:Bool) (h:Heap) (a l:Addr),h.get? a=some (itO t l)->SIt t h a l 0:=λt h a l e=>by cases t<;>~⟨_,e,rfl,rfl⟩
 show _/\_
 rw[z2,z3,z4]at g5
 rw[z1,z2]at g3
 rw[z3]at g4
 rw[z1]at g2
 rw[z4]
 ~⟨⟨_,g5,rfl⟩,h _ ⟨g5,g3,⟨_,_,g4⟩,si _ _ _ _ g1,si _ _ _ _ g2⟩ λc o q=>up _ (up _ (up _ (up _ (up _ q))))⟩
end
def BK(xs ys:List D):List D:=(xs.zip ys).map λp=>.tup [p.1,p.2]
def Ft(M:Mem)(x:D)(xs:List D)(ok:Mem->Prop):Prop:=match x with
 | .tup ds=>xs=ds/\ok=λ_=>True
 | .ref n=>aA M n xs/\ok=λM=>aA M n xs
 | _=>False
def dZip(ta:DTA):DTI:=λS M R=>ta S M λds M1=>match ds with
 | [x,y]=>∃xs ys o1 o2,Ft M1 x xs o1/\Ft M1 y ys o2/\R ⟨BK xs ys,λM=>o1 M/\o2 M⟩ M1
 | _=>False
¶Ic:bootBuiltins "zip" = some (.type "zip"):=by decide +kernel
section
variable{X:Cx}
¶Ft.sq{ρ:List Addr}{H:Hp}{M:Mem}{x:D}{xs:List D}{ok:Mem->Prop}{v:V}{u:Value}(sm:Sim X.K ρ M H)(h:Ft M x xs ok)(r:Rep X.K ρ H x v)(e:bi v u) :
  ∃(t:Bool) (l:Addr),u=.ref l/\ok M/\∀ρ' M' H',Sim X.K ρ' M' H'->Grow X.K ρ H ρ' H'->ok M'->∃vs,Sq t X.K H' l vs/\Reps X.K ρ' H' xs vs:=by
 unfold Ft at h
 split at h
 ·#⟨rfl,rfl⟩:=h
  #⟨a,vs,rfl,hq,r⟩:=Rep.inv_tup r
  cases e
  ~⟨true,a,rfl,trivial,λρ' M' H' sm' g _=>⟨vs,g.tup a vs hq,r.grow g⟩⟩
 ·#⟨h,rfl⟩:=h
  cases r with
  | @ref n a hn =>
   cases e
   ~⟨false,a,rfl,h,λρ' M' H' sm' g ok=>aA.seq sm' ok (bE g.pre hn)⟩
 ·~h.elim
¶ItD.zip{ρ:List Addr}{H:Hp}{xs ys:List D}{o1 o2:Mem->Prop}{t1 t2:Bool}{l1 l2:Addr}{K:AA5}
  (h1:∀ρ' M' H',Sim K ρ' M' H'->Grow K ρ H ρ' H'->o1 M'->∃vs,Sq t1 K H' l1 vs/\Reps K ρ' H' xs vs) (h2:∀ρ' M' H',Sim K ρ' M' H'->Grow K ρ H ρ' H'->o2 M'->∃vs,Sq t2 K H' l2 vs/\Reps K ρ' H' ys vs) :
  ItD K ⟨BK xs ys,λM=>o1 M/\o2 M⟩ ρ H (Itz K t1 t2 l1 l2) where
 go:=λi ρ' M' H' sm g ok hi=>by
  #⟨vs,q1,r1⟩:=h1 ρ' M' H' sm g ok.1
  #⟨ws,q2,r2⟩:=h2 ρ' M' H' sm g ok.2
  have hi':i<xs.length/\i<ys.length:=by simpa [BK,Nat.lt_min]using hi
  have e1:=r1.length
  have e2:=r2.length
  ~⟨vs,ws,_,_,q1,q2,AA7 ¤,AA7 ¤⟩
 yld:=λi ρ' M' H' x H2 sm g ok hi y=>by
  #⟨vs,q1,r1⟩:=h1 ρ' M' H' sm g ok.1
  #⟨ws,q2,r2⟩:=h2 ρ' M' H' sm g ok.2
  #⟨T,a,b,rfl,hT,rfl,ha,hb⟩:=y
  #⟨d,hd,rd⟩:=r1.getV (ha vs q1)
  #⟨e,he,re⟩:=r2.getV (hb ws q2)
  !⟨.tup [d,e],ρ',?_,sm.laid hT,Grow.laid hT,.tup (SqT.of bB) (.cons (rd.grow (Grow.laid hT)) (.cons (re.grow (Grow.laid hT)) .nil))⟩
  show (BK xs ys)[i]?=_
  have:(xs.zip ys)[i]?=some (d,e):=List.getElem?_zip_eq_some.mpr ⟨hd,he⟩
  rw[BK,AAU,this]
  rfl
 stop:=λρ' M' H' sm g ok=>by
  #⟨vs,q1,r1⟩:=h1 ρ' M' H' sm g ok.1
  #⟨ws,q2,r2⟩:=h2 ρ' M' H' sm g ok.2
  have e1:=r1.length
  have e2:=r2.length
  !⟨vs,ws,q1,q2,?_⟩
  show (BK xs ys).length=_\/_
  rw[BK,AA6,List.length_zip]
  &
¶Oa{elts:List Expr}{x1:Nat}{q:Pos}{a b:Expr}{ta:DTA}{p pos:Pos}(hm:X.mg "zip" = none)(ha:DA X [a,b] ta)(hg:Gl X "zip":=by rfl)(hs:starEach [a,b] X.env=[(false,eval a X.env),(false,eval b X.env)]:=by rfl)(hs2:starEach [b] X.env=[(false,eval b X.env)]:=by rfl) :
  DI X (.Tuple elts x1 q) (.Call (.Name "zip" p) [a,b] [] pos) (dZip ta):=by
 intro pins s σ H R I h
 #⟨S,M,ρ,Q,sm,sr,hq,k⟩:=h
 !Call_ (jU I hg hm Ic (ACC (thn (ha pos pins s σ H _ I ⟨S,M,ρ,_,sm,sr,hq,λv H' w=>w⟩) λus s1 ⟨vs,H1,I1,r1,ds,M1,ρ1,sm1,g1,rr,q1⟩=>?_) (by rw[hs,hs2]) (by rw[hs2];rfl)))
 try dsimp only at q1
 split at q1
 ·#⟨xs,ys,o1,o2,w1,w2,q2⟩:=q1
  first | have hzz:=Reps.inv_cons rr | have hzz:=aL.inv_cons rr
  clear rr
  #⟨_,_,rfl,d1,rr⟩:=hzz
  first | have hzz:=Reps.inv_cons rr | have hzz:=aL.inv_cons rr
  clear rr
  #⟨_,_,rfl,d2,rr⟩:=hzz
  cases rr
  first | have hzz:=Reps.inv_cons r1 | have hzz:=aL.inv_cons r1
  clear r1
  #⟨_,_,rfl,b1,r1⟩:=hzz
  first | have hzz:=Reps.inv_cons r1 | have hzz:=aL.inv_cons r1
  clear r1
  #⟨_,_,rfl,b2,r1⟩:=hzz
  cases r1
  #⟨t1,l1,rfl,k1,f1⟩:=w1.sq sm1 d1 b1
  #⟨t2,l2,rfl,k2,f2⟩:=w2.sq sm1 d2 b2
  #⟨as,qa,_⟩:=f1 ρ1 M1 H1 sm1 .refl k1
  #⟨bs,qb,_⟩:=f2 ρ1 M1 H1 sm1 .refl k2
  #⟨is,_,ia,_⟩:=qa.is I1
  #⟨js,_,ib,_⟩:=qb.is I1
  !Fh ia ib λh' st kp=>?_
  !wpAny_pyIter_zip st.1 ?_
  have nd:[s1.heap.objs.size+4,s1.heap.objs.size+2,s1.heap.objs.size+3,s1.heap.objs.size,s1.heap.objs.size+1].Nodup:=by simp
  !⟨s1.heap.objs.size+4,_,_,_,H1,rfl,I1.kept (t':=s1.toks) kp,FV nd,st,λc hc=>?_,k _ H1 ⟨_,M1,ρ1,sm1,g1,ItD.zip f1 f2,q2⟩⟩
  have hc':s1.heap.objs.size<=c:=by
   simp only[AAH,AAf,or_false]at hc
   rcases hc with rfl | rfl | rfl | rfl | rfl<;>first | ~ADN _ _ | ~AAC _
  ~I1.fpOk hc' (I1.hok.fresh hc')
 ·~q1.elim
end
end L2
namespace L2
open PySem PySem.Spec PyProof.Rows DL PySem.W
section
variable{X:Cx}{e:Expr}{te:DTE}{pos p2:Pos}
end
section
variable{X:Cx}
¶uP{K:AA5}{ρ:List Addr}{H:Hp}:∀xs:List Str,Reps K ρ H (xs.map D.str) (xs.map V.str)
 | []=>.nil
 | x::xs=>.cons (.str x) (uP xs)
end
end L2
namespace L2
open PySem PySem.Spec PyProof.Rows DL PySem.W
section
variable{prog:Program}{w:World}{A:Around}{E:Value->Shared->Prop}{s:Shared}
¶xV{D:Addr}{vs:List Value}{n:Nat}{Q:Value->Shared->Prop}(ho:s.heap.get? D=some (seqObj "list" vs.toArray n))(h2:vs.length<2)
  (h:∀h' c,(∀b o,b≠D->s.heap.get? b=some o->h'.get? b=some o)->h'.get? D=some (seqObj "list" vs.toArray c)->Q .none { s with heap:=h' }):wpAny (model prog w) A (call (.builtin "list.sort") [.ref D]) Q E s:=by
 have few:vs.length<=sizeLine:=by rw[ABm];&
 !AAm slot_list_sort (⟨_,ho,rfl⟩) entry_list_sort ?_ (args_list_sort (.ref D))
 rw[list_sort_plain]
 !AA0 (listItems_at ho rfl (AA0 (listUpdate_at ho rfl ?_ (by rw[AAB];~few) (AAT _))))
 obtain⟨e1,ho1⟩:∃e1,(s.heap.update D (ABZ λ_=>(#[]:Array Value))).get? D=some (seqObj "list" #[] e1):=⟨_,AEE ho λ_=>#[]⟩
 !AA0 (seqEpoch_at ho1 rfl (AA0 (wpAny_newTuple (AA0 (AE5 (AAp ?_) (AAT _))) few)))
 dsimp only
 have hv2:vs.toArray.size<2:=by rw[AAB];~h2
 rw[if_pos hv2,if_pos hv2]
 !AA0 (AA3 ?_)
 rw[StateT.run_pure]
 !AA0 (AA3 ?_)
 dsimp only
 generalize hg3:((s.heap.update D (ABZ λ_=>(#[]:Array Value))).push (seqObj "tuple" vs.toArray 0)).push (seqObj "list" #[] 0)=g3
 have ho3:g3.get? D=some (seqObj "list" #[] e1):=by rw[←hg3];~AA4 _ (AA4 _ ho1)
 have k3:∀b o,b≠D->s.heap.get? b=some o->g3.get? b=some o:=λb o hb q=>by
  rw[←hg3]
  !AA4 _ (AA4 _ ?_)
  rw[ACj _ _ _ _ hb]
  ~q
 !AA0 (seqEpoch_at ho3 rfl ?_)
 have eo:∀us:List Value,us.length<2->(us.toArray.zip us.toArray).map (·.2)=us.toArray:=λus hu=>by
  match us,hu with
  | [],_=>simp
  | [v],_=>simp
  | _::_::_,hu=>simp at hu;&
 have eout:(arrOf (SortSt.mk' general' (vs.toArray.zip vs.toArray) #[] 7 none)).map (·.2)=vs.toArray:=eo vs h2
 rw[eout]
 !AA0 (listUpdate_at ho3 rfl ?_ (AAT _) (by rw[AAB];~Nat.le_succ_of_le few))
 simp only[show failedOf (SortSt.mk' general' (vs.toArray.zip vs.toArray) #[] 7 none)=none from rfl,bne_self_eq_false,AAF,if_false]
 obtain⟨c2,hc2⟩:∃c2,(g3.update D (ABZ λ_=>vs.toArray)).get? D=some (seqObj "list" vs.toArray c2):=⟨_,AEE ho3 λ_=>vs.toArray⟩
 !AA3 ⟨_,rfl,h _ c2 (λb o hb q=>?_) hc2⟩
 rw[ACj _ _ _ _ hb]
 ~k3 b o hb q
end
section
variable{X:Cx}{pins:List (Addr×Obj)}{σ:St}{H:Hp}{s:Shared}{ρ:List Addr}{M:Mem}
¶xr{k:Nat}{D:Addr}{xs:List L2.D}{ws:List V}{its:List Value}{R:VK}{h1:Heap}{tk n:Nat}{m:Str->Option Value}{A:Around}{E:Value->Shared->Prop}(hr:Room k X.A)(hA:A.units<=X.A.units+4)(I:Inv X pins σ H s)(sm:Sim X.K ρ M H)(so:SrtG M xs)(r:Reps X.K ρ H xs ws)(rr:aL ws its)
  (hn:s.heap.Ns X.env.locals m) (hn1:h1.Ns X.env.locals m) (kp1:∀b u,b≠X.env.locals->s.heap.get? b=some u->h1.get? b=some u) (hD:s.heap.get? D=none) (hne:D≠X.env.locals) (ho:h1.get? D=some (seqObj "list" its.toArray n))
  (kk:∀v H',((∀Q:DK,(∀ys,ys.Perm xs->BN M ys->Q (.ref M.length) (M++[.lst ys]))->VQ X.K ρ H Q v H'))->R v H') :
  wpAny (model X.prog X.w) A (call (.builtin "list.sort") [.ref D]) (λ_ s'=>EP X pins σ R (.ref D) s') E { s with heap:=h1,toks:=tk }:=by
 have lw:=r.length
 have li:=rr.length
 have l64:=so.len
 have hH:H D=none:=HOk.none I.hok hD
 have neD:∀b u,s.heap.get? b=some u->b≠D:=λb u e q=>by subst q;rw[hD]at e;cases e
 by_cases h2:its.length<2
 ·!xV ho h2 λh' c kp' ho'=>?_
  have hn':h'.Ns X.env.locals m:=by
   #⟨o,es,ep,e,bn⟩:=hn1
   ~⟨o,es,ep,kp' _ _ (AAz hne) e,bn⟩
  !⟨.ref D,_,I.laidF (t':=tk) (o:=.lst ws) (λb u hb e=>kp' b u (neD b u e) (kp1 b u hb e)) hn hn' hD hH ⟨by rw[ABm];&,its,c,rr,ho'⟩,rfl,kk _ _ λQ hQ=>VQ.laidL sm .refl r hH (hQ xs (ADF _) ?_)⟩
  unfold BN
  match xs,(show xs.length<2 by &) with
  | [],_=>~ADm
  | [x],_=>~ADa _ _
  | _::_::_,hx=>simp at hx;&
 ·have h2':2<=its.length:=¤
  have mem:∀a o,(a,o)∈Att.ledger h1 X.env.locals D↔a≠X.env.locals/\a≠D/\h1.get? a=some o:=λa o=>Att.mem_ledger
  have U:UpdF D (seqObj "list" its.toArray n) ([]++(D,seqObj "list" its.toArray n)::Att.ledger h1 X.env.locals D) λo'=>(D,o')::Att.ledger h1 X.env.locals D:=UpdF.head λp hp=>((mem p.1 p.2).mp hp).2.1
  !kat_lsort (s:={ s with heap:=h1,toks:=tk }) (vs:=its) (Att.fr_all hn1) (Att.news_ledger hne ho) U rfl h2' ¤ λe1 h' F' N'=>?_
  have kp:∀b u,b≠X.env.locals->s.heap.get? b=some u->h'.get? b=some u:=λb u hb e=>(N' (b,u) (AA9 _ ((mem b u).mpr ⟨hb,neD b u e,kp1 b u hb e⟩))).1
  have I':Inv X pins σ H { s with heap:=h',toks:=tk }:=I.keptF (t':=tk) kp hn F'.ns
  have hu:A.in1.units+eqN<cLine:=by
   have:=hr.un
   have:eqN=30:=rfl
   show A.units+1+eqN<cLine
   &
  !ABi (uw I' sm so r rr h2' hu) (λκ s' hk=>?_) λ_ _ x=>x
  #⟨rfl,hask⟩:=hk
  !Srt.wp_run (n:=its.length) (c:=λi j=>if i<xs.length then(if j<xs.length then ltD M eqN (xs.getD i default) (xs.getD j default)else true)else false) (λi j C hi hj hc=>?_) _ (Srt.sort_bd ¤).1 ?_
  ·!hask i j C hi hj ?_
   rw[if_pos ¤,if_pos ¤]at hc
   ~hc
  ·have hent:=Srt.All.run (c:=λi j=>if i<xs.length then(if j<xs.length then ltD M eqN (xs.getD i default) (xs.getD j default)else true)else false) _ (Srt.sort_bd (n:=its.length) ¤).2
   #⟨o1,o2,o3⟩:=MG so
   have hsl:=Srt.sort_list xs ¤ o1 o2 o3
   try dsimp only at hsl
   rw[show xs.length=its.length by &]at hsl hent ⊢
   generalize Srt.run _ (AEK its.length)=p at hent hsl ⊢
   have hi:∀i∈p.toList,i<xs.length:=λi h=>by
    have:=hent.mem_iff.mp h
    rw[AAo]at this
    &
   !KasFin.intro F' N' (UpdF.head λq hq=>((mem q.1 q.2).mp hq).2.1) λh2 c F2 N2=>?_
   have r':=r.perm p.toList hi
   have rr':=rr.perm p.toList (λi h=>by have:=hi i h;&)
   !⟨.ref D,_,I.laidF (t':=tk) (o:=.lst (p.toList.map λi=>ws.getD i .non)) (λb u hb e=>(N2 (b,u) (AA9 _ ((mem b u).mpr ⟨hb,neD b u e,kp1 b u hb e⟩))).1) hn F2.ns hD hH ⟨?_,_,c,rr',(N2 _ AAI).1⟩,rfl,
    kk _ _ λQ hQ=>VQ.laidL sm .refl r' hH (hQ _ hsl.1 hsl.2)⟩
   rw[AA6]
   have:=hsl.1.length_eq
   rw[AA6]at this
   rw[ABm]
   &
end
section
variable{K:AA5}{ρ:List Addr}{H:Hp}{M:Mem}
¶Sim.laidM{p:Addr}{o:HO}{mo:MO}(S:Sim K ρ M H)(hp:H p=none)(ok:BO K (ρ++[p]) (upd H p o) p mo):Sim K (ρ++[p]) (M++[mo]) (upd H p o):=by
 have g:Grow K ρ H (ρ++[p]) (upd H p o):=Grow.laidR hp
 have old:∀(n:Nat),ρ[n]?=some p->isK M[n]?:=λn e=>by
  rcases S.tracked e with⟨o,q⟩ | q
  ·rw[hp]at q;cases q
  ·~q
 !⟨λn m a hnm e1 e2=>?_,by rw[AA8,AA8,S.len];rfl,λn a mo' e1 e2=>?_⟩
 ·rcases bu e1 with f1 | ⟨f1,g1⟩
  ·rcases bu e2 with f2 | ⟨f2,g2⟩
   ·~(S.nd n m a hnm f1 f2).elim (λz=>.inl z.more) λz=>.inr z.more
   ·subst g2
    ~.inl (old n f1).more
  ·rcases bu e2 with f2 | ⟨f2,g2⟩
   ·subst g1
    ~.inr (old m f2).more
   ·~absurd (f1.trans f2.symm) hnm
 ·rcases bu e1 with f1 | ⟨f1,g1⟩
  ·have hn:n<M.length:=by rw[←S.len];~(AA2.mp f1).1
   rw[AAJ hn]at e2
   ~(S.obj n a mo' f1 e2).grow g (S.keeps hp f1 e2)
  ·subst g1 f1
   rw[S.len,AAg (AAC _),ABz]at e2
   simp at e2
   subst e2
   ~ok
¶SqT.writtenD{a p:Addr}{xs:List V}{kv:List (Key×V)}{o:HO}(hp:H p=some (.dK kv))(h:SqT K H a xs):SqT K (upd H p o) a xs:=by
 rcases h with h | h
 ·rcases h with h | ⟨ob,h⟩
  ·~.inl (.inl (by rw[aJ (xR h hp (by intro z;cases z))];~h))
  ·~.inl (.inr ⟨ob,by rw[aJ (xR h hp (by intro z;cases z))];~h⟩)
 ·~.inr h
¶Sim.writeD{n:Nat}{a:Addr}{kvs kvs':List (Str×D)}{kv:List (Key×V)}{vs':List V}(S:Sim K ρ M H)(e1:ρ[n]?=some a)(hM:M[n]?=some (.dct kvs))(hH:H a=some (.dK kv))(r:Reps K ρ H (kvs'.map (·.2)) vs') :
  Sim K ρ (M.set n (.dct kvs')) (upd H a (.dK (rR (kvs'.map (·.1)) vs')))/\Grow K ρ H ρ (upd H a (.dK (rR (kvs'.map (·.1)) vs'))):=by
 have g:Grow K ρ H ρ (upd H a (.dK (rR (kvs'.map (·.1)) vs'))):=⟨ACc,λ_ _ h=>SqT.writtenD hH h⟩
 have hk:∀m,m≠n->(M.set n (.dct kvs'))[m]?=M[m]?:=λm hm=>AAt (AAz hm)
 have notK:¬isK M[n]?:=λ⟨_,z⟩=>by rw[hM]at z;cases z
 !⟨⟨λm m' b hne f1 f2=>?_,by rw[ABQ];~S.len,λm b mo f1 f2=>?_⟩,g⟩
 ·have q:=S.nd m m' b hne f1 f2
  by_cases h1:m=n
  ·subst h1
   rw[hk m' (AAz hne)]
   ~.inr (q.resolve_left notK)
  ·rw[hk m h1]
   by_cases h2:m'=n
   ·subst h2
    ~.inl (q.resolve_right notK)
   ·rw[hk m' h2]
    ~q
 by_cases hm:m=n
 ·subst hm
  have hb:b=a:=AAR (f1.symm.trans e1)
  subst hb
  rw[ABD (by rw[←S.len];~(AA2.mp e1).1)]at f2
  cases f2
  ~⟨vs',bB,r.grow g⟩
 ·rw[hk m hm]at f2
  by_cases hb:b=a
  ·subst hb
   have q':=(S.nd m n b hm f1 e1).resolve_right notK
   rw[f2]at q'
   ~(S.obj m b mo f1 f2).grow g (.inr q')
  ·~(S.obj m b mo f1 f2).grow g (.inl (aJ hb))
def zI(kvs:List (Str×D))(k:Str)(d:D):List (Str×D):=if (kvs.any λp=>decide (p.1=k))=true then kvs.map (λp=>if p.1=k then(p.1,d)else p)else kvs++[(k,d)]
¶Kx(a b:Str):decide ((AC6 a:Key)=AC6 b)=decide (a=b):=Iw a b
¶Af{k:Str}:∀{kvs:List (Str×D)}{vs:List V},Reps K ρ H (kvs.map (·.2)) vs->((rR (kvs.map (·.1)) vs).any λkv=>decide (kv.1=AC6 k))=kvs.any λp=>decide (p.1=k)
 | [],_,_=>rfl
 | (k',d')::kvs,_,.cons h t=>by
  have ih:=Af (k:=k) t
  show (decide ((AC6 k':Key)=AC6 k)||(rR (kvs.map (·.1)) _).any _)=(decide (k'=k)||kvs.any _)
  rw[ih,Kx]
¶zM{k:Str}{d:D}{v:V}(hd:Rep K ρ H d v):∀{kvs:List (Str×D)}{vs:List V},Reps K ρ H (kvs.map (·.2)) vs->∃vs',(rR (kvs.map (·.1)) vs).map (λkv=>if kv.1=AC6 k then(kv.1,v)else kv)=rR ((kvs.map λp=>if p.1=k then(p.1,d)else p).map (·.1)) vs'/\Reps K ρ H ((kvs.map λp=>if p.1=k then(p.1,d)else p).map (·.2)) vs'
 | [],_,.nil=>⟨[],rfl,.nil⟩
 | (k',d')::kvs,_,.cons (v:=v') h t=>by
  #⟨vs',e,r⟩:=zM (k:=k) hd t
  by_cases q:k'=k
  ·subst q
   !⟨v::vs',?_,?_⟩
   ·simp only[AAL,if_true,rR,ABL]at e ⊢
    rw[e]
   ·simp only[AAL,if_true]
    ~.cons hd r
  ·have q':¬(AC6 k':Key)=AC6 k:=λz=>q (Sum.inr.inj z)
   !⟨v'::vs',?_,?_⟩
   ·simp only[AAL,if_neg q,if_neg q',rR,ABL]at e ⊢
    rw[e]
   ·simp only[AAL,if_neg q]
    ~.cons h r
¶ux{k:Str}{v:V}:∀{kvs:List (Str×D)}{vs:List V},Reps K ρ H (kvs.map (·.2)) vs->rR (kvs.map (·.1)) vs++[(AC6 k,v)]=rR (kvs.map (·.1)++[k]) (vs++[v])
 | [],_,.nil=>rfl
 | (k',d')::kvs,_,.cons h t=>by
  have:=ux (k:=k) (v:=v) t
  simp only[AAL,rR,ABL,AC5]at this ⊢
  rw[this]
¶Jx{k:Str}{d:D}{v:V}(hd:Rep K ρ H d v){kvs:List (Str×D)}{vs:List V}(r:Reps K ρ H (kvs.map (·.2)) vs):∃vs',wQ (rR (kvs.map (·.1)) vs) (AC6 k) v=rR ((zI kvs k d).map (·.1)) vs'/\Reps K ρ H ((zI kvs k d).map (·.2)) vs':=by
 unfold wQ zI
 rw[Af r]
 by_cases q:(kvs.any λp=>decide (p.1=k))=true
 ·rw[if_pos q,if_pos q]
  ~zM hd r
 ·rw[if_neg q,if_neg q]
  !⟨vs++[v],?_,?_⟩
  ·rw[ux r,ABR]
   rfl
  ·rw[ABR]
   ~r.append (.cons hd .nil)
end
section
variable{X:Cx}{o i value:Expr}{td ty tv:DTE}{pos pos':Pos}
def BC(td ty tv:DTE):DTS:=λE S M=>tv S M λv M1=>td S M1 λx M2=>ty S M2 λy M3=>match x,y with
 | .ref n,.str k=>∃kvs,M3[n]?=some (.dct kvs)/\kvs.length<sizeLine/\E.nx S (M3.set n (.dct (zI kvs k v)))
 | _,_=>False
¶KO(hu:X.A.units+1<cLine)(ho:DE X o td)(hi:DE X i ty)(hv:DE X value tv)(hs:swapsWith value (some (.Subscript o i pos')) pos.line X.env=pure false):DS X (.Assign [.Subscript o i pos'] value pos) (BC td ty tv):=by
 !PS.imp (JD hu ho hi hv hs) λE σ H ⟨S,M,ρ,F,s,sr,q,k⟩=>⟨S,M,ρ,_,s,sr,q,λv H1 ⟨d,M1,ρ1,s1,g1,r1,q1⟩=>⟨S,M1,ρ1,_,s1,sr.grow g1,q1,λx H2 ⟨e,M2,ρ2,s2,g2,r2,q2⟩=>⟨S,M2,ρ2,_,s2,(sr.grow g1).grow g2,q2,λy H3 ⟨f,M3,ρ3,s3,g3,r3,q3⟩=>?_⟩⟩⟩
 try dsimp only at q3
 split at q3
 ·#⟨kvs,hM,hl,q4⟩:=q3
  #⟨_,rfl,hn⟩:=Rep.inv_ref r2
  cases r3
  #⟨vs,hH,rr⟩:=s3.obj _ _ _ (bE g3.pre hn) hM
  #⟨vs',e1,rr'⟩:=Jx ((r1.grow g2).grow g3) rr
  #⟨w1,w2⟩:=s3.writeD (bE g3.pre hn) hM hH rr'
  !⟨_,_,rfl,.inl ⟨_,AC6 _,hH,rfl,?_,by rw[e1]⟩,k.nx σ _ (SQ.trans ((g1.trans g2).trans g3) ⟨S,_,ρ3,w1,w2,(((sr.grow g1).grow g2).grow g3).grow w2,q4⟩)⟩
  have:=rr.length
  rw[AA6]at this
  rw[rR,AA6,List.length_zip,AA6]
  &
 ·~q3.elim
def jL:DRA:=λds M Q=>match ds with
 | [.ref n]=>∃xs,(aA M n xs\/∃kvs,M[n]?=some (.dct kvs)/\xs=kvs.map λp=>.str p.1)/\SrtOk M xs/\∀ys,ys.Perm xs->BN M ys->Q (.ref M.length) (M++[.lst ys])
 | _=>False
¶Ek:∀{kvs:List (Str×D)}{vs:List V}{us:List (Key×Value)},kvs.length=vs.length->KV (rR (kvs.map (·.1)) vs) us->us.map (·.1)=kvs.map (λp=>(AC6 p.1:Key))
 | [],_,_,_,h=>by cases h;rfl
 | _::_,[],_,e,_=>by simp at e
 | p::kvs,v::vs,_,e,h=>by
  have h':KV ((AC6 p.1,v)::rR (kvs.map (·.1)) vs) _:=h
  cases h' with
  | cons a t =>
   rw[AAL,AAL,←a.1,Ek (by simpa using e) t]
¶tL:∀(ks:List Str) (vs:List Value),vs.length=ks.length->(∀(j:Nat) (v:Value),vs[j]?=some v->∃k,ks[j]?=some k/\yj (AC6 k) v=true)->aL (ks.map V.str) vs
 | [],[],_,_=>.nil
 | [],_::_,e,_=>by simp at e
 | _::_,[],e,_=>by simp at e
 | k::ks,v::vs,e,h=>by
  #⟨k',e1,e2⟩:=h 0 v rfl
  have:k=k':=by simpa using e1
  subst this
  rcases bz e2 with⟨i,t,z,_⟩|⟨x,t,z,rfl⟩
  ·cases z
  ·cases z
   ~.cons ⟨t,rfl⟩ (tL ks vs (by simpa using e) λj u hj=>by simpa using h (j+1) u (by simpa using hj))
¶BE{k:Nat}(hr:Room k X.A)(hc:X.calm=true):mh X (.builtin "sorted") jL:=by
 intro pins s σ H vs us R I rv ⟨ds,M,ρ,Q,sm,rs,q,kk⟩
 unfold jL at q
 split at q
 ·#⟨xs,hL | ⟨kvs,hM,rfl⟩,so,q⟩:=q
  ·~Fg hr pins s σ H vs us R I rv ⟨_,M,ρ,Q,sm,rs,⟨xs,hL,so.g,q⟩,kk⟩
  ·first | have hzz:=Reps.inv_cons rs | have hzz:=aL.inv_cons rs
   clear rs
   #⟨_,_,rfl,r1,rs⟩:=hzz
   cases rs
   #⟨u,rfl,e1⟩:=aL.one rv
   #⟨a,rfl,e⟩:=Rep.inv_ref r1
   cases e1
   #⟨ws,hH,r⟩:=sm.obj _ _ _ e hM
   #⟨z1,z2,pvs,rel,dd⟩:=(show cL X.prog X.w H s.heap a (.dK _)from I.hok a _ hH)
   #⟨ep,hat⟩:=dd.dictAt
   #⟨m,hn,hm⟩:=I.loc
   have hne:a≠X.env.locals:=au hH I.free
   #⟨oa,_,hoa,_⟩:=id hat
   have lk:kvs.length=ws.length:=by have:=r.length;rwa [AA6]at this
   have kk':=Ek lk rel
   have lp:pvs.length=kvs.length:=by have:=congrArg ACy kk';simpa using this
   have mem:∀b o,(b,o)∈[]++(a,oa)::Att.ledger s.heap X.env.locals a↔b≠X.env.locals/\s.heap.get? b=some o:=λb o=>by
    rw[AAr,AAH,Att.mem_ledger]
    constructor
    ·rintro(h | ⟨h1,_,h3⟩)
     ·cases h;~⟨hne,hoa⟩
     ·~⟨h1,h3⟩
    ·rintro⟨h1,h2⟩
     by_cases hal:b=a
     ·subst hal
      rw[hoa]at h2;cases h2
      ~.inl rfl
     ·~.inr ⟨h1,hal,h2⟩
   !kdu_sorted (kdl_dict (knd:=cj X.prog X.w) (kvs:=pvs) (ep:=ep) z2) (I.ok.hd hc) (Att.fr_all hn) (Att.news_ledger hne hoa) hat (by rw[lp,ABm];have:=so.len;rw[AA6]at this;&) λD h' tk vs F' N' lt hl hP=>?_
   have kp:∀b u,b≠X.env.locals->s.heap.get? b=some u->h'.get? b=some u:=λb u hb e=>(N' (b,u) (AA9 _ ((mem b u).mpr ⟨hb,e⟩))).1
   have hDL:D≠X.env.locals:=(N' _ AAI).2.1
   have hD:s.heap.get? D=none:=by
    cases q:s.heap.get? D with
    | none=>rfl
    | some o=>~absurd (lt (D,o) ((mem D o).mpr ⟨hDL,q⟩)) (AAq _)
   have rvs:aL ((kvs.map (·.1)).map V.str) vs:=by
    !tL _ _ (by rw[AA6];&) λj v hj=>?_
    #⟨key,x,e1,e2⟩:=hP j v hj
    have e3:(pvs.map (·.1))[j]?=some key:=by rw[AAU,e1];rfl
    rw[kk',AAU]at e3
    cases e4:kvs[j]? with
    | none=>rw[e4]at e3;cases e3
    | some p =>
     rw[e4]at e3
     have:key=AC6 p.1:=(AAR e3).symm
     subst this
     ~⟨p.1,by rw[AAU,e4];rfl,e2⟩
   have rps:Reps X.K ρ H (kvs.map λp=>L2.D.str p.1) ((kvs.map (·.1)).map V.str):=by
    have:=uP (K:=X.K) (ρ:=ρ) (H:=H) (kvs.map (·.1))
    rw[AAi]at this
    ~this
   ~xr (n:=0) hr (by show X.A.units+1<=X.A.units+4;&) I sm so.g rps rvs hn F'.ns kp hD hDL (N' _ AAI).1 λv H' x=>kk v H' (x Q q)
 ·~q.elim
end
end L2
namespace L2
open PySem PySem.Spec PyProof.Rows DL PySem.W
structure HGs(X:Cx)(es:List Expr)(t:FH):Prop where
 ok:DGs X es t
section
variable{X:Cx}{e a b c o i tg:Expr}{es bn:List Expr}{te ta tb tc to ti:DTE}{t:DTA}{pos p p2 pos':Pos}{x:Str}{k:Nat}{g:DTG}{u:FH}{name:Str}{apos cpos:Pos}
¶eT:HGs X [] iG:=⟨KW⟩
¶bg(h1:HG X e g)(h2:HGs X es u)(hs:(assignEach (e::es) X.env).map (·.2)=assign e X.env::(assignEach es X.env).map (·.2):=by kernel_rfl):HGs X (e::es) (bw g u):=⟨Hz h1.ok h2.ok hs⟩
¶iL{j n:Nat}(h:HGs X es u)(hc:X.calm=true:=by kernel_rfl)(hn:(assignEach es X.env).length=n:=by kernel_rfl)(hst:(assignEach es X.env).findIdx? (·.1)=none:=by kernel_rfl):HG X (.Tuple es j pos) (iF n u):=⟨Oc h.ok hc hn hst⟩
¶Ni(ho:HE X o to)(hi:HE X i ti)
  (ha:∀v,assign (.Subscript o i pos) X.env v=(do
   let ov ←holding [v] (eval o X.env)
   let iv ←holding [v,ov] (eval i X.env)
   standAt pos
   holding [v,ov,iv] (setItem ov iv v)
   release [v,ov,iv] []):=by intro _;kernel_rfl):HG X (.Subscript o i pos) (HD to ti):=⟨Od ho.ok hi.ok ha⟩
¶Ng(he:HE X e te)(hg:HG X tg g)(hs:swapsWithSole [tg] e pos.line X.env=pure false:=by kernel_rfl)(hw:swappedStores [tg] e X.env=pure none:=by kernel_rfl)
  (h1:(assignEach [tg] X.env).map (·.2)=[assign tg X.env]:=by kernel_rfl):HS X (.Assign [tg] e pos) (dAsg te g):=⟨NY he.ok hg.ok hs hw h1⟩
¶Nh{x1:Nat}{q:Pos}(hm:X.mg "zip" = none)(ha:HA X [a,b] t)(hg:X.env.kindOf "zip" = some .globalImplicit:=by kernel_rfl)(hs:starEach [a,b] X.env=[(false,eval a X.env),(false,eval b X.env)]:=by kernel_rfl)(hs2:starEach [b] X.env=[(false,eval b X.env)]:=by kernel_rfl) :
  HI X (.Tuple es x1 q) (.Call (.Name "zip" p) [a,b] [] pos) (dZip t):=⟨Oa hm ha.ok hg hs hs2⟩
¶aF:HOp X (binaryOp .Add) bf:=⟨Kb⟩
¶Nu(hr:Room k X.A):HOp X (compareOp .Lt) Mg:=⟨MV hr⟩
¶KD:HC X (.type "list") Dd:=⟨Ln⟩
¶iA:HC X (.type "tuple") iK:=⟨HY⟩
¶EB(hr:Room k X.A)(hc:X.calm=true:=by kernel_rfl):HC X (.builtin "sorted") jL:=⟨BE hr hc⟩
¶Ex:HMl X "extend" nN:=⟨_,PySem.F.slot_list_extend,PySem.F.type_list_extend,Bj⟩
¶Gf(hr:Room k X.A):X.A.units+1<cLine:=by have:=hr.un;&
¶yi(hr:Room k X.A)(ho:HE X o to)(hi:HE X i ti)(hv:HE X e te)(hs:swapsWith e (some (.Subscript o i pos')) pos.line X.env=pure false:=by kernel_rfl):HS X (.Assign [.Subscript o i pos'] e pos) (BC to ti te):=⟨KO (Gf hr) ho.ok hi.ok hv.ok hs⟩
end
¶Cal.never{P:Program}{w:World}{K:AA5}{mg:Str->Option Value}{base:Heap}{k:Nat}{x:Str}{st:Stmt}{ps:List Str}{Pr:DSp}(F:cM K mg x st ps)(h:∀ds M R,¬Pr ds M R):Cal P w K mg base k x ps Pr:=by
 #⟨f,fd,F1,hm,hb⟩:=F
 !⟨f,fd,⟨λvs H Q E q=>?_,λA outer s H args us vs Q E _ _ _ _ q=>?_⟩,hm,F1.kp,hb⟩
 ·#⟨ds,M,ρ,R,_,_,q,_⟩:=q
  ~(h ds M R q).elim
 ·#⟨ds,M,ρ,R,_,_,q,_⟩:=q
  ~(h ds M R q).elim
¶Ad(n:Nat):Nat.ble n n=true:=Nat.ble_eq_true_of_le (AAC n)
¶cK{c l n:Nat}(h:Nat.ble c l=true):Nat.ble c (l+n)=true:=Nat.ble_eq_true_of_le (ABN (Nat.le_of_ble_eq_true h) (ADN _ _))
end L2
namespace L2
open PySem PySem.Spec PyProof.Rows DL PySem.W
section
variable{X:Cx}
def LQ(nt:Nat)(js:List Nat)(wi:TI)(g:TG)(tt:TT)(te:TE)(gN:TG):TS:=λD σ H=>tLC nt js wi g tt te σ H λv H1=>gN v σ H1 D.nx
¶Gm{elt tg iter:Expr}{ifs:List Expr}{scope:Scope}{pos pos' pos2:Pos}{x:Str}{N':List Str}{nt:Nat}{js:List Nat}{wi:TI}{g gN:TG}{tt:TT}{te:TE}(B:BlkSc X N' nt js scope)(hc:X.calm=true)(hi:PI X tg iter wi)
  (hg:∀cl s0 H0 ex,PG (blk X N' scope cl s0 H0 ex) tg g) (ht:∀cl s0 H0 ex,PTs (blk X N' scope cl s0 H0 ex) ifs tt) (he:∀cl s0 H0 ex,PE (blk X N' scope cl s0 H0 ex) elt te) (hn:PG X (.Name x pos') gN)
  (hs:∀x,foldedSetIterable iter X.env x=pure x) (hsw:swapsWith (.ListComp elt [⟨tg,iter,ifs,0⟩] scope pos) (some (.Name x pos')) pos2.line X.env=pure true) :
  PS X (.Assign [.Name x pos'] (.ListComp elt [⟨tg,iter,ifs,0⟩] scope pos) pos2) (LQ nt js wi g tt te gN):=by
 intro pins s σ H Dn I h
 rw[exec_Assign_Name_used _ _ _ _ hsw]
 !AA0 (wpAny_standAt ?_)
 #⟨cl,ecl,hcl1,hcl2⟩:=lQ (scope:=scope) (env:=X.env) λp hp hf=>I.ok.has p.1 (B.free p hp hf)
 !AA0 (show wpAny (model X.prog X.w) X.A (comprehension (.ListComp elt [⟨tg,iter,ifs,0⟩] scope pos) scope X.env _ (newList []) false (eval iter X.env) (some (assign (.Name x pos') X.env)) >>= λ_=>pure ()) _ _ _ from AA0 ?_)
 !wpAny_comprehension_free (use:=some (assign (.Name x pos') X.env)) (Q:=λ_ s''=>wpAny (model X.prog X.w) X.A (pure ()) (λ_ s3=>wpAny (model X.prog X.w) X.A (pure Flow.next) (SP X pins Dn) X.xe s3) X.xe s'') rfl hs ecl B.kind B.loc ?_
 !thn (hi pins s σ H _ I h) λv s1 h1=>thn h1 λitv s2 h2=>?_
 #⟨it,fp,tn,J,H2,e,I2,T,st2,f2,W,⟨m0,w0⟩,turn⟩:=h2
 subst e
 !AAj (wpAny_newFunctionEnv B.nocell (by intro y hy;simp at hy) (λh1 hns1 hsb1=>?_) B.kind)
 have hfs:∀b∈fp,b<s2.heap.objs.size:=λb hb=>by
  #⟨o,e,_⟩:=T.obj _ _ st2 b hb
  ~AAG e
 have hC:(s2.heap.push (dy [] 0)).objs.size=s2.heap.objs.size+1:=AB1 ..
 have old:∀b o,(s2.heap.push (dy [] 0)).get? b=some o->h1.get? b=some o:=λb o e=>(hsb1.2 b (AAQ (AAG e))).trans (AA4 _ e)
 have I3:=I2.blkStart (tk:=s2.toks+([]:List (Str×Value)).length) B hcl1 hcl2 f2 hfs old hns1
 have st3:tn 0 h1:=T.keep _ _ _ st2 λb _ o e=>old b o (AA4 _ e)
 have hDf:s2.heap.objs.size∉fp:=λz=>AAq _ (hfs _ z)
 have hDs:s2.heap.objs.size∉frs X.stack:=λz=>by
  rcases AAH.mp (I2.stkSub _ z)with q | q
  ·~absurd I2.lt (by rw[←q];~AAq _)
  ·~I2.nofs (AAC _) q
 have hDC:s2.heap.objs.size≠(s2.heap.push (dy [] 0)).objs.size:=by rw[hC];~AAQ (AB6 _)
 have ltc:∀z c,cl.lookup z=some c->c<s2.heap.objs.size:=λz c e=>by
  #⟨v,q⟩:=I2.cell z c (hcl1 z c e)
  ~q.lt
 have hstat:∀b∈fp,b≠(s2.heap.push (dy [] 0)).objs.size/\b∉frs X.stack/\∀x c,cl.lookup x=some c->c≠b:=λb hb=>by
  !⟨by rw[hC];~AAQ (ACA (hfs b hb)),λz=>?_,λx c e=>(f2 b hb).2.2.2.2.1 x c (hcl1 x c e)⟩
  rcases AAH.mp (I2.stkSub b z)with q | q
  ·~(f2 b hb).2.1 q
  ·~(f2 b hb).2.2.1 q
 have leC:s2.heap.objs.size<=(s2.heap.push (dy [] 0)).objs.size:=by rw[hC];~ADn _
 have loop:codeAny (model X.prog X.w) X.A (.compLoop (.ListComp elt [⟨tg,iter,ifs,0⟩] scope pos) 0 (.ref it) (.ref s2.heap.objs.size) (compEnvC scope cl (s2.heap.push (dy [] 0)).objs.size X.env))
   (compPost (model X.prog X.w) X.A X.xe (some (assign (.Name x pos') X.env)) (λ_ s''=>wpAny (model X.prog X.w) X.A (pure ()) (λ_ s3=>wpAny (model X.prog X.w) X.A (pure Flow.next) (SP X pins Dn) X.xe s3) X.xe s'') (.ref s2.heap.objs.size) (s2.heap.push (dy [] 0)).objs.size) { s2 with heap:=h1,toks:=s2.toks+([]:List (Str×Value)).length }:=by
  !Ej (s0:={ s2 with heap:=s2.heap.push (dy [] 0) }) (H0:=H2) (N':=N') (Q:=λv H1=>gN v σ H1 Dn.nx) hc (hg _ _ _ _) (ht _ _ _ _) (he _ _ _ _) T hDf turn hstat hDC hDs (λx c e=>AAQ (ltc x c e)) ?_ m0 I3 st3 (λb hb=>(f2 b hb).1) w0
  intro τ H' s' vs its k I4 rv hl q
  #⟨mm,hn4,_⟩:=id I4.loc
  #⟨oC,es,ep,eC,bn⟩:=id hn4
  have I5:Inv X pins σ (upd H' s2.heap.objs.size (.lst vs)) s':=I2.blkEnd f2 I4 rv hl ⟨rfl,λ_ _=>rfl⟩
  have fC:upd H' s2.heap.objs.size (.lst vs) (s2.heap.push (dy [] 0)).objs.size=none:=by rw[aJ (AAz hDC)];~I4.free
  have fk:∀Hx:Hp,Hx (s2.heap.push (dy [] 0)).objs.size=none->An X pins Hx (s2.heap.push (dy [] 0)).objs.size:=λHx hx=>I2.fpOk leC hx
  have dC:∀v,oC.data≠.cell v:=λv z=>by
   have:∃es ep,oC.data=.dict es ep:=by
    first
     | (#⟨d,_⟩:=bn;~⟨_,_,d⟩)
     | (#⟨_,d,_⟩:=bn;~⟨_,_,d⟩)
     | (#⟨_,_,d,_⟩:=bn;~⟨_,_,d⟩)
   #⟨_,_,d⟩:=this
   rw[d]at z;cases z
  have I6:Inv X (pins++[((s2.heap.push (dy [] 0)).objs.size,oC)]) σ (upd H' s2.heap.objs.size (.lst vs)) s':=I5.pins_of λp hp=>by
   rcases AAk.mp hp with hp | hp
   ·~I5.pin p (AAc _ hp)
   ·have:p=((s2.heap.push (dy [] 0)).objs.size,oC):=by simpa using hp
    subst this
    ~⟨eC,fC,(fk _ fC).2.1,(fk _ fC).2.2.1,dC⟩
  !thn (hn _ s' σ _ (.ref s2.heap.objs.size) (.ref s2.heap.objs.size) _ I6 rfl q) λ_ s7 ⟨σ7,H7,I7,q7⟩=>?_
  #⟨p1,p2,_⟩:=I7.pin ((s2.heap.push (dy [] 0)).objs.size,oC) (AAc _ (AAc _ AAI))
  !⟨mm,⟨oC,es,ep,p1,bn⟩,λh' sb=>AA3 (AA3 ⟨σ7,H7,?_,q7⟩)⟩
  have I8:Inv X pins σ7 H7 s7:=I7.pins_of λp hp=>I7.pin p (AAc _ (ACZ _ hp))
  !I8.turnedL (t':=s7.toks) (fp:=[(s2.heap.push (dy [] 0)).objs.size]) (λb hb=>?_) λb o hb e=>(sb.2 b (by simpa using hb)).trans e
  have:b=(s2.heap.push (dy [] 0)).objs.size:=by simpa using hb
  subst this
  ~fk H7 p2
 ~codeAny_compStart_list loop (T.self _ 0 _ _ _ st3 loop)
def qG(nt:Nat)(js:List Nat)(di:DTI)(g:DTG)(tt:DTT)(te:DTE)(i:Nat):DTS:=λE S M=>dLC nt js di g tt te S M λd M1=>aH i d S M1 E.nx
¶Hw{elt tg iter:Expr}{ifs:List Expr}{scope:Scope}{pos pos' pos2:Pos}{x:Str}{i:Nat}{N':List Str}{nt:Nat}{js:List Nat}{di:DTI}{g:DTG}{tt:DTT}{te:DTE}(B:BlkSc X N' nt js scope)(hc:X.calm=true)(hi:DI X tg iter di)
  (hg:∀cl s0 H0 ex,DG (blk X N' scope cl s0 H0 ex) tg g) (ht:∀cl s0 H0 ex,PTs (blk X N' scope cl s0 H0 ex) ifs (lowT X.K tt)) (he:∀cl s0 H0 ex,DE (blk X N' scope cl s0 H0 ex) elt te) (hn:DG X (.Name x pos') (aH i))
  (hs:∀x,foldedSetIterable iter X.env x=pure x) (hsw:swapsWith (.ListComp elt [⟨tg,iter,ifs,0⟩] scope pos) (some (.Name x pos')) pos2.line X.env=pure true) :
  DS X (.Assign [.Name x pos'] (.ListComp elt [⟨tg,iter,ifs,0⟩] scope pos) pos2) (qG nt js di g tt te i) :=
 PS.imp (Gm (g:=lowG X.K g) (tt:=lowT X.K tt) (te:=lowE X.K te) B hc hi (λcl s0 H0 ex=>hg cl s0 H0 ex) ht (λcl s0 H0 ex=>he cl s0 H0 ex) hn hs hsw) λE σ H ⟨S,M,ρ,F,s,sr,q,k⟩ =>
  DX σ H _ ⟨S,M,ρ,_,s,sr,q,λv H1 ⟨d,M1,ρ1,s1,g1,r1,q1⟩=>⟨d,S,M1,ρ1,_,s1,sr.grow g1,r1,q1,λσ' H' w=>k.nx σ' H' (SQ.trans g1 w)⟩⟩
¶su{elt tg iter:Expr}{ifs:List Expr}{scope:Scope}{pos pos' pos2:Pos}{x:Str}{i:Nat}{N':List Str}{nt:Nat}{js:List Nat}{di:DTI}{g:DTG}{tt:DTT}{te:DTE}(hN:X.N.Nodup)(hi:HI X tg iter di)
  (hg:∀cl s0 H0 ex,HG (blk X N' scope cl s0 H0 ex) tg g) (ht:∀cl s0 H0 ex,HTs (blk X N' scope cl s0 H0 ex) ifs tt) (he:∀cl s0 H0 ex,HE (blk X N' scope cl s0 H0 ex) elt te) (B:Ac X.env.scope.names X.N N' nt js scope=true:=by kernel_rfl) (hc:X.calm=true:=by kernel_rfl)
  (hs:∀x,foldedSetIterable iter X.env x=pure x:=by intro _;kernel_rfl) (hsw:swapsWith (.ListComp elt [⟨tg,iter,ifs,0⟩] scope pos) (some (.Name x pos')) pos2.line X.env=pure true:=by kernel_rfl)
  (hix:X.N[i]?=some x:=by kernel_rfl) (hx:MZ X.env.scope x=true:=by kernel_rfl) (hf:X.fn x=true:=by kernel_rfl):HS X (.Assign [.Name x pos'] (.ListComp elt [⟨tg,iter,ifs,0⟩] scope pos) pos2) (qG nt js di g tt te i) :=
 ⟨Hw (BlkSc.chk B) hc hi.ok (λcl s0 H0 ex=>(hg cl s0 H0 ex).ok) (λcl s0 H0 ex=>(ht cl s0 H0 ex).ok) (λcl s0 H0 ex=>(he cl s0 H0 ex).ok) (yD hN hix (DZ hx) (.inl hf)) hs hsw⟩
end
end L2
namespace L2
open PySem PySem.Spec PyProof.Rows DL PySem.W
¶at0{a:D}{r:List D}:atI (a::r) 0=some a:=by
 have:=bG (xs:=a::r) (j:=0) (v:=a) rfl
 simpa using this
¶at1{a b:D}{r:List D}:atI (a::b::r) 1=some b:=by
 have:=bG (xs:=a::b::r) (j:=1) (v:=b) rfl
 simpa using this
¶at2{a b c:D}{r:List D}:atI (a::b::c::r) 2=some c:=by
 have:=bG (xs:=a::b::c::r) (j:=2) (v:=c) rfl
 simpa using this
¶aG.lst{M:Mem}{R:DK}{xs:List D}{L:Mem}{n:Nat}(h:R (.ref M.length) (M++[.lst xs]))(hn:M.length<=n)(e:(M++L)[n]?=some (.lst xs))(b:Bels M.length xs):aG M R (.ref n) (M++L) :=
 .inr (.inr ⟨M,n,xs,.refl,rfl,hn,e,ABK _ _,b,h⟩)
¶CI{M L:Mem}{a b:MO}:(M++a::L).set M.length b=M++b::L:=by
 rw[List.set_append_right _ _ (AAC _)]
 simp
¶eM{ok:Mem->Prop}{g:DTG}{tt:DTT}{te:DTE}{Q:DK}(I:List D->List D->SD->Mem->Prop)(h0:∀acc S M,I [] acc S M->ok M/\Q (.ref M.length) (M++[.lst acc]))
  (h1:∀x xs acc S M,I (x::xs) acc S M->∀K:List D->SD->Mem->Prop,(∀acc S M,I xs acc S M->K acc S M)->ok M/\g x S M λS2 M2=>tt S2 M2 λb M3=>if b=true then te S2 M3 λy M4=>acc.length<sizeLine/\K (acc++[y]) S2 M4 else K acc S2 M3) :
  ∀xs acc S M,I xs acc S M->oW ok g tt te Q xs acc S M
 | [],acc,S,M,h=>h0 acc S M h
 | x::xs,acc,S,M,h=>h1 x xs acc S M h _ (eM I h0 h1 xs)
def unS:D->Str
 | .str x=>x
 | _=>Str.empty
¶Dm{ys:List D}{ks:List Str}(h:ys.Perm (ks.map D.str)):∃ns:List Str,ys=ns.map D.str/\ns.Perm ks:=by
 !⟨ys.map unS,?_,?_⟩
 ·rw[AAi]
  have:∀y∈ys,(D.str ∘ unS) y=y:=λy hy=>by
   #⟨x,_,rfl⟩:=AAN.mp (h.mem_iff.mp hy)
   rfl
  ~(ACl this ▸ (List.map_id' ys).symm:ys=ys.map (D.str ∘ unS))
 ·have:=h.map unS
  rw[AAi]at this
  have e:(unS ∘ D.str)=id:=rfl
  rwa [e,List.map_id]at this
¶AF{M:Mem}{ks:List Str}(h:ks.length<64):SrtOk M (ks.map D.str):=by
 !⟨by rw[AA6];~h,λx hx=>?_,λx hx y hy=>?_,.inl λx hx=>?_⟩
 ·#⟨z,_,rfl⟩:=AAN.mp hx;rfl
 ·#⟨z,_,rfl⟩:=AAN.mp hx
  #⟨z',_,rfl⟩:=AAN.mp hy
  rfl
 ·#⟨z,_,rfl⟩:=AAN.mp hx;~⟨z,rfl⟩
¶Df{kvs:List (Str×D)}{k:Str}{d:D}(h:(kvs.map (·.1)).Nodup):((zI kvs k d).map (·.1)).Nodup:=by
 unfold zI
 by_cases q:(kvs.any λp=>decide (p.1=k))=true
 ·rw[if_pos q,AAi]
  have:((λx:Str×D=>x.1) ∘ λp:Str×D=>if p.1=k then(p.1,d)else p)=λx=>x.1:=by
   funext p
   show (if p.1=k then(p.1,d)else p).1=p.1
   split<;>rfl
  rw[this];~h
 ·rw[if_neg q,ABR,List.nodup_append]
  !⟨h,by simp,λa ha b hb e=>?_⟩
  simp at hb
  subst hb e
  #⟨p,hp,e⟩:=AAN.mp ha
  ~q (List.any_eq_true.mpr ⟨p,hp,by simpa using e⟩)
¶Gh{kvs:List (Str×D)}{k:Str}{d:D}:(zI kvs k d).length<=kvs.length+1/\1<=(zI kvs k d).length:=by
 unfold zI
 by_cases q:(kvs.any λp=>decide (p.1=k))=true
 ·rw[if_pos q,AA6]
  #⟨p,hp,_⟩:=List.any_eq_true.mp q
  have:0<kvs.length:=List.length_pos_of_mem hp
  &
 ·rw[if_neg q,AA8,AAX]
  &
¶Gi{P:Str×D->Prop}{kvs:List (Str×D)}{k:Str}{d:D}(h:∀p∈kvs,P p)(hk:P (k,d)):∀p∈zI kvs k d,P p:=by
 unfold zI
 intro p hp
 by_cases q:(kvs.any λp=>decide (p.1=k))=true
 ·rw[if_pos q]at hp
  #⟨p',hp',rfl⟩:=AAN.mp hp
  by_cases e:p'.1=k
  ·rw[if_pos e,e];~hk
  ·rw[if_neg e];~h p' hp'
 ·rw[if_neg q]at hp
  rcases AAk.mp hp with hp | hp
  ·~h p hp
  ·rw[AAY.mp hp];~hk
end L2
namespace L2
open PySem PySem.Spec PyProof.Rows DL PySem.W
section
variable{prog:Program}{w:World}{A:Around}{E:Value->Shared->Prop}{s:Shared}
end
end L2
namespace L2
open PySem PySem.Spec PyProof.Rows DL PySem.W
section
variable{prog:Program}{w:World}{A:Around}{E:Value->Shared->Prop}{s:Shared}
def bC(w:World):Obj:={ cls:=.type "set",dict:=none,data:=.set #[] 0 (.fresh 0 0 (!w.params.followText "set-order")) }
¶yQ(a:Value){Q₁:Value->Shared->Prop}(h:Q₁ (.ref s.heap.objs.size) { s with heap:=s.heap.push (bC w) }) :
  codeAny (model prog w) A (.call (.builtin "set.__new__") ⟨[.type "set",a],[]⟩) (wants Q₁ E) s:=by
 !codeAny_of_tree (show wpAny (model prog w) A.in1 (do checkBuiltinCall "set.__new__" ⟨[.type "set",a],[]⟩;again (.builtin "set.__new__" ⟨[.type "set",a],[]⟩)) _ _ s from ?_)
 !AA0 (wpAny_of_eq (F.newCall_set_1 a) (AA3 ⟨ABv F.plain_set_new _,ABW F.entry_set_new ?_⟩))
 rw[AB9 F.plain_set_new _]
 have hsub:=sub_set_self
 #⟨hp,g,d,tk,os⟩:=s
 unfold Builtin.«set.__new__» Builtin.Frozenset.newClass
 dsimp only
 wp_walk
 !ACP (AA3 ?_)
 simp only[newObj]
 ~AA0 (wpAny_alloc (AA3 (AA3 h)))
end
end L2
namespace L2
open PySem PySem.Spec PyProof.Rows DL PySem.W
structure TxSrc(prog:Program)(w:World)(h:Heap)(l:Addr)(T:String)(n:Nat)(P:Nat->Value->Prop):Prop where
 obj:∃o,h.get? l=some o/\o.cls=.type T
 ns:isSubtype (.type T) (.type "set")=pure false
 nf:isSubtype (.type T) (.type "frozenset")=pure false
 nd:(ACo T==ACo "dict")=false
 iter:∀(A:Around) (s':Shared),A.handled=none->(∀o,h.get? l=some o->s'.heap.get? l=some o)->∃(oI:Obj) (St:Nat->Heap->Prop),
  (∀(E:Value->Shared->Prop) (Q:Value->Shared->Prop),Q (.ref s'.heap.objs.size) { s' with heap:=s'.heap.push oI }->wpAny (model prog w) A (pyIter (.ref l)) Q E s') /\
  Walks prog w A s'.heap.objs.size [s'.heap.objs.size,l] [s'.heap.objs.size] n P St/\St 0 (s'.heap.push oI)
¶xq:isSubtype (.type "tuple") (.type "set")=pure false:=by rw[isSubtype_type];kernel_rfl
¶uo:isSubtype (.type "tuple") (.type "frozenset")=pure false:=by rw[isSubtype_type];kernel_rfl
¶TxSrc.list{prog:Program}{w:World}{h:Heap}{l:Addr}{its:Array Value}(hl:h.IsList l its):TxSrc prog w h l "list" its.size (λi v=>its[i]?=some v):=by
 !⟨let ⟨o,e,c,_⟩:=hl;⟨o,e,c⟩,F.sub_list_set,F.sub_list_frozenset,by decide,λA s' hh hk=>?_⟩
 have hl':s'.heap.IsList l its:=hl.at hk
 have lt:l<s'.heap.objs.size:=let ⟨o,e,_⟩:=hl';AAG e
 ~⟨_,_,λE Q q=>ADo hl' q,Walks.list hh _ l (AAQ lt) its,⟨_,AAE _ rfl,rfl,rfl⟩,hl'.push _⟩
¶TxSrc.tuple{prog:Program}{w:World}{h:Heap}{l:Addr}{its:Array Value}(hl:h.IsTuple l its):TxSrc prog w h l "tuple" its.size (λi v=>its[i]?=some v):=by
 !⟨let ⟨o,e,c,_⟩:=hl;⟨o,e,c⟩,xq,uo,by decide,λA s' hh hk=>?_⟩
 have hl':s'.heap.IsTuple l its:=let ⟨o,e,r⟩:=hl;⟨o,hk o e,r⟩
 have lt:l<s'.heap.objs.size:=let ⟨o,e,_⟩:=hl';AAG e
 ~⟨_,_,λE Q q=>wpAny_pyIter_tuple hl' q,Walks.tuple hh _ l (AAQ lt) its,⟨_,AAE _ rfl,rfl,rfl⟩,let ⟨o,e,r⟩:=hl';⟨o,AA4 _ e,r⟩⟩
section
variable{prog:Program}{w:World}{A:Around}{E:Value->Shared->Prop}{s:Shared}
end
end L2
namespace L2
open PySem PySem.Spec PyProof.Rows DL PySem.W
¶bD:Slot "set_iterator" "__next__" "set_iterator.__next__" :=
 .of (owner:="set_iterator") (n:="__next__") (by rw[typeLookup_type,AE0];kernel_rfl) (by decide +kernel) (by decide +kernel) (by decide +kernel) (by first | ~.inl (by decide +kernel) | ~.inr (by decide +kernel)) (by rw[isSubtype_type];kernel_rfl)
¶fU:entryFor table "set_iterator.__next__" = some Builtin.«set_iterator.__next__»:=entryFor_of_tree (by kernel_rfl)
¶og:Manifest.owners.lookup (String.ofList ['r','o','t','a','r','e','t','i','_','t','e','s'].reverse)=some Manifest.sig_set_iterator:=by kernel_rfl
¶iC(a:Value):argsOk "set_iterator.__next__" ⟨[a],[]⟩:=by
 unfold argsOk;rw[signature?_of (id:="set_iterator.__next__") (n:=['_','_','t','x','e','n','_','_']) (o:=['r','o','t','a','r','e','t','i','_','t','e','s']) (by kernel_rfl) og];kernel_rfl
¶sF:entryFor table "set.__iter__" = some Builtin.«frozenset.__iter__»:=entryFor_alias (id':="frozenset.__iter__") (by kernel_rfl) rfl (by decide +kernel) (by kernel_rfl)
¶kX{α:Type}:∀(l:List α) (i:Nat) (h:i<l.length),(l[i]::l.eraseIdx i).Perm l
 | x::l,0,_=>ADF _
 | x::l,i+1,h=>by
  have h':i<l.length:=by simpa using h
  ~(List.Perm.swap x l[i] (l.eraseIdx i)).trans (AEN x (kX l i h'))
¶BG{M:Model}{A:Around}{E:Value->Shared->Prop}{s:Shared}{src:Source}{n:Nat}{Q:Nat->Shared->Prop}(hn:n≠0)(h:∀i d,i<n->Q i { s with drawn:=d }):wpAny M A (choose src n) Q E s:=by
 intro Γ p hΓ
 show Sem.wp M Γ (Sem.choose src n λi=>Sem.pure i) _ _ p s
 rw[Sem.wp_choose]
 !⟨hn,?_⟩
 rw[Sem.wp_pure]
 ~h _ _ (Nat.mod_lt _ (Nat.pos_of_ne_zero hn))
¶wb{α:Type}{M:Model}{A:Around}{E:Value->Shared->Prop}:∀(n:Nat) (xs:List α) (s:Shared) (Q:List α->Shared->Prop),xs.length=n->(∀ys d,ys.Perm xs->Q ys { s with drawn:=d })->wpAny M A (drawOrder n xs) Q E s
 | 0,xs,s,Q,e,h=>by
  cases xs with
  | nil=>~AA3 (h [] s.drawn (ADF _))
  | cons _ _=>cases e
 | n+1,[],s,Q,e,h=>by cases e
 | n+1,x::xs,s,Q,e,h=>by
  unfold drawOrder
  !AA0 (BG (by simp) λi d hi=>?_)
  rw[AA7 hi]
  !AA0 (wb n ((x::xs).eraseIdx i) { s with drawn:=d } _ (by rw[List.length_eraseIdx_of_lt hi];simp at e ⊢;&) λys d' hp=>AA3 (h _ d' ?_))
  ~(AEN _ hp).trans (kX _ i hi)
¶nP{α:Type}(next:Nat->Nat)(xs:Array α):(pickOrder next xs).toList.Perm xs.toList:=by
 have go:∀(fuel k:Nat) (left:List α) (out:Array α),left.length=fuel->(pickOrder.go next fuel k left out).toList.Perm (out.toList++left):=by
  intro fuel
  induction fuel with
  | zero =>
   intro k left out e
   cases left with
   | nil=>simp[pickOrder.go]
   | cons _ _=>cases e
  | succ n ih =>
   intro k left out e
   have hi:next k % left.length<left.length:=Nat.mod_lt _ ¤
   unfold pickOrder.go
   rw[AA7 hi]
   dsimp only
   !(ih (k+1) _ _ (by rw[List.length_eraseIdx_of_lt hi];&)).trans ?_
   rw[ADq,ABT]
   ~List.Perm.append_left _ (kX _ _ hi)
 have:=go xs.size 0 xs.toList #[] (by simp)
 simpa [pickOrder]using this
end L2
namespace L2
open PySem PySem.Spec PyProof.Rows DL PySem.W
def fS(first:Value)(i n:Nat)(a:Addr)(ep:Nat):Obj:={ cls:=.type "set_iterator",data:=.fields #[first,rawInt i,.ref a,rawInt n,rawInt ep] }
structure SetAt(h:Heap)(a:Addr)(o:Obj)(es:Array (Int×Value))(ep:Nat)(t:SetTable):Prop where
 ob:h.get? a=some o
 dt:o.data=.set es ep t
 ft:t.fits es.size=true
section
variable{prog:Program}{w:World}{A:Around}{E:Value->Shared->Prop}{s:Shared}{a it:Addr}{o:Obj}{es:Array (Int×Value)}{ep:Nat}{t:SetTable}
¶qo{Q:Fin->Shared->Prop}{F:Value->Shared->Prop}(hh:A.handled=none)(h:∀h' e,(∀b o,s.heap.get? b=some o->h'.get? b=some o)->(∃o,h'.get? e=some o/\o.cls=.type "StopIteration")->F (.ref e) { s with heap:=h' }) :
  wpAny (model prog w) A (do raiseNew (←newExc (.type "StopIteration") []):Sem Fin) Q F s:=by
 !AA0 ?_
 simp only[newExc,newTuple]
 !AA0 (AAj (AA0 (m:=firstArgMember _ _) (wpAny_of_eq (a:=ABb) (by first | rfl | (simp only[firstArgMember];rfl)) (AAj ?_ (by size_fits)))) (by size_fits))
 simp only[raiseNew]
 !AA0 (wpAny_handled ?_)
 rw[hh]
 ~AA0 (AA3 (wpAny_throw (h _ _ (λb o e=>AA4 _ (AA4 _ e)) ⟨_,AAE _ rfl,rfl⟩)))
¶oj{slot i next:Nat}{x:Value}{Q:Option Value->Shared->Prop}(hI:s.heap.get? it=some (fS (rawInt slot) i es.size a ep))(S:SetAt s.heap a o es ep t)
  (hn:∀(A:Around) (E:Value->Shared->Prop) (Q:Option (Value×Nat)->Shared->Prop),Q (some (x,next)) s->wpAny (model prog w) A (setNext a slot i ep) Q E s)
  (hQ:∀h',h'.get? it=some (fS (rawInt next) (i+1) es.size a ep)->ABO it s.heap h'->Q (some x) { s with heap:=h' }):wpAny (model prog w) A (pyNext (.ref it)) Q E s:=by
 have hT:s.TypeIs (.ref it) "set_iterator":=⟨_,hI,rfl⟩
 unfold pyNext
 !AA0 (ACk (AAl (name:=AA1 "__next__") hT bD (AAm bD hT fU ?_ (iC _))))
 unfold Builtin.«set_iterator.__next__»
 !AA0 (AA3 (AA0 (ACW hI rfl ?_)))
 dsimp only [fS,rawInt]
 !AA0 (ACm S.ob S.dt S.ft ?_)
 rw[if_neg (by simp)]
 !AA0 (hn _ _ _ ?_)
 dsimp only
 !AA0 (AC9 hI rfl (by simp) (AA0 (AC9 (AAZ _ hI rfl) rfl (by simp) (AA3 ⟨x,rfl,AA3 (hQ _ ?_ ((AB2 ..).trans (AB2 ..)))⟩))))
 !(AAZ _ (AAZ _ hI rfl) rfl).trans ?_
 simp[fS,Obj.mapFields,rawInt]
¶fQ{slot i:Nat}{Q:Option Value->Shared->Prop}(hh:A.handled=none)(hI:s.heap.get? it=some (fS (rawInt slot) i es.size a ep))(S:SetAt s.heap a o es ep t)
  (hn:∀(A:Around) (E:Value->Shared->Prop) (Q:Option (Value×Nat)->Shared->Prop),Q none s->wpAny (model prog w) A (setNext a slot i ep) Q E s)
  (hQ:∀h',(∀b o,b≠it->s.heap.get? b=some o->h'.get? b=some o)->Q none { s with heap:=h' }):wpAny (model prog w) A (pyNext (.ref it)) Q E s:=by
 have hT:s.TypeIs (.ref it) "set_iterator":=⟨_,hI,rfl⟩
 unfold pyNext
 !AA0 (ACk (AAl (name:=AA1 "__next__") hT bD (AAm bD hT fU ?_ (iC _))))
 unfold Builtin.«set_iterator.__next__»
 !AA0 (AA3 (AA0 (ACW hI rfl ?_)))
 dsimp only [fS,rawInt]
 !AA0 (ACm S.ob S.dt S.ft ?_)
 rw[if_neg (by simp)]
 !AA0 (hn _ _ _ ?_)
 dsimp only
 !AA0 (AC9 hI rfl (by simp) ?_)
 !qo (by simp[hh]) λh' e hk ⟨oe,he,hc⟩=>?_
 !AA0 (ACO (T:="StopIteration") (b:=true) ⟨oe,he,hc⟩ isSubtype_stop (AA3 (hQ h' λb ob hb eb=>hk b ob ?_)))
 ~((AB2 ..).2 b hb).trans eb
¶Bi{tt:Addr}{ps:List Nat}{i j:Nat}{e:Int×Value}{Q:Option Value->Shared->Prop}(hI:s.heap.get? it=some (fS (.ref tt) i es.size a ep))(hP:s.heap.IsTuple tt (ps.map λ(k:Nat)=>rawInt k).toArray)(S:SetAt s.heap a o es ep t)
  (hj:ps[i]?=some j) (he:es[j]?=some e) (hQ:∀h',h'.get? it=some (fS (.ref tt) (i+1) es.size a ep)->ABO it s.heap h'->Q (some e.2) { s with heap:=h' }):wpAny (model prog w) A (pyNext (.ref it)) Q E s:=by
 have hT:s.TypeIs (.ref it) "set_iterator":=⟨_,hI,rfl⟩
 #⟨ot,hot,_,nt,hdt⟩:=hP
 unfold pyNext
 !AA0 (ACk (AAl (name:=AA1 "__next__") hT bD (AAm bD hT fU ?_ (iC _))))
 unfold Builtin.«set_iterator.__next__»
 !AA0 (AA3 (AA0 (ACW hI rfl ?_)))
 dsimp only [fS,rawInt]
 !AA0 (ACm S.ob S.dt S.ft ?_)
 rw[if_neg (by simp)]
 !AA0 (ABM hot hdt ?_)
 have hx:(ps.map λ(k:Nat)=>rawInt k).toArray[i]?=some (.int j 0):=by simp[hj,rawInt]
 simp only[ABr,hx]
 unfold setNextDrawn
 !AA0 (AA0 (ABJ S.ob S.dt S.ft ?_))
 simp only[bne_self_eq_false,AAF,if_false,he]
 !AA3 (AA0 (AC9 hI rfl (by simp) (AA3 ⟨_,rfl,AA3 (hQ _ ?_ (AB2 ..))⟩)))
 !(AAZ _ hI rfl).trans ?_
 simp[fS,Obj.mapFields,rawInt]
¶pP{tt:Addr}{ps:List Nat}{i:Nat}{Q:Option Value->Shared->Prop}(hh:A.handled=none)(hI:s.heap.get? it=some (fS (.ref tt) i es.size a ep))(hP:s.heap.IsTuple tt (ps.map λ(k:Nat)=>rawInt k).toArray)(S:SetAt s.heap a o es ep t)
  (hj:ps[i]?=none) (hQ:∀h',(∀b o,b≠it->s.heap.get? b=some o->h'.get? b=some o)->Q none { s with heap:=h' }):wpAny (model prog w) A (pyNext (.ref it)) Q E s:=by
 have hT:s.TypeIs (.ref it) "set_iterator":=⟨_,hI,rfl⟩
 #⟨ot,hot,_,nt,hdt⟩:=hP
 unfold pyNext
 !AA0 (ACk (AAl (name:=AA1 "__next__") hT bD (AAm bD hT fU ?_ (iC _))))
 unfold Builtin.«set_iterator.__next__»
 !AA0 (AA3 (AA0 (ACW hI rfl ?_)))
 dsimp only [fS,rawInt]
 !AA0 (ACm S.ob S.dt S.ft ?_)
 rw[if_neg (by simp)]
 !AA0 (ABM hot hdt ?_)
 have hx:(ps.map λ(k:Nat)=>rawInt k).toArray[i]?=none:=by simpa using hj
 simp only[ABr,hx]
 !AA0 (AC9 hI rfl (by simp) (AA0 (AC9 (AAZ _ hI rfl) rfl (by simp) ?_)))
 !qo (by simp[hh]) λh' e hk ⟨oe,he,hc⟩=>?_
 !AA0 (ACO (T:="StopIteration") (b:=true) ⟨oe,he,hc⟩ isSubtype_stop (AA3 (hQ h' λb ob hb eb=>hk b ob ?_)))
 ~(((AB2 ..).trans (AB2 ..)).2 b hb).trans eb
end
end L2
namespace L2
¶nodup_le{α:Type}[DecidableEq α]:∀(l xs:List α),l.Nodup->(∀x∈l,x∈xs)->l.length<=xs.length
 | [],xs,_,_=>AAT _
 | a::l,xs,nd,h=>by
  have ha:a∈xs:=h a AAI
  have nd':=ABG.mp nd
  have ih:=nodup_le l (xs.erase a) nd'.2 λx hx=>(List.mem_erase_of_ne (show x≠a from λz=>nd'.1 (by rw[←z];~hx))).mpr (h x (AA9 _ hx))
  rw[List.length_erase_of_mem ha]at ih
  have:0<xs.length:=List.length_pos_of_mem ha
  rw[AAA]
  &
end L2
namespace Ht
open PySem
def adv(m:Nat)(p:ACX):ACX :=
 if p.more > 0 then { p with j:=p.j+1,more:=p.more-1 } else
 { p with j:=(ACS m p.i p.perturb).1,more:=AAs m (ACS m p.i p.perturb).1-(ACS m p.i p.perturb).1,i:=(ACS m p.i p.perturb).1,perturb:=(ACS m p.i p.perturb).2 }
def kI(m i pt:Nat):ACX:={ j:=i,more:=AAs m i-i,i,perturb:=pt,dummy:=none }
def nr(m:Nat)(p:ACX):Nat->ACX
 | 0=>p
 | n+1=>adv m (nr m p n)
def sq(m:Nat)(h:Int)(n:Nat):ACX:=nr m (kI m (ABw h % (m+1)) (ABw h)) n
¶ut(m:Nat)(p:ACX)(a b:Nat):nr m p (a+b)=nr m (nr m p a) b:=by
 induction b with
 | zero=>rfl
 | succ b ih=>rw[Nat.add_succ,nr,ih];rfl
¶Mb(m i:Nat):AAs m i-i<=9:=by
 unfold AAs;split<;>&
¶Eu(m i pt:Nat):∀k,k<=AAs m i-i->nr m (kI m i pt) k={ j:=i+k,more:=AAs m i-i-k,i,perturb:=pt,dummy:=none }
 | 0,_=>by simp[nr,kI]
 | k+1,h=>by
  rw[nr,Eu m i pt k ¤]
  unfold adv
  rw[if_pos (show AAs m i-i-k > 0 by &)]
  simp only[SetTable.Probe.mk.injEq,true_and,and_true]
  &
¶GG(m i pt:Nat):nr m (kI m i pt) (AAs m i-i+1)=kI m (ACS m i pt).1 (ACS m i pt).2:=by
 rw[nr,Eu m i pt _ (AAC _)]
 unfold adv
 rw[if_neg (show ¬AAs m i-i-(AAs m i-i) > 0 by &)]
 rfl
def fO(m:Nat)(h:Int):Nat->Nat×Nat
 | 0=>(ABw h % (m+1),ABw h)
 | k+1=>ACS m (fO m h k).1 (fO m h k).2
def fW(m:Nat)(h:Int):Nat->Nat
 | 0=>0
 | k+1=>fW m h k+(AAs m (fO m h k).1-(fO m h k).1+1)
¶Ig(m:Nat)(h:Int)(k:Nat):fW m h k<=10*k:=by
 induction k with
 | zero=>~AAC _
 | succ k ih=>have:=Mb m (fO m h k).1;unfold fW;&
¶Im(m:Nat)(h:Int)(k:Nat):sq m h (fW m h k)=kI m (fO m h k).1 (fO m h k).2:=by
 induction k with
 | zero=>rfl
 | succ k ih =>
  unfold sq at ih ⊢
  unfold fW
  rw[ut,ih,GG]
  rfl
¶CD(m:Nat)(h:Int)(k r:Nat)(hr:r<=AAs m (fO m h k).1-(fO m h k).1):(sq m h (fW m h k+r)).j=(fO m h k).1+r:=by
 have e:=Im m h k
 unfold sq at e ⊢
 rw[ut,e,Eu _ _ _ _ hr]
¶Lq(h:Int):ABw h<2 ^ 64:=by
 unfold ABw
 have h0:=ADb h (show (2 ^ 64:Int)≠0 by decide)
 have h1:=ACv h (show (0:Int)<2 ^ 64 by decide)
 &
¶qw(m:Nat)(h:Int):∀k,(fO m h k).2=ABw h / 32 ^ k
 | 0=>by simp[fO]
 | k+1=>by
  show (fO m h k).2 / 32=_
  rw[qw m h k,Nat.div_div_eq_div_mul,←Nat.pow_succ]
¶uR(m:Nat)(h:Int)(k:Nat)(hk:13<=k):(fO m h k).2=0:=by
 rw[qw]
 apply Nat.div_eq_of_lt
 have h1:=Lq h
 have h2:32 ^ 13<=32 ^ k:=Nat.pow_le_pow_right (by decide) hk
 have h3:(2:Nat) ^ 64<32 ^ 13:=by decide
 &
def yU(m i:Nat):Nat:=(i*5+1) % (m+1)
def cC(m i:Nat):Nat->Nat
 | 0=>i
 | k+1=>yU m (cC m i k)
¶fA(m i a b:Nat):cC m i (a+b)=cC m (cC m i a) b:=by
 induction b with
 | zero=>rfl
 | succ b ih=>rw[Nat.add_succ,cC,ih];rfl
¶xG(m:Nat)(h:Int)(r:Nat):(fO m h (13+r)).1=cC m (fO m h 13).1 r:=by
 induction r with
 | zero=>rfl
 | succ r ih =>
  show (ACS m (fO m h (13+r)).1 (fO m h (13+r)).2).1=yU m (cC m (fO m h 13).1 r)
  rw[uR m h _ ¤,ih]
  rfl
¶xH(m:Nat)(h:Int):∀k,(fO m h k).1<=m
 | 0=>Nat.lt_succ_iff.mp (Nat.mod_lt _ (Nat.succ_pos _))
 | k+1=>Nat.lt_succ_iff.mp (Nat.mod_lt _ (Nat.succ_pos _))
def LG(m:Nat):Prop:=cC m 0 (m+1)=0/\∀s,s<=m->∃k,k<=m/\cC m 0 k=s
def xM(m:Nat):Nat->Nat->List Nat
 | 0,_=>[]
 | n+1,i=>i::xM m n (yU m i)
¶oh(m:Nat):∀(n i k:Nat),k<n->(xM m n i)[k]?=some (cC m i k)
 | 0,_,_,h=>absurd h (ABy _)
 | n+1,i,0,_=>rfl
 | n+1,i,k+1,h=>by
  rw[xM,ABB,oh m n (yU m i) k ¤,←show cC m (cC m i 1) k=cC m i (k+1)from by rw[←fA,Nat.add_comm]]
  rfl
¶yz(m:Nat)(h:((xM m (m+2) 0)[m+1]?==some 0&&(AAe (m+1)).all λs=>(xM m (m+1) 0).contains s)=true):LG m:=by
 rw[AAD,beq_iff_eq,AAK]at h
 !⟨?_,λs hs=>?_⟩
 ·have:=oh m (m+2) 0 (m+1) ¤
  rw[h.1]at this
  ~(AAR this).symm
 ·have:=h.2 s (AAo.mpr ¤)
  rw[List.contains_iff_mem]at this
  #⟨k,hk⟩:=AAv this
  have hl:k<m+1:=by
   have:=(AA2.mp hk).1
   have len:∀n i,(xM m n i).length=n:=by
    intro n;induction n with
    | zero=>intro i;rfl
    | succ n ih=>intro i;simp[xM,ih]
   rw[len]at this;~this
  rw[oh m _ 0 k hl]at hk
  ~⟨k,¤,AAR hk⟩
¶full7:LG 7:=yz 7 (by decide +kernel)
¶NK:LG 31:=yz 31 (by decide +kernel)
¶KH:LG 127:=yz 127 (by decide +kernel)
¶EF{m:Nat}(F:LG m){i s:Nat}(hi:i<=m)(hs:s<=m):∃k,k<=m/\cC m i k=s:=by
 #⟨a,ha,ea⟩:=F.2 i hi
 #⟨b,hb,eb⟩:=F.2 s hs
 by_cases h:a<=b
 ·!⟨b-a,¤,?_⟩
  rw[←ea,←fA,show a+(b-a)=b by &];~eb
 ·!⟨m+1-a+b,¤,?_⟩
  rw[←ea,←fA,show a+(m+1-a+b)=(m+1)+b by &,fA,F.1];~eb
def pX(m:Nat):Prop:=m=7\/m=31\/m=127
¶pX.full{m:Nat}(h:pX m):LG m:=by
 rcases h with rfl | rfl | rfl
 ·~full7
 ·~NK
 ·~KH
¶IK{m:Nat}(hm:pX m)(h:Int){s:Nat}(hs:s<=m):∃k,k<=m+13/\(fO m h k).1=s:=by
 #⟨r,hr,e⟩:=EF hm.full (xH m h 13) hs
 ~⟨13+r,¤,by rw[xG];~e⟩
¶Jt{m:Nat}(hm:pX m)(h:Int){s:Nat}(hs:s<=m):∃n,n<10*(m+15)/\(sq m h n).j=s:=by
 #⟨k,hk,e⟩:=IK hm h hs
 !⟨fW m h k,by have:=Ig m h k;&,?_⟩
 rw[Im];~e
¶LU{m:Nat}(h:Int):∀n,∃k r,r<=AAs m (fO m h k).1-(fO m h k).1/\n=fW m h k+r
 | 0=>⟨0,0,AAT _,rfl⟩
 | n+1=>by
  #⟨k,r,hr,e⟩:=LU (m:=m) h n
  by_cases q:r<AAs m (fO m h k).1-(fO m h k).1
  ·~⟨k,r+1,q,¤⟩
  ·~⟨k+1,0,AAT _,by rw[fW];&⟩
¶CC{m:Nat}(h:Int)(n:Nat):(sq m h n).j<=m:=by
 #⟨k,r,hr,e⟩:=LU (m:=m) h n
 rw[e,CD m h k r hr]
 have:=xH m h k
 unfold AAs at hr
 split at hr<;>&
end Ht
namespace Ht
open PySem
¶below_spec(xs:Array Nat)(hr:xs.toList.Pairwise (· < ·))(j:Nat) :
  AAa xs j<=xs.size/\(∀k (h:k<xs.size),k<AAa xs j->xs[k]<j)/\∀k (h:k<xs.size),AAa xs j<=k->j<=xs[k]:=by
 have mono:∀a b (ha:a<xs.size) (hb:b<xs.size),a<b->xs[a]<xs[b]:=λa b ha hb h=>by
  have:=ADH.mp hr a b (by simpa using ha) (by simpa using hb) h
  simpa using this
 have go:∀(fuel lo hi:Nat),lo<=hi->hi<=xs.size->hi-lo<=fuel->(∀k (h:k<xs.size),k<lo->xs[k]<j)->(∀k (h:k<xs.size),hi<=k->j<=xs[k]) ->
   ACB xs j fuel lo hi<=xs.size/\(∀k (h:k<xs.size),k<ACB xs j fuel lo hi->xs[k]<j)/\∀k (h:k<xs.size),ACB xs j fuel lo hi<=k->j<=xs[k]:=by
  intro fuel
  induction fuel with
  | zero =>
   intro lo hi h1 h2 h3 h4 h5
   have:lo=hi:=¤
   subst this
   ~⟨h2,h4,h5⟩
  | succ fuel ih =>
   intro lo hi h1 h2 h3 h4 h5
   unfold ACB
   by_cases h:lo<hi
   ·rw[if_pos h]
    have hm:(lo+hi) / 2<xs.size:=¤
    have eg:xs.getD ((lo+hi) / 2) j=xs[(lo+hi) / 2]:=by simp[ACM,hm]
    simp only[eg]
    by_cases q:xs[(lo+hi) / 2]<j
    ·rw[if_pos q]
     !ih _ _ ¤ h2 ¤ (λk hk hlt=>?_) h5
     rcases AC0 k ((lo+hi) / 2)with z | z
     ·~ADx (mono k _ hk hm z) q
     ·have:k=(lo+hi) / 2:=¤
      subst this;~q
    ·rw[if_neg q]
     !ih _ _ ¤ ¤ ¤ h4 λk hk hle=>?_
     rcases AC0 ((lo+hi) / 2) k with z | z
     ·~ABN (AD4.mp q) (AEJ (mono _ k hm hk z))
     ·have:k=(lo+hi) / 2:=¤
      subst this;~AD4.mp q
   ·rw[if_neg h]
    have:lo=hi:=¤
    subst this
    ~⟨h2,h4,h5⟩
 ~go xs.size 0 xs.size (AAT _) (AAC _) ¤ (λk _ h=>absurd h (ABy _)) λk h h'=>absurd h (AD4.mpr h')
¶below_at{xs:Array Nat}(hr:xs.toList.Pairwise (· < ·)){i j:Nat}(h:xs[i]?=some j):AAa xs j=i:=by
 #⟨hi,e⟩:=AAy.mp h
 #⟨b1,b2,b3⟩:=below_spec xs hr j
 have mono:∀a b (ha:a<xs.size) (hb:b<xs.size),a<b->xs[a]<xs[b]:=λa b ha hb h=>by
  have:=ADH.mp hr a b (by simpa using ha) (by simpa using hb) h
  simpa using this
 rcases ACd (AAa xs j) i with q | q | q
 ·have hb:AAa xs j<xs.size:=¤
  have:=b3 _ hb (AAC _)
  have:=mono _ i hb hi q
  &
 ·~q
 ·have:=b2 i hi q
  &
¶slot_live{t:SetTable}(hr:t.place.toList.Pairwise (· < ·)){i j:Nat}(h:t.place[i]?=some j):t.slot j=.live i:=by
 unfold SetTable.slot
 simp only[below_at hr h]
 rw[if_pos (by rw[h];simp)]
¶AH{t:SetTable}(hd:t.dummies = #[]){j:Nat}(h:j∉t.place.toList):t.slot j=.empty:=by
 unfold SetTable.slot
 have e1:¬(t.place[AAa t.place j]?==some j)=true:=λz=>h (by
  rw[beq_iff_eq]at z
  have:=Array.mem_of_getElem? z
  simpa using this)
 have e2:SetTable.has t.dummies j=false:=by rw[hd];rfl
 simp only[e1,if_false,e2,AAF]
¶go_spec{t:SetTable}(hr:t.place.toList.Pairwise (· < ·))(hd:t.dummies = #[])(hashAt:Nat->Int)(h:Int):∀(fuel n N:Nat),n<=N->N<n+fuel->(sq t.mask h N).j∉t.place.toList->(∀k,n<=k->k<N->(sq t.mask h k).j∈t.place.toList) ->
  (∀k,(sq t.mask h k).dummy=none) ->
  ((∀k i,n<=k->k<N->t.place[i]?=some (sq t.mask h k).j->hashAt i≠h)/\AEQ t hashAt h fuel (sq t.mask h n)=some (.empty (sq t.mask h N).j none)) \/
  ∃n' i,n<=n'/\n' < N/\t.place[i]?=some (sq t.mask h n').j/\hashAt i=h/\(∀k i,n<=k->k<n'->t.place[i]?=some (sq t.mask h k).j->hashAt i≠h)/\AEQ t hashAt h fuel (sq t.mask h n)=some (.candidate (sq t.mask h n').j i (sq t.mask h (n'+1))):=by
 intro fuel
 induction fuel with
 | zero=>intro n N h1 h2;&
 | succ fuel ih =>
  intro n N h1 h2 h3 h4 h5
  unfold AEQ
  by_cases e:n=N
  ·subst e
   rw[AH hd h3]
   ~.inl ⟨λk i a b=>¤,by rw[h5]⟩
  ·have hm:=h4 n (AAC _) ¤
   #⟨i,hi⟩:=AAv hm
   have hi':t.place[i]?=some (sq t.mask h n).j:=by rw[←AAV];~hi
   rw[slot_live hr hi']
   dsimp only
   have uq:∀i',t.place[i']?=some (sq t.mask h n).j->i'=i:=λi' z=>by rw[←below_at hr z,below_at hr hi']
   by_cases q:hashAt i=h
   ·simp only[beq_iff_eq,q,if_true]
    ~.inr ⟨n,i,AAC _,¤,hi',q,λk i a b=>¤,rfl⟩
   ·simp only[beq_iff_eq,q,if_false]
    rcases ih (n+1) N ¤ ¤ h3 (λk a b=>h4 k ¤ b) h5 with⟨z1,z2⟩|⟨n',i',a1,a2,a3,a4,a5,a6⟩
    ·!.inl ⟨λk i' a b c=>?_,z2⟩
     rcases AC0 n k with z | z
     ·~z1 k i' z b c
     ·have:k=n:=¤
      subst this;rw[uq i' c];~q
    ·!.inr ⟨n',i',¤,a2,a3,a4,λk i'' a b c=>?_,a6⟩
     rcases AC0 n k with z | z
     ·~a5 k i'' z b c
     ·have:k=n:=¤
      subst this;rw[uq i'' c];~q
¶sq_dummy(m:Nat)(h:Int):∀n,(sq m h n).dummy=none
 | 0=>rfl
 | n+1=>by
  show (adv m (sq m h n)).dummy=none
  unfold adv
  split
  ·~sq_dummy m h n
  ·~sq_dummy m h n
structure TOk(t:SetTable)(hs:List Int):Prop where
 msk:pX t.mask
 len:t.place.size=hs.length
 nod:t.dummies = #[]
 ris:t.place.toList.Pairwise (· < ·)
 rng:∀j∈t.place.toList,j<=t.mask
 few:t.place.size*5<t.mask*3
 path:∀(i:Nat) (h:Int) (j:Nat),hs[i]?=some h->t.place[i]?=some j->∃n,(sq t.mask h n).j=j/\∀n',n' < n->(sq t.mask h n').j∈t.place.toList
¶EC{m:Nat}{l:List Nat}(hn:l.Nodup)(hr:∀j∈l,j<=m)(hl:l.length<=m):∃j,j<=m/\j∉l:=by
 !AB5 λhc=>?_
 have all:∀j∈AAe (m+1),j∈l:=λj hj=>AB5 λhj'=>hc ⟨j,by have:=AAo.mp hj;&,hj'⟩
 have:=L2.nodup_le (AAe (m+1)) l AE2 all
 rw[AD5]at this
 &
¶yB{m:Nat}(hm:pX m){l:List Nat}(hn:l.Nodup)(hr:∀j∈l,j<=m)(hl:l.length<=m)(h:Int):∃N,N<10*(m+15)/\(sq m h N).j∉l/\∀k,k<N->(sq m h k).j∈l:=by
 #⟨s,hs,hs'⟩:=EC hn hr hl
 #⟨n,hn1,hn2⟩:=Jt hm h hs
 have:∀b n,n<b->(sq m h n).j∉l->∃N,N<=n/\(sq m h N).j∉l/\∀k,k<N->(sq m h k).j∈l:=by
  intro b
  induction b with
  | zero=>intro n h;&
  | succ b ih =>
   intro n hb hq
   by_cases q:∀k,k<n->(sq m h k).j∈l
   ·~⟨n,AAC _,hq,q⟩
   ·have:∃k,k<n/\(sq m h k).j∉l:=AB5 λz=>q λk hk=>AB5 λz'=>z ⟨k,hk,z'⟩
    #⟨k,hk,hk'⟩:=this
    #⟨N,a1,a2,a3⟩:=ih k ¤ hk'
    ~⟨N,¤,a2,a3⟩
 #⟨N,a1,a2,a3⟩:=this (n+1) n (AB6 _) (by rw[hn2];~hs')
 ~⟨N,¤,a2,a3⟩
¶TOk.empty{t:SetTable}{hs:List Int}(T:TOk t hs)(h:Int):∃N,N<10*(t.mask+15)/\(sq t.mask h N).j∉t.place.toList/\∀k,k<N->(sq t.mask h k).j∈t.place.toList:=by
 !yB T.msk (T.ris.imp λh=>AAQ h) T.rng ?_ h
 have:=T.few
 rw[AAO]
 rcases T.msk with e | e | e<;>&
¶De{t:SetTable}(hr:t.place.toList.Pairwise (· < ·)){j:Nat}(hj:j∉t.place.toList) :
  (t.put j).1.place.toList=t.place.toList.take (AAa t.place j)++j::t.place.toList.drop (AAa t.place j)/\(t.put j).1.place.toList.Pairwise (· < ·):=by
 #⟨b1,b2,b3⟩:=below_spec t.place hr j
 have e:(t.put j).1.place.toList=t.place.toList.take (AAa t.place j)++j::t.place.toList.drop (AAa t.place j):=by
  show (ADr t.place (AAa t.place j) j).toList=_
  rw[SetTable.toList_insertAt]
 !⟨e,?_⟩
 rw[e,List.pairwise_append]
 !⟨hr.sublist (ADl ..),List.pairwise_cons.mpr ⟨λx hx=>?_,hr.sublist (List.drop_sublist ..)⟩,λx hx y hy=>?_⟩
 ·#⟨k,hk⟩:=AAv hx
  rw[ADc]at hk
  have hk':t.place[AAa t.place j+k]?=some x:=by rw[←AAV];~hk
  #⟨hl,ex⟩:=AAy.mp hk'
  have:=b3 _ hl (ADN _ _)
  rw[ex]at this
  rcases AC0 j x with z | z
  ·~z
  ·have:x=j:=¤
   subst this
   ~absurd (AD8 hx) hj
 ·#⟨k,hk⟩:=AAv hx
  rw[List.getElem?_take]at hk
  split at hk
  ·rename_i hkl
   have hk':t.place[k]?=some x:=by rw[←AAV];~hk
   #⟨hl,ex⟩:=AAy.mp hk'
   have h1:=b2 k hl hkl
   rw[ex]at h1
   rcases AAH.mp hy with rfl | hy
   ·~h1
   ·#⟨k2,hk2⟩:=AAv hy
    rw[ADc]at hk2
    have hk2':t.place[AAa t.place j+k2]?=some y:=by rw[←AAV];~hk2
    #⟨hl2,ey⟩:=AAy.mp hk2'
    have:=b3 _ hl2 (ADN _ _)
    rw[ey]at this
    &
  ·cases hk
end Ht
namespace L2
open PySem PySem.Spec PyProof.Rows DL PySem.W
¶gF:Slot "set_iterator" "__iter__" "set_iterator.__iter__" :=
 .of (owner:="set_iterator") (n:="__iter__") (by rw[typeLookup_type,AE0];kernel_rfl) (by decide +kernel) (by decide +kernel) (by decide +kernel) (by first | ~.inl (by decide +kernel) | ~.inr (by decide +kernel)) (by rw[isSubtype_type];kernel_rfl)
¶mf:entryFor table "set_iterator.__iter__" = some Builtin.«dict_keyiterator.__iter__»:=entryFor_alias (id':="dict_keyiterator.__iter__") (by kernel_rfl) rfl (by decide +kernel) (by kernel_rfl)
¶oY(a:Value):argsOk "set_iterator.__iter__" ⟨[a],[]⟩:=by
 unfold argsOk;rw[signature?_of (id:="set_iterator.__iter__") (n:=['_','_','r','e','t','i','_','_']) (o:=['r','o','t','a','r','e','t','i','_','t','e','s']) (by kernel_rfl) og];kernel_rfl
section
variable{prog:Program}{w:World}{A:Around}{E:Value->Shared->Prop}{s:Shared}{a it:Addr}{o:Obj}{es:Array (Int×Value)}{ep:Nat}{t:SetTable}
¶im{first:Value}{i n:Nat}{Q:Value->Shared->Prop}(hI:s.heap.get? it=some (fS first i n a ep))(h:Q (.ref it) s):wpAny (model prog w) A (pyIter (.ref it)) Q E s:=by
 have hT:s.TypeIs (.ref it) "set_iterator":=⟨_,hI,rfl⟩
 !wpAny_pyIter_slot hT gF (AAm gF hT mf (show wpAny _ _ (ret (.ref it)) _ _ s from ?_) (oY _))
 ~AA3 ⟨_,rfl,"set_iterator",_,hT,bD.lookup,h⟩
¶SetAt.at{h h':Heap}(S:SetAt h a o es ep t)(k:∀o,h.get? a=some o->h'.get? a=some o):SetAt h' a o es ep t:=⟨k _ S.ob,S.dt,S.ft⟩
¶lH{i:Nat}{Q:Option (Value×Nat)->Shared->Prop}(hb:w.params.followText "set-order" = true)(S:SetAt s.heap a o es ep t)(h:Q (((pickOrder (w.params.setOrder a ep) es)[i]?).map λe=>(e.2,0)) s) :
  wpAny (model prog w) A (setNext a 0 i ep) Q E s:=by
 unfold setNext
 !AA0 (ABJ S.ob S.dt S.ft ?_)
 unfold setsByText
 !AA0 (AA0 (ACP (AA3 ?_)))
 simp only[model,hb,if_true,bne_self_eq_false,AAF,if_false]
 unfold setWalk
 !AA0 (AA0 (ABJ S.ob S.dt S.ft ?_))
 unfold setsByText
 !AA0 (AA0 (ACP (AA3 ?_)))
 simp only[model,hb,if_true]
 ~AA0 (ACP (AA3 (AA3 h)))
¶Ay(hb:w.params.followText "set-order" = true)(hh:A.handled=none)(hne:a≠it) :
  Walks prog w A it [it,a] [it] es.size (λi v=>((pickOrder (w.params.setOrder a ep) es).toList.map (·.2))[i]?=some v) (λi h=>h.get? it=some (fS (rawInt 0) i es.size a ep)/\SetAt h a o es ep t) where
 sub:=λb hb=>by simp at hb;simp[hb]
 frame:=λ_ _ _ st hk=>⟨hk it (by simp) _ st.1,st.2.at λo e=>hk a (by simp) o e⟩
 item:=λi s Q E hi st hQ=>by
  have hl:(pickOrder (w.params.setOrder a ep) es).size=es.size:=by have:=(nP (w.params.setOrder a ep) es).length_eq;simpa using this
  obtain⟨e,he⟩:∃e,(pickOrder (w.params.setOrder a ep) es)[i]?=some e:=⟨_,AAS (by rw[hl];~hi)⟩
  !oj (slot:=0) (next:=0) (x:=e.2) st.1 st.2 (λA E Q q=>lH hb st.2 (by rw[he];~q)) λh' h1 sb=>hQ _ h' s.toks (by simp[he]) ⟨h1,st.2.at λo e=>(sb.2 a hne).trans e⟩ λb o hb e=>(sb.2 b (by simpa using hb)).trans e
 done:=λs Q E st hQ=>by
  have hl:(pickOrder (w.params.setOrder a ep) es).size=es.size:=by have:=(nP (w.params.setOrder a ep) es).length_eq;simpa using this
  !fQ (slot:=0) hh st.1 st.2 (λA E Q q=>lH hb st.2 ?_) λh' k=>hQ h' s.toks λb o hb e=>k b o (by simpa using hb) e
  rw[ACI (by rw[hl];~AAC _)]
  ~q
 self:=λ_ _ _ _ st hQ=>im st.1 hQ
¶wV{tt:Addr}{ps:List Nat}(hp:ps.Perm (AAe es.size))(hh:A.handled=none)(hne:a≠it)(hnt:tt≠it) :
  Walks prog w A it [it,a,tt] [it] es.size (λi v=>(ps.filterMap λj=>(es[j]?).map (·.2))[i]?=some v) (λi h=>h.get? it=some (fS (.ref tt) i es.size a ep)/\SetAt h a o es ep t/\h.IsTuple tt (ps.map λ(k:Nat)=>rawInt k).toArray) where
 sub:=λb hb=>by simp at hb;simp[hb]
 frame:=λ_ _ _ st hk=>⟨hk it (by simp) _ st.1,st.2.1.at λo e=>hk a (by simp) o e,let ⟨o,e,r⟩:=st.2.2;⟨o,hk tt (by simp) _ e,r⟩⟩
 item:=λi s Q E hi st hQ=>by
  have hl:ps.length=es.size:=by have:=hp.length_eq;simpa using this
  have hall:∀j∈ps,j<es.size:=λj hj=>by have:=hp.mem_iff.mp hj;simpa using this
  have hj:ps[i]?=some ps[i]:=AA7 ¤
  have hlt:ps[i]<es.size:=hall _ (AAn _)
  have he:es[ps[i]]?=some es[ps[i]]:=AAS hlt
  have fm:(ps.filterMap λj=>(es[j]?).map (·.2))=ps.map λj=>(es.getD j default).2:=by
   clear hj hl hp hi st hQ he hlt
   induction ps with
   | nil=>rfl
   | cons j r ih =>
    have hj:=hall j AAI
    rw[ABq,AAS hj,AAL,←ih λk hk=>hall k (AA9 _ hk)]
    simp[ACM,hj]
  !Bi st.1 st.2.2 st.2.1 hj he λh' h1 sb=>hQ _ h' s.toks ?_ ⟨h1,st.2.1.at λo e=>(sb.2 a hne).trans e,let ⟨o,e,r⟩:=st.2.2;⟨o,(sb.2 tt hnt).trans e,r⟩⟩ λb o hb e=>(sb.2 b (by simpa using hb)).trans e
  rw[fm,AAU,hj]
  simp[ACM,hlt]
 done:=λs Q E st hQ=>by
  have hl:ps.length=es.size:=by have:=hp.length_eq;simpa using this
  ~pP hh st.1 st.2.2 st.2.1 (ABV ¤) λh' k=>hQ h' s.toks λb o hb e=>k b o (by simpa using hb) e
 self:=λ_ _ _ _ st hQ=>im st.1 hQ
¶lI{slot i:Nat}{Q:Option (Value×Nat)->Shared->Prop}(hb:w.params.followText "set-order" = false)(hled:t.led=true)(hsz:es.size<=1)(S:SetAt s.heap a o es ep t)
  (h:Q (match es[AAa t.place slot]?,t.place[AAa t.place slot]? with | some (_,x),some j=>some (x,j+1) | _,_=>none) s) :
  wpAny (model prog w) A (setNext a slot i ep) Q E s:=by
 unfold setNext
 !AA0 (ABJ S.ob S.dt S.ft ?_)
 unfold setsByText
 !AA0 (AA0 (ACP (AA3 ?_)))
 simp only[model,hb,AAF,if_false]
 !ABc (λz=>?_) λ_=>?_
 ·have z':(!t.plain&&decide (es.size > 1))=true:=z
  simp at z'
  &
 ·!AA0 (show wpAny (model prog w) A (if (!t.led && !es.isEmpty)=true then unsupported _ else pure ()) _ _ s from ?_)
  rw[hled]
  simp only[AC8,AAw,AAF,if_false]
  ~AA3 (AA3 h)
¶wy(j k:Nat):AAa #[j] k=if j<k then 1 else 0:=by
 unfold AAa
 simp only[AAB,AAA,AAW]
 unfold ACB
 simp only[Nat.zero_lt_succ,if_true]
 by_cases h:j<k
 ·simp[h,ACB]
 ·simp[h,ACB]
¶Az(hb:w.params.followText "set-order" = false)(hled:t.led=true)(hsz:es.size<=1)(hh:A.handled=none)(hne:a≠it) :
  Walks prog w A it [it,a] [it] es.size (λi v=>(es.toList.map (·.2))[i]?=some v) (λi h=>h.get? it=some (fS (rawInt (if i=0 then 0 else t.place.getD 0 0+1:Nat)) i es.size a ep)/\SetAt h a o es ep t) where
 sub:=λb hb=>by simp at hb;simp[hb]
 frame:=λ_ _ _ st hk=>⟨hk it (by simp) _ st.1,st.2.at λo e=>hk a (by simp) o e⟩
 item:=λi s Q E hi st hQ=>by
  obtain rfl:i=0:=¤
  have ps:t.place.size=1:=by have:=st.2.ft;simp[ADd]at this;&
  obtain⟨j,hj⟩:∃j,t.place = #[j]:=⟨t.place[0],by apply Array.ext (by simpa using ps);intro i h1 h2;simp at h2;subst h2;rfl⟩
  have he:es[0]?=some es[0]:=AAS hi
  !oj (slot:=0) (next:=j+1) (x:=es[0].2) st.1 st.2 (λA E Q q=>lI hb hled hsz st.2 ?_) λh' h1 sb=>hQ _ h' s.toks ?_ ⟨?_,st.2.at λo e=>(sb.2 a hne).trans e⟩ λb o hb e=>(sb.2 b (by simpa using hb)).trans e
  ·rw[hj,wy,if_neg (ABy _),he]
   ~q
  ·rw[AAU,AAV,he];rfl
  ·simpa [hj]using h1
 done:=λs Q E st hQ=>by
  !fQ (slot:=if es.size=0 then 0 else t.place.getD 0 0+1) hh st.1 st.2 (λA E Q q=>lI hb hled hsz st.2 ?_) λh' k=>hQ h' s.toks λb o hb e=>k b o (by simpa using hb) e
  have ps:t.place.size=es.size:=by have:=st.2.ft;simp[ADd]at this;&
  by_cases z:es.size=0
  ·have:es = #[]:=Array.eq_empty_of_size_eq_zero z
   subst this
   simpa using q
  ·obtain⟨j,hj⟩:∃j,t.place = #[j]:=⟨t.place[0],by apply Array.ext (by simp;&);intro i h1 h2;simp at h2;subst h2;rfl⟩
   have e1:AAa t.place (if es.size=0 then 0 else t.place.getD 0 0+1)=1:=by rw[if_neg z,hj,wy];simp
   rw[e1,ACI ¤]
   ~q
 self:=λ_ _ _ _ st hQ=>im st.1 hQ
¶lJ{slot i:Nat}{Q:Option (Value×Nat)->Shared->Prop}(hb:w.params.followText "set-order" = false)(hled:t.led=true)(hnd:(!t.plain&&decide (es.size > 1))=false)(S:SetAt s.heap a o es ep t)
  (h:Q (match es[AAa t.place slot]?,t.place[AAa t.place slot]? with | some (_,x),some j=>some (x,j+1) | _,_=>none) s) :
  wpAny (model prog w) A (setNext a slot i ep) Q E s:=by
 unfold setNext
 !AA0 (ABJ S.ob S.dt S.ft ?_)
 unfold setsByText
 !AA0 (AA0 (ACP (AA3 ?_)))
 simp only[model,hb,AAF,if_false]
 !ABc (λz=>?_) λ_=>?_
 ·have z':(!t.plain&&decide (es.size > 1))=true:=z
  rw[hnd]at z';cases z'
 ·!AA0 (show wpAny (model prog w) A (if (!t.led && !es.isEmpty)=true then unsupported _ else pure ()) _ _ s from ?_)
  rw[hled]
  simp only[AC8,AAw,AAF,if_false]
  ~AA3 (AA3 h)
¶AA(hb:w.params.followText "set-order" = false)(hled:t.led=true)(hnd:(!t.plain&&decide (es.size > 1))=false)(hr:t.place.toList.Pairwise (· < ·))(hh:A.handled=none)(hne:a≠it) :
  Walks prog w A it [it,a] [it] es.size (λi v=>(es.toList.map (·.2))[i]?=some v) (λi h=>h.get? it=some (fS (rawInt (if i=0 then 0 else t.place.getD (i-1) 0+1:Nat)) i es.size a ep)/\SetAt h a o es ep t):=by
 have bel:∀i,i<=t.place.size->AAa t.place (if i=0 then 0 else t.place.getD (i-1) 0+1)=i:=λi hi=>by
  #⟨b1,b2,b3⟩:=Ht.below_spec t.place hr (if i=0 then 0 else t.place.getD (i-1) 0+1)
  have mono:∀a b (ha:a<t.place.size) (hb:b<t.place.size),a<b->t.place[a]<t.place[b]:=λa b ha hb h=>by
   have:=ADH.mp hr a b (by simpa using ha) (by simpa using hb) h
   simpa using this
  by_cases z:i=0
  ·rw[if_pos z]at b1 b2 b3 ⊢
   rcases Nat.eq_zero_or_pos (AAa t.place 0)with q | q
   ·rw[q,z]
   ·have:=b2 0 ¤ q
    &
  ·rw[if_neg z]at b1 b2 b3 ⊢
   have hl:i-1<t.place.size:=¤
   have eg:t.place.getD (i-1) 0=t.place[i-1]:=by simp[ACM,hl]
   rw[eg]at b1 b2 b3 ⊢
   rcases ACd (AAa t.place (t.place[i-1]+1)) i with q | q | q
   ·have:=b3 (i-1) hl ¤
    &
   ·~q
   ·have:=b2 i ¤ q
    have:=mono (i-1) i hl ¤ ¤
    &
 ~{
  sub:=λb hb=>by simp at hb;simp[hb]
  frame:=λ_ _ _ st hk=>⟨hk it (by simp) _ st.1,st.2.at λo e=>hk a (by simp) o e⟩
  item:=λi s Q E hi st hQ=>by
   have ps:t.place.size=es.size:=by have:=st.2.ft;simp[ADd]at this;&
   have hp:i<t.place.size:=¤
   have he:es[i]?=some es[i]:=AAS hi
   have hpl:t.place[i]?=some t.place[i]:=AAS hp
   !oj (next:=t.place[i]+1) (x:=es[i].2) st.1 st.2 (λA E Q q=>lJ hb hled hnd st.2 ?_) λh' h1 sb=>hQ _ h' s.toks ?_ ⟨?_,st.2.at λo e=>(sb.2 a hne).trans e⟩ λb o hb e=>(sb.2 b (by simpa using hb)).trans e
   ·rw[bel i ¤,he,hpl]
    ~q
   ·rw[AAU,AAV,he];rfl
   ·rw[if_neg (Nat.succ_ne_zero i),Nat.add_sub_cancel,show t.place.getD i 0=t.place[i] by simp[ACM,hp]]
    ~h1
  done:=λs Q E st hQ=>by
   have ps:t.place.size=es.size:=by have:=st.2.ft;simp[ADd]at this;&
   !fQ hh st.1 st.2 (λA E Q q=>lJ hb hled hnd st.2 ?_) λh' k=>hQ h' s.toks λb o hb e=>k b o (by simpa using hb) e
   rw[bel es.size ¤,ACI (AAC _)]
   ~q
  self:=λ_ _ _ _ st hQ=>im st.1 hQ }
end
end L2
namespace L2
open PySem PySem.Spec PyProof.Rows DL PySem.W
section
variable{prog:Program}{w:World}{A:Around}{E:Value->Shared->Prop}{s:Shared}{a:Addr}{o:Obj}{es:Array (Int×Value)}{ep:Nat}{t:SetTable}
¶Hc{Q:Value->Shared->Prop}(S:SetAt s.heap a o es ep t)(hc:o.cls=.type "set")(hpl:t.plain=true->es.size<=1\/t.place.toList.Pairwise (· < ·))(hled:t.led = !w.params.followText "set-order")(hz:es.size<=sizeLine)
  (h:∀(it:Addr) (h':Heap) (d:Drawn) (vs:List Value) (fp:List Addr) (St:Nat->Heap->Prop),(∀b o,s.heap.get? b=some o->h'.get? b=some o)->vs.Perm (es.toList.map (·.2))->s.heap.objs.size<=it->it<h'.objs.size->(∀b∈fp,b=a\/s.heap.objs.size<=b/\b<h'.objs.size) ->
   (∀A':Around,A'.handled=none->Walks prog w A' it fp [it] es.size (λi v=>vs[i]?=some v) St)->St 0 h'->Q (.ref it) { s with heap:=h',drawn:=d }):wpAny (model prog w) A (pyIter (.ref a)) Q E s:=by
 have hT:s.TypeIs (.ref a) "set":=⟨o,S.ob,hc⟩
 have la:a<s.heap.objs.size:=AAG S.ob
 !wpAny_pyIter_slot hT F.slot_set_iter (AAm F.slot_set_iter hT sF ?_ (F.args_set_iter_1 _))
 unfold Builtin.«frozenset.__iter__»
 !AA0 (show wpAny (model prog w) _ (pure a) _ _ s from AA3 ?_)
 unfold Builtin.Frozenset.sizeOf
 !AA0 (AA0 (ACm S.ob S.dt S.ft (AA3 ?_)))
 unfold setDrawn
 !AA0 (AA0 (ABJ S.ob S.dt S.ft ?_))
 unfold setsByText
 !AA0 (AA0 (ACP (AA3 (AA3 ?_))))
 by_cases hd:(!w.params.followText "set-order" && (!t.plain&&decide (es.size > 1)))=true
 ·!ABc (λ_=>?_) λz=>absurd hd z
  !AA0 (wb _ _ _ _ (by simp) λps d hp=>?_)
  !AA0 (show wpAny (model prog w) _ (newObj (.type "tuple") (.seq (ps.map λ(i:Nat)=>rawInt i).toArray)) _ _ _ from AAj ?_ (by have e:=hp.length_eq;rw[AD5]at e;show (ps.map λ(i:Nat)=>rawInt i).toArray.size<=sizeLine;rw[AAB,AA6,e];~hz))
  have S1:=S.at (h':=s.heap.push { cls:=.type "tuple",data:=.seq (ps.map λ(i:Nat)=>rawInt i).toArray }) λo e=>AA4 _ e
  !AA0 (wpAny_setEpoch_of (s:={ s with heap:=_,drawn:=d }) S1.ob S1.dt S1.ft ?_)
  !AA0 (show wpAny (model prog w) _ (newObj (.type "set_iterator") (.fields #[.ref s.heap.objs.size,rawInt 0,.ref a,rawInt es.size,rawInt ep])) _ _ _ from AAj ?_ (by size_fits))
  !AA3 ⟨_,rfl,"set_iterator",_,⟨_,AAE _ rfl,rfl⟩,bD.lookup,?_⟩
  have sz:(s.heap.push { cls:=.type "tuple",data:=.seq (ps.map λ(i:Nat)=>rawInt i).toArray }).objs.size=s.heap.objs.size+1:=AB1 ..
  !h _ _ d (ps.filterMap λj=>(es[j]?).map (·.2)) _ _ (λb o e=>AA4 _ (AA4 _ e)) ?_ (by show s.heap.objs.size<=(s.heap.push _).objs.size;rw[sz];~ADn _) (by show _<((s.heap.push _).push _).objs.size;rw[AB1 (h:=s.heap.push _)];~AB6 _) ?_
   (λA' hh=>wV (o:=o) (t:=t) (ep:=ep) hp hh (AAQ (by rw[sz];~ACA la)) (AAQ (by rw[sz];~AB6 _))) ⟨AAE _ rfl,S1.at λo e=>AA4 _ e,⟨_,AA4 _ (AAE _ rfl),rfl,_,rfl⟩⟩
  ·!(hp.filterMap _).trans ?_
   have e1:(AAe es.size).filterMap (λj=>(es[j]?).map (·.2))=((AAe es.size).filterMap λj=>es[j]?).map (·.2):=by rw[List.map_filterMap]
   rw[e1,filterMap_getElem?_range]
  ·intro b hb
   rw[AB1,sz]
   rcases AAH.mp hb with rfl | hb
   ·~.inr ⟨by rw[sz];~ADn _,by rw[sz];~AB6 _⟩
   ·rcases AAH.mp hb with rfl | hb
    ·~.inl rfl
    ·rw[AAY.mp hb]
     ~.inr ⟨AAC _,ACA (AB6 _)⟩
 ·!ABc (λz=>absurd z hd) λ_=>?_
  !AA0 (AA3 (AA0 (wpAny_setEpoch_of S.ob S.dt S.ft ?_)))
  !AA0 (show wpAny (model prog w) _ (newObj (.type "set_iterator") (.fields #[rawInt 0,rawInt 0,.ref a,rawInt es.size,rawInt ep])) _ _ _ from AAj ?_ (by size_fits))
  !AA3 ⟨_,rfl,"set_iterator",_,⟨_,AAE _ rfl,rfl⟩,bD.lookup,?_⟩
  have S1:=S.at (h':=s.heap.push (fS (rawInt 0) 0 es.size a ep)) λo e=>AA4 _ e
  have fpl:∀b∈[s.heap.objs.size,a],b=a\/s.heap.objs.size<=b/\b<(s.heap.push (fS (rawInt 0) 0 es.size a ep)).objs.size:=λb hb=>by
   rcases AAH.mp hb with rfl | hb
   ·~.inr ⟨AAC _,by rw[AB1];~AB6 _⟩
   ·~.inl (AAY.mp hb)
  by_cases hb:w.params.followText "set-order" = true
  ·!h _ _ s.drawn ((pickOrder (w.params.setOrder a ep) es).toList.map (·.2)) _ _ (λb o e=>AA4 _ e) ((nP _ es).map _) (AAC _) (by rw[AB1];~AB6 _) fpl
    (λA' hh=>Ay (o:=o) (t:=t) (ep:=ep) hb hh (AAQ la)) ⟨AAE _ rfl,S1⟩
  ·have hb':w.params.followText "set-order" = false:=by simpa using hb
   have hnd:(!t.plain&&decide (es.size > 1))=false:=by
    rw[hb']at hd
    simpa using hd
   have aC:es.size<=1\/t.place.toList.Pairwise (· < ·):=by
    by_cases q:t.plain=true
    ·~hpl q
    ·simp[q]at hnd
     ~.inl hnd
   rcases aC with h1 | hr
   ·!h _ _ s.drawn (es.toList.map (·.2)) _ _ (λb o e=>AA4 _ e) (ADF _) (AAC _) (by rw[AB1];~AB6 _) fpl
     (λA' hh=>Az (o:=o) (t:=t) (ep:=ep) hb' (by rw[hled,hb'];rfl) h1 hh (AAQ la)) ⟨?_,S1⟩
    rw[if_pos rfl]
    ~AAE _ rfl
   ·!h _ _ s.drawn (es.toList.map (·.2)) _ _ (λb o e=>AA4 _ e) (ADF _) (AAC _) (by rw[AB1];~AB6 _) fpl
     (λA' hh=>AA (o:=o) (t:=t) (ep:=ep) hb' (by rw[hled,hb'];rfl) hnd hr hh (AAQ la)) ⟨?_,S1⟩
    rw[if_pos rfl]
    ~AAE _ rfl
end
end L2
namespace L2
open PySem PySem.Spec PyProof.Rows DL PySem.W PySem.Calls PyProof.V
section
variable{prog:Program}{w:World}{A:Around}{E:Value->Shared->Prop}{s:Shared}{a:Addr}{o:Obj}{es:Array (Int×Value)}{ep:Nat}{t:SetTable}
¶Hj{Q:Bool->Shared->Prop}(hT:s.TypeIs (.ref a) "set")(h:Q false s):wpAny (model prog w) A (AEF (.ref a)) Q E s:=by
 unfold AEF
 !AA0 (ACD hT F.slot_set_len.lookup ?_)
 generalize hi:("set.__len__":String)=ident
 wp_delta
 rw[show splitId ident=some ("set","__len__") by rw[←hi];decide +kernel]
 rw[←hi]
 !AA0 (ACO (T:="set") (b:=true) hT sub_set_self (ABc (λz=>absurd z (by decide)) λ_=>ABc (λ_=>AA0 (ACg hT (AA3 h))) λz=>absurd (by decide +kernel) z))
¶Bx{R:Result->Shared->Prop}(hh:A.handled=none)(S:SetAt s.heap a o es ep t)(hc:o.cls=.type "set")(hpl:t.plain=true->es.size<=1\/t.place.toList.Pairwise (· < ·))(hled:t.led = !w.params.followText "set-order")(hz:es.size<=sizeLine)
  {D:Addr}{c₀:Nat} (hDa:D≠a) (hD:s.heap.get? D=some { cls:=.type "list",data:=.seq #[] c₀ }) (res:Value)
  (hR:∀h' tk d vs c,(∀b u,b≠D->s.heap.get? b=some u->h'.get? b=some u)->h'.get? D=some { cls:=.type "list",data:=.seq vs c }->vs.toList.Perm (es.toList.map (·.2))->R (.ok (.ret res)) { s with heap:=h',toks:=tk,drawn:=d }) :
  wpAny (model prog w) A.in1 (ACE (.ref D) (.ref a) res)
   (λfin s'=>match fin with | .done f=>R (.ok f) s' | .again c'=>c'.quiet=true/\codeAny (model prog w) A c' R s') (λe s'=>R (.error e) s') s:=by
 have ld:D<s.heap.objs.size:=AAG hD
 have hT:s.TypeIs (.ref a) "set":=⟨o,S.ob,hc⟩
 unfold ACE
 !AA0 (ACg hT ?_)
 have e1:ACe (.ref D) (.ref a)=false:=by simp[ACe,hDa]
 have e2:(ACo "set" == ACo "list")=false:=by decide
 have e3:(ACo "set" == ACo "tuple")=false:=by decide
 simp only[e1,e2,e3,Bool.or_false,AAF,if_false]
 !AA0 (Hc S hc hpl hled hz λit h1 d vs fp St k1 pv lit uit hfp W st=>?_)
 have hDf:D∉fp:=λz=>by
  rcases hfp D z with e | ⟨e,_⟩
  ·~hDa e
  ·~absurd ld (AD4.mpr e)
 have lv:vs.length=es.size:=by have:=pv.length_eq;simpa using this
 have go:∀(h:Heap) (c₁:Nat),St 0 h->(∀b u,b≠D->h1.get? b=some u->h.get? b=some u)->h.get? D=some { cls:=.type "list",data:=.seq #[] c₁ } ->
   codeAny (model prog w) A (.builtin "list.extend.loop" ⟨[.ref D,.ref it,res],[]⟩) R { s with heap:=h,drawn:=d }:=λh c₁ st' kk hD'=>by
  !codeAny_extend_loopS (W A.in1 (by simp[hh])).toS hz D hDf res es.size 0 _ #[] c₁ rfl (AAT _) st' hD' (ItemsOf.nil _) λs' acc c' hm hD'' hacc=>?_
  rw[Moved.eq_with hm]
  have ea:acc.toList=vs:=by
   apply List.ext_getElem?
   intro i
   by_cases hi:i<es.size
   ·have hi':i<acc.size:=by rw[hacc.1];~hi
    have h1:acc[i]?=some acc[i]:=AAS hi'
    rw[AAV,h1]
    ~(hacc.2 i _ h1).symm
   ·rw[ABV (by rw[AAO,hacc.1];&),ABV ¤]
  !hR s'.heap s'.toks d acc c' (λb u hb e=>hm.heap b u (λz=>?_) (kk b u hb (k1 b u e))) hD'' (by rw[ea];~pv)
  rcases AAH.mp z with e' | z
  ·~hb e'
  ·rw[AAY.mp z]at e
   ~absurd (AAG e) (AD4.mpr lit)
 have hD1:=k1 _ _ hD
 !AA0 (AAp (Hj (s:={ s with heap:=h1,drawn:=d }) ⟨o,k1 _ _ S.ob,hc⟩ ?_))
 !ABc (λz=>?_) λ_=>AA3 ⟨ABv F.plain_extend_loop _,go h1 c₀ st (λ_ _ _ e=>e) hD1⟩
 !AA0 (ACL (AA0 (show wpAny (model prog w) _ (updateSeq D (·.push .none) >>= λ_=>updateSeq D (·.pop)) _ _ _ from AA0 (ADe hD1 rfl ?_))))
 have hD2:=AAZ (ABZ (·.push ABb)) hD1 rfl
 !ADe (hz:=by seq_fits) hD2 rfl ?_
 have hD3:=AAZ (ABZ (·.pop)) hD2 rfl
 have other:∀b,b≠D->((h1.update D (ABZ (·.push ABb))).update D (ABZ (·.pop))).get? b=h1.get? b:=λb hb=>by
  rw[ABE _ _ (AAz hb),ABE _ _ (AAz hb)]
 !AA3 ⟨ABv F.plain_extend_loop _,go _ _ ((W A hh).frame 0 _ _ st λb hb u e=>(other b λq=>hDf (q ▸ hb)).trans e) (λb u hb e=>(other b hb).trans e) hD3⟩
¶AG{Q:Value->Shared->Prop}(hh:A.handled=none)(S:SetAt s.heap a o es ep t)(hc:o.cls=.type "set")(hpl:t.plain=true->es.size<=1\/t.place.toList.Pairwise (· < ·))(hled:t.led = !w.params.followText "set-order")(hz:es.size<=sizeLine)
  (h:∀h' tk d D (vs:List Value),(∀b u,s.heap.get? b=some u->h'.get? b=some u)->s.heap.get? D=none->h'.get? D=some { cls:=.type "list",data:=.seq vs.toArray }->vs.Perm (es.toList.map (·.2)) ->
   wpAny (model prog w) A.in1 (call (.builtin "list.sort") [.ref D]) (λ_ s'=>Q (.ref D) s') E { s with heap:=h',toks:=tk,drawn:=d }):wpAny (model prog w) A (call (.builtin "sorted") [.ref a]) Q E s:=by
 have la:a<s.heap.objs.size:=AAG S.ob
 !call_function_entry kind_sorted plain_sorted entry_sorted (args_sorted1 _) ?_
 unfold Builtin.«sorted»
 !AA0 (m:=checkCount "sorted" 1 1 _) (AA3 ?_)
 unfold collect
 !AA0 (AA0 (wpAny_runValue (ABW F.entry_proto_collect ?_)))
 rw[AB9 F.plain_proto_collect _]
 !(show wpAny (model prog w) _ (newList [] >>= λl=>again (.builtin "list.__iadd__" ⟨[l,.ref a],[]⟩)) _ _ s from AA0 (AAj (AA3 ⟨ABv F.plain_list_iadd _,ABW F.entry_list_iadd ?_⟩)))
 rw[AB9 F.plain_list_iadd _]
 have S1:=S.at (h':=s.heap.push { cls:=.type "list",data:=.seq ([]:List Value).toArray }) λo e=>AA4 _ e
 have key:=Bx (prog:=prog) (A:=A.in1) (s:={ s with heap:=s.heap.push { cls:=.type "list",data:=.seq ([]:List Value).toArray } }) (D:=s.heap.objs.size) (c₀:=0) (res:=.ref s.heap.objs.size)
  (R:=λr s'=>∃h' tk d vs c,r=.ok (.ret (.ref s.heap.objs.size))/\s'={ s with heap:=h',toks:=tk,drawn:=d }/\(∀b u,s.heap.get? b=some u->h'.get? b=some u)/\h'.get? s.heap.objs.size=some { cls:=.type "list",data:=.seq vs c }/\vs.toList.Perm (es.toList.map (·.2)))
  (by simp[hh]) S1 hc hpl hled hz (ABU la) (AAE _ rfl) λh' tk d vs c k hD p=>⟨h',tk,d,vs,c,rfl,rfl,λb u e=>k b u (AAQ (AAG e)) (AA4 _ e),hD,p⟩
 have last:∀h' tk d (vs:Array Value) c,(∀b u,s.heap.get? b=some u->h'.get? b=some u)->h'.get? s.heap.objs.size=some { cls:=.type "list",data:=.seq vs c }->vs.toList.Perm (es.toList.map (·.2)) ->
   wpAny (model prog w) A.in1 (do let ob ←load s.heap.objs.size;match ob.data with | .seq xs _=>pure xs.toList | _=>unsupported "internal:collect":Sem (List Value))
    (λxs s'=>wpAny (model prog w) A.in1 (do let l ←newList xs;let _ ←holding [l] (call (.builtin "list.sort") [l] []);ret l) (λfin s'=>∃v,fin=Fin.done (Flow.ret v)/\Q v s') E s') E { s with heap:=h',toks:=tk,drawn:=d }:=λh' tk d vs c kk hD p=>by
  !AA0 (wpAny_load hD (AA3 (AA0 (AE5 ?_ (by rw[p.length_eq];simpa using hz)))))
  have la':s.heap.objs.size<h'.objs.size:=AAG hD
  !AA0 (AAp (ABi (h (h'.push { cls:=.type "list",data:=.seq vs.toList.toArray }) tk d h'.objs.size vs.toList (λb u e=>AA4 _ (kk b u e)) ?_ (AAE _ rfl) p) (λ_ s' q=>AA3 ⟨_,rfl,q⟩) λ_ _ z=>z))
  cases q:s.heap.get? h'.objs.size with
  | none=>rfl
  | some o'=>~absurd (AAG (kk _ _ q)) (AAq _)
 !ABi key (λfin s' x=>?_) λe s' ⟨_,_,_,_,_,z,_⟩=>by cases z
 cases fin with
 | done f =>
  #⟨h',tk,d,vs,c,z,rfl,kk,hD,p⟩:=x
  cases z
  ~last h' tk d vs c kk hD p
 | again c' =>
  !⟨x.1,ADR x.2 λr s2 ⟨h',tk,d,vs,c,z,e,kk,hD,p⟩=>?_⟩
  subst z e
  ~last h' tk d vs c kk hD p
end
end L2
namespace L2
open PySem PySem.Spec PyProof.Rows DL PySem.W
section
variable{X:Cx}{e:Expr}{te:DTE}{p p' pos pos':Pos}{k:Nat}
¶Inv.drew{pins:List (Addr×Obj)}{σ:St}{H:Hp}{s:Shared}{d:Drawn}(I:Inv X pins σ H s):Inv X pins σ H { s with drawn:=d } :=
 ⟨I.ok,I.os,I.bare,I.base,I.loc,I.cell,I.free,I.freeC,I.pin,I.hok,I.len⟩
end
end L2
namespace L2
open PySem PySem.Spec PyProof.Rows DL PySem.Builtin PySem.Builtin.Str PySem.StrLaws
¶Fe(a b len:Nat):strSliceIndices (some (a:Int)) (some (b:Int)) 1 len=strSliceIndices (some ((min a len:Nat):Int)) (some ((min b len:Nat):Int)) 1 len:=by
 have e:∀i:Nat,max (0:Int) (min (i:Int) (len:Int))=max (0:Int) (min ((min i len:Nat):Int) (len:Int)):=λi=>¤
 have n:∀i:Nat,¬((i:Int)<0):=λi=>¤
 simp only[strSliceIndices,n,if_false,show ((1:Int) > 0)=True by simp,if_true]
 rw[e a,e b]
¶fI(x:Str)(l u:Option Int):(ABo x l u).cps.toList=if (strSliceIndices l u 1 x.length).length=x.length then x.cps.toList else(strSliceIndices l u 1 x.length).filterMap (x.cps[·]?):=by
 unfold ABo
 by_cases h:(strSliceIndices l u 1 x.length).length=x.length
 ·rw[if_pos (by simp[h]),if_pos h]
 ·rw[if_neg (by simp[h]),if_neg h]
¶uy(x:Str){a b:Nat}(hab:a<=b):(ABo x (some (a:Int)) (some (b:Int))).cps.toList=(x.cps.toList.drop a).take (b-a):=by
 have hm:min a x.length<=min b x.length:=¤
 have key:(strSliceIndices (some ((min a x.length:Nat):Int)) (some ((min b x.length:Nat):Int)) 1 x.length).filterMap (x.cps[·]?)=(x.cps.toList.drop (min a x.length)).take (min b x.length-min a x.length):=sliced_plain x hm (Nat.min_le_right ..)
 have ll:=aQ (a:=x)
 have fin:(x.cps.toList.drop (min a x.length)).take (min b x.length-min a x.length)=(x.cps.toList.drop a).take (b-a):=by
  by_cases ha:a<=x.length
  ·rw[Nat.min_eq_left ha]
   by_cases hb:b<=x.length
   ·rw[Nat.min_eq_left hb]
   ·rw[Nat.min_eq_right ¤,ACH (by rw[ABd];&),ACH (by rw[ABd];&)]
  ·rw[ADi (i:=a) ¤,ADi (i:=min a x.length) ¤]
   simp
 rw[fI,Fe,key,fin]
 split
 ·rename_i h
  rw[strSliceIndices_plain hm (Nat.min_le_right ..)]at h
  simp only[AA6,AD5]at h
  have h0:min a x.length=0:=¤
  by_cases hx:x.length=0
  ·have:x.cps.toList=[]:=List.eq_nil_of_length_eq_zero ¤
   rw[this];simp
  ·have:a=0:=¤
   subst this
   rw[List.drop_zero,ACH ¤]
 ·rfl
end L2
namespace L2
open PySem PySem.Spec PyProof.Rows DL PySem.W
section
variable{X:Cx}
def Io:DR2:=λx y M Q=>match x,y with
 | .int i,.int j=>LH i j/\Q (.int (i ^ j.toNat)) M
 | _,_=>False
¶MT:OpD X (binaryOp .Pow) Io:=by
 !OpR.imp MI λvx vy H R ⟨x,y,M,ρ,Q,sm,r1,r2,q,k⟩=>?_
 unfold Io at q
 split at q
 ·cases r1
  cases r2
  ~⟨_,_,rfl,rfl,q.1,k _ H (VQ.now sm (.int _) q.2)⟩
 ·~q.elim
¶zT:HOp X (binaryOp .Pow) Io:=⟨MT⟩
def xI(z:Str):DRA:=λds M Q=>match ds with
 | [.ref n]=>∃xs:List Str,aA M n (xs.map .str)/\(xs.map (·.length)).sum+xs.length*z.length<=16777216/\Q (.str (Txt.join z xs)) M
 | _=>False
¶ur:∀{xs:List Str}{us:List Value},aL (xs.map V.str) us->StrsAre us xs
 | [],_,h=>by cases h;~.nil
 | x::xs,_,h=>by
  cases h with
  | cons a t =>
   #⟨t',rfl⟩:=a
   ~.cons x t' (ur t)
¶qu{K:AA5}{ρ:List Addr}{H:Hp}:∀{xs:List Str}{vs:List V},Reps K ρ H (xs.map D.str) vs->vs=xs.map V.str
 | [],_,h=>by cases h;rfl
 | x::xs,_,h=>by
  cases h with
  | cons a t=>cases a;rw[AAL,qu t]
¶Kd:MtR X "str.join" (GK X.K xI):=by
 intro pins s σ H x xs v us R I rx rs ⟨z,ds,M,ρ,Q,ez,sm,rr,q,k⟩
 subst ez
 #⟨t,rfl⟩:=rx
 unfold xI at q
 split at q
 ·#⟨ys,hL,hok,q⟩:=q
  first | have hzz:=Reps.inv_cons rr | have hzz:=aL.inv_cons rr
  clear rr
  #⟨_,_,rfl,r1,rr⟩:=hzz
  cases rr
  #⟨_,rfl,hn⟩:=Rep.inv_ref r1
  #⟨u,rfl,rfl⟩:=aL.one rs
  #⟨vs,hs,r⟩:=hL.seq sm hn
  #rfl:=qu r
  #⟨its,r2,p,_⟩:=I.list hs
  ~join_list p.isList (by simpa using ur r2) hok λt' k'=>⟨.str _,H,I.tok k',⟨t',rfl⟩,k _ H (VQ.now sm (.str _) q)⟩
 ·~q.elim
¶yw:HMs X "join" xI:=⟨_,PySem.F.slot_str_join,PySem.F.type_str_join,Kd⟩
def nK(z:Str):DRA:=λds M Q=>match ds with
 | [.str y]=>∃i bn,AC7 z y 0 z.length 1=i::bn/\Q (.int (i:Nat)) M
 | _=>False
¶GI:MtR X "str.index" (GK X.K nK):=by
 intro pins s σ H x xs v us R I rx rs ⟨z,ds,M,ρ,Q,ez,sm,rr,q,k⟩
 subst ez
 #⟨t,rfl⟩:=rx
 unfold nK at q
 split at q
 ·#⟨i,bn,ho,q⟩:=q
  first | have hzz:=Reps.inv_cons rr | have hzz:=aL.inv_cons rr
  clear rr
  #⟨_,_,rfl,r1,rr⟩:=hzz
  cases rr
  cases r1
  #⟨u,rfl,t',rfl⟩:=aL.one rs
  ~call_gives F.slot_str_index (typeIs_str _ _ _) F.entry_str_index (F.args_str_index_2 _ _) (gives_str_index _ _ _ _ i bn ho) ⟨.int _,H,I.tok _,⟨_,rfl⟩,k _ H (VQ.now sm (.int _) q)⟩
 ·~q.elim
¶Hi:HMs X "index" nK:=⟨_,PySem.F.slot_str_index,PySem.F.type_str_index,GI⟩
def wj(i:Nat)(b:Bool):DTE:=λS M Q=>match S[i]? with
 | some (some (.str z))=>Q (.ref M.length) (M++[.dct [(z,.bl b)]])
 | _=>False
¶Li{i:Nat}{b:Bool}{x:Str}{j:Nat}{p p' pos:Pos}(hk:PE X (.Name x p) (tVar i)):DE X (.Dict [some (.Name x p)] [.Constant (.bool b) j p'] pos) (wj i b):=by
 !PE.imp (JJ (Gn hk MD JE) rfl rfl (by simp) (Nat.succ_le_succ (AAT _))) λσ H R ⟨S,M,ρ,Q,sm,sr,q,k⟩=>?_
 unfold wj at q
 split at q
 ·rename_i z hS
  #⟨v,hv,rv⟩:=sr.get i _ hS
  cases rv
  intro a ha
  !⟨_,hv,bB,[(AC6 z,.bl b)],rfl,Nat.succ_le_succ (AAT _),k _ _ ?_⟩
  have e:upd (upd H a (.dK [])) a (.dK (qy [] [(AC6 z,V.bl b)]))=upd H a (.dK (rR [z] [V.bl b])):=by
   funext c
   by_cases hc:c=a
   ·subst hc;rw[bB,bB];rfl
   ·rw[aJ hc,aJ hc,aJ hc]
  rw[e]
  ~⟨.ref M.length,M++[.dct [(z,.bl b)]],ρ++[a],sm.laidM (mo:=.dct [(z,.bl b)]) ha ⟨[.bl b],bB,.cons (.bl b) .nil⟩,Grow.laidR ha,.ref sm.last,q⟩
 ·~q.elim
¶Kq{i:Nat}{b:Bool}{x:Str}{j:Nat}{p p' pos:Pos}(hN:X.N[i]?=some x:=by kernel_rfl)(hv:visB X.env.scope x=true:=by kernel_rfl)(hd:(x==("__debug__":Str))=false:=by kernel_rfl)(hcd:(x==("__classdict__":Str))=false:=by kernel_rfl) :
  HE X (.Dict [some (.Name x p)] [.Constant (.bool b) j p'] pos) (wj i b):=⟨Li (Dp hN (Ik hv) hd hcd)⟩
end
end L2
namespace Ht
open PySem
def Occ(ow:Array (Option Nat))(s:Nat):Prop:=∃i,ow[s]?=some (some i)
¶getD_none{ow:Array (Option Nat)}{s:Nat}(hs:s<ow.size):(ow.getD s (some 0)).isNone=true↔¬Occ ow s:=by
 have e:ow[s]?=some ow[s]:=AAS hs
 have e2:ow.getD s (some 0)=ow[s]:=by simp[ACM,hs]
 rw[e2]
 unfold Occ
 rw[e]
 cases ow[s]<;>simp
¶EG{m:Nat}{ow:Array (Option Nat)}(hz:ow.size=m+1)(h:Int):∀(fuel k0 k:Nat),k0<=k->k<k0+fuel->¬Occ ow (fO m h k).1->(∀n,n<fW m h k0->Occ ow (sq m h n).j) ->
  ∃N,ACr m ow fuel (fO m h k0).1 (fO m h k0).2=some (sq m h N).j/\¬Occ ow (sq m h N).j/\∀n,n<N->Occ ow (sq m h n).j:=by
 intro fuel
 induction fuel with
 | zero=>intro k0 k h1 h2;&
 | succ fuel ih =>
  intro k0 k h1 h2 h3 h4
  have ile:=xH m h k0
  have rle:AAs m (fO m h k0).1<=m/\(fO m h k0).1<=AAs m (fO m h k0).1:=by
   unfold AAs;split<;>&
  unfold ACr
  cases hf:(AAe (AAs m (fO m h k0).1+1-(fO m h k0).1)).find? λk=>(ow.getD ((fO m h k0).1+k) (some 0)).isNone with
  | some r =>
   have hr:=List.find?_some hf
   have hmem:=List.mem_of_find?_eq_some hf
   rw[AAo]at hmem
   !⟨fW m h k0+r,by rw[CD m h k0 r ¤],?_,λn hn=>?_⟩
   ·rw[CD m h k0 r ¤]
    ~(getD_none ¤).mp hr
   ·rcases AC0 n (fW m h k0)with q | q
    ·~h4 n q
    ·obtain⟨r',rfl⟩:∃r',n=fW m h k0+r':=⟨n-fW m h k0,¤⟩
     rw[CD m h k0 r' ¤]
     !AB5 λhno=>?_
     have hlt:r' < r:=¤
     have z:=(getD_none (ow:=ow) (s:=(fO m h k0).1+r') ¤).mpr hno
     have:=List.find?_range_eq_some.mp hf
     have:=this.2.2 r' hlt
     rw[z]at this
     ~absurd this (by simp)
  | none =>
   have all:∀r,r<=AAs m (fO m h k0).1-(fO m h k0).1->Occ ow ((fO m h k0).1+r):=λr hr=>by
    !AB5 λhno=>?_
    have z:=(getD_none (ow:=ow) (s:=(fO m h k0).1+r) ¤).mpr hno
    have:=List.find?_eq_none.mp hf r (AAo.mpr ¤)
    ~this z
   have hk:k0≠k:=λe=>by subst e;~h3 (all 0 (AAT _))
   !ih (k0+1) k ¤ ¤ h3 λn hn=>?_
   unfold fW at hn
   rcases AC0 n (fW m h k0)with q | q
   ·~h4 n q
   ·obtain⟨r',rfl⟩:∃r',n=fW m h k0+r':=⟨n-fW m h k0,¤⟩
    rw[CD m h k0 r' ¤]
    ~all r' ¤
structure Laid(m:Nat)(hs:List Int)(ow:Array (Option Nat))(k:Nat):Prop where
 sz:ow.size=m+1
 lt:∀s i:Nat,ow[s]?=some (some i)->i<k
 inj:∀s s' i:Nat,ow[s]?=some (some i)->ow[s']?=some (some i)->s=s'
 all:∀i:Nat,i<k->∃s:Nat,ow[s]?=some (some i)
 path:∀(s i:Nat) (h:Int),ow[s]?=some (some i)->hs[i]?=some h->∃n,(sq m h n).j=s/\∀n',n' < n->Occ ow (sq m h n').j
¶Laid.room{m k:Nat}{hs:List Int}{ow:Array (Option Nat)}(L:Laid m hs ow k)(hk:k<=m):∃s,s<=m/\¬Occ ow s:=by
 !AB5 λhc=>?_
 have occ:∀s,s<=m->Occ ow s:=λs hs=>AB5 λz=>hc ⟨s,hs,z⟩
 have idx:∀s,s∈AAe (m+1)->((ow.getD s none).getD 0)∈AAe k:=λs hs'=>by
  #⟨i,e⟩:=occ s (by have:=AAo.mp hs';&)
  have:ow.getD s none=some i:=by
   #⟨hl,z⟩:=AAy.mp e
   simp[ACM,hl,z]
  rw[this]
  ~AAo.mpr (L.lt s i e)
 have nd:((AAe (m+1)).map λs=>(ow.getD s none).getD 0).Nodup:=by
  rw[ACK,ADs]
  have base:=AE2 (n:=m+1)
  rw[ACK]at base
  !base.imp_of_mem λ{a b} ha hb hne e=>hne ?_
  #⟨i,ei⟩:=occ a (by have:=AAo.mp ha;&)
  #⟨j,ej⟩:=occ b (by have:=AAo.mp hb;&)
  have e1:ow.getD a none=some i:=by
   #⟨hl,z⟩:=AAy.mp ei
   simp[ACM,hl,z]
  have e2:ow.getD b none=some j:=by
   #⟨hl,z⟩:=AAy.mp ej
   simp[ACM,hl,z]
  rw[e1,e2]at e
  have:i=j:=e
  subst this
  ~L.inj a b i ei ej
 have:=L2.nodup_le _ (AAe k) nd λx hx=>by
  #⟨s,hs',rfl⟩:=AAN.mp hx
  ~idx s hs'
 rw[AA6,AD5,AD5]at this
 &
¶Laid.step{m k:Nat}(hm:pX m){hs:List Int}{ow:Array (Option Nat)}(L:Laid m hs ow k)(hk:k<=m){h:Int}(hh:hs[k]?=some h) :
  ∃j,ACr m ow (ADI m) (ABw h % (m+1)) (ABw h)=some j/\Laid m hs (ow.setIfInBounds j (some k)) (k+1):=by
 #⟨s,hs1,hs2⟩:=L.room hk
 #⟨k',hk',e⟩:=IK hm h hs1
 #⟨N,f1,f2,f3⟩:=EG L.sz h (ADI m) 0 k' (AAT _) (by unfold ADI;&) (by rw[e];~hs2) λn hn=>absurd hn (ABy _)
 !⟨(sq m h N).j,f1,?_⟩
 have jl:(sq m h N).j<ow.size:=by have:=CC (m:=m) h N;rw[L.sz];&
 have same:(ow.setIfInBounds (sq m h N).j (some k))[(sq m h N).j]?=some (some k):=by
  rw[Array.getElem?_setIfInBounds_self_of_lt jl]
 have other:∀s,s≠(sq m h N).j->(ow.setIfInBounds (sq m h N).j (some k))[s]?=ow[s]?:=λs hne=>Array.getElem?_setIfInBounds_ne (AAz hne)
 have grow:∀s,Occ ow s->Occ (ow.setIfInBounds (sq m h N).j (some k)) s:=λs ⟨i,z⟩=>by
  by_cases q:s=(sq m h N).j
  ·subst q;~⟨k,same⟩
  ·~⟨i,by rw[other s q];~z⟩
 have wh:∀s i,(ow.setIfInBounds (sq m h N).j (some k))[s]?=some (some i)->(s=(sq m h N).j/\i=k)\/(s≠(sq m h N).j/\ow[s]?=some (some i)):=λs i z=>by
  by_cases q:s=(sq m h N).j
  ·subst q;rw[same]at z;cases z;~.inl ⟨rfl,rfl⟩
  ·rw[other s q]at z;~.inr ⟨q,z⟩
 !⟨by rw[Array.size_setIfInBounds];~L.sz,λs i z=>?_,λs s' i z z'=>?_,λi hi=>?_,λs i h' z hh'=>?_⟩
 ·rcases wh s i z with⟨_,e⟩|⟨_,z⟩
  ·&
  ·have:=L.lt s i z;&
 ·rcases wh s i z with⟨e1,e2⟩|⟨_,z⟩
  ·rcases wh s' i z' with⟨e3,_⟩|⟨_,z'⟩
   ·rw[e1,e3]
   ·have:=L.lt s' i z';&
  ·rcases wh s' i z' with⟨_,e4⟩|⟨_,z'⟩
   ·have:=L.lt s i z;&
   ·~L.inj s s' i z z'
 ·by_cases q:i=k
  ·subst q;~⟨_,same⟩
  ·#⟨s,z⟩:=L.all i ¤
   !⟨s,?_⟩
   rw[other s λe=>f2 ⟨i,by rw[←e];~z⟩]
   ~z
 ·rcases wh s i z with⟨e1,e2⟩|⟨_,z⟩
  ·subst e1 e2
   rw[hh]at hh';cases hh'
   ~⟨N,rfl,λn' hn'=>grow _ (f3 n' hn')⟩
  ·#⟨n,a1,a2⟩:=L.path s i h' z hh'
   ~⟨n,a1,λn' hn'=>grow _ (a2 n' hn')⟩
¶Kk{m:Nat}(hm:pX m)(hs:List Int)(hl:hs.length<=m):∃ow,SetTable.layClean m hs.toArray=some ow/\Laid m hs ow hs.length:=by
 have start:Laid m hs (Array.replicate (m+1) none) 0:=by
  have no:∀s i:Nat,(Array.replicate (m+1) (none:Option Nat))[s]?≠some (some i):=λs i z=>by
   rw[Array.getElem?_replicate]at z
   split at z<;>cases z
  ~⟨by simp,λs i z=>absurd z (no s i),λs _ i z=>absurd z (no s i),λi hi=>absurd hi (ABy _),λs i _ z=>absurd z (no s i)⟩
 have go:∀(bn:List Int) (k:Nat) (ow:Array (Option Nat)),hs.drop k=bn->k+bn.length=hs.length->Laid m hs ow k ->
   ∃ow',bn.foldl (init:=some (ow,k)) (λacc h=>do
    let (owner,k) ←acc
    let j ←ACr m owner (ADI m) (ABw h % (m+1)) (ABw h)
    pure (owner.setIfInBounds j (some k),k+1))=some (ow',hs.length)/\Laid m hs ow' hs.length:=by
  intro bn
  induction bn with
  | nil =>
   intro k ow e hk L
   have:k=hs.length:=by simpa using hk
   subst this
   ~⟨ow,rfl,L⟩
  | cons h bn ih =>
   intro k ow e hk L
   have hh:hs[k]?=some h:=by
    have:(hs.drop k)[0]?=some h:=by rw[e];rfl
    rw[ADc]at this
    simpa using this
   rw[AAA]at hk
   #⟨j,f1,L'⟩:=L.step hm ¤ hh
   #⟨ow',g1,g2⟩:=ih (k+1) (ow.setIfInBounds j (some k)) (by
    have:hs.drop (k+1)=(hs.drop k).drop 1:=by rw[List.drop_drop]
    rw[this,e];rfl) ¤ L'
   !⟨ow',?_,g2⟩
   rw[AEG]
   simp only[Option.bind_eq_bind,Option.bind_some,f1,Option.pure_def]
   ~g1
 #⟨ow,g1,g2⟩:=go hs 0 _ rfl (by simp) start
 !⟨ow,?_,g2⟩
 unfold SetTable.layClean
 rw[←Array.foldl_toList]
 have:hs.toArray.toList=hs:=by simp
 rw[this,g1]
 rfl
end Ht
namespace Ht
open PySem
¶nQ{α:Type}[DecidableEq α]:∀{l l':List α},l.Nodup->l'.Nodup->(∀x,x∈l↔x∈l')->l.Perm l'
 | [],l',_,_,h=>by
  have:l'=[]:=List.eq_nil_iff_forall_not_mem.mpr λx hx=>absurd ((h x).mpr hx) (by simp)
  rw[this]
 | x::l,l',n,n',h=>by
  have hx:x∈l':=(h x).mp AAI
  have n1:=ABG.mp n
  !(AEN x (nQ n1.2 (n'.erase x) λy=>?_)).trans (List.perm_cons_erase hx).symm
  by_cases e:y=x
  ·subst e
   constructor
   ·intro z;~absurd z n1.1
   ·intro z;~absurd z (List.Nodup.not_mem_erase n')
  ·rw[List.mem_erase_of_ne e,←h y,AAH]
   ~⟨.inr,λz=>z.resolve_left e⟩
def ci(m:Nat)(ow:Array (Option Nat)):List (Nat×Nat):=(AAe (m+1)).filterMap λj=>(ow.getD j none).map (j,·)
¶fR{m k:Nat}{hs:List Int}{ow:Array (Option Nat)}(L:Laid m hs ow k){s i:Nat}:(s,i)∈ci m ow↔ow[s]?=some (some i):=by
 unfold ci
 rw[List.mem_filterMap]
 constructor
 ·rintro⟨j,hj,e⟩
  have hj':j<ow.size:=by rw[L.sz];~AAo.mp hj
  have e2:ow.getD j none=ow[j]:=by simp[ACM,hj']
  rw[e2]at e
  cases q:ow[j] with
  | none=>rw[q]at e;cases e
  | some i' =>
   rw[q]at e
   have:=AAR e
   cases this
   rw[AAS hj',q]
 ·intro e
  #⟨hl,z⟩:=AAy.mp e
  !⟨s,AAo.mpr (by rw[←L.sz];~hl),?_⟩
  have e2:ow.getD s none=ow[s]:=by simp[ACM,hl]
  rw[e2,z];rfl
¶vE(m:Nat)(ow:Array (Option Nat)):((ci m ow).map (·.1)).Pairwise (· < ·):=by
 unfold ci
 rw[ADs]
 !List.Pairwise.filterMap (R:=(· < ·)) _ (λa a' h b hb b' hb'=>?_) (List.pairwise_lt_range)
 #⟨x,_,rfl⟩:=ABp.mp hb
 #⟨y,_,rfl⟩:=ABp.mp hb'
 ~h
¶vF{m:Nat}{hs:List Int}{ow:Array (Option Nat)}(L:Laid m hs ow hs.length):((ci m ow).map (·.2)).Perm (AAe hs.length):=by
 have nd1:(ci m ow).Nodup:=by
  have:=vE m ow
  rw[ADs]at this
  ~this.imp λh e=>by rw[e]at h;~AAq _ h
 have nd:((ci m ow).map (·.2)).Nodup:=by
  rw[ACK,ADs]
  rw[ACK]at nd1
  !nd1.imp_of_mem λ{a b} ha hb hne e=>hne ?_
  #⟨s,i⟩:=a
  #⟨s',i'⟩:=b
  have e':i=i':=e
  subst e'
  rw[L.inj s s' i ((fR L).mp ha) ((fR L).mp hb)]
 !nQ nd AE2 λi=>?_
 rw[AAo,AAN]
 constructor
 ·rintro⟨⟨s,i'⟩,hm,rfl⟩
  ~L.lt s i' ((fR L).mp hm)
 ·intro hi
  #⟨s,e⟩:=L.all i hi
  ~⟨(s,i),(fR L).mpr e,rfl⟩
end Ht
namespace Ht
open PySem
¶sC{α:Type}{l:List α}{p:Nat}{x y:α}(hp:p<=l.length){i:Nat}(h:(l.take p++x::l.drop p)[i]?=some y):(i<p/\l[i]?=some y)\/(i=p/\y=x)\/(p<i/\l[i-1]?=some y):=by
 have lt:(l.take p).length=p:=by rw[AAh];&
 rcases ACd i p with q | q | q
 ·rw[AAJ ¤,List.getElem?_take,if_pos q]at h
  ~.inl ⟨q,h⟩
 ·subst q
  rw[AAg ¤,lt,ABz]at h
  ~.inr (.inl ⟨rfl,(AAR h).symm⟩)
 ·rw[AAg ¤,lt]at h
  obtain⟨r,hr⟩:∃r,i-p=r+1:=⟨i-p-1,¤⟩
  rw[hr,ABB,ADc]at h
  ~.inr (.inr ⟨q,by rw[show i-1=p+r by &];~h⟩)
structure TPre(t:SetTable)(hs:List Int):Prop where
 msk:pX t.mask
 len:t.place.size=hs.length
 nod:t.dummies = #[]
 ris:t.place.toList.Pairwise (· < ·)
 rng:∀j∈t.place.toList,j<=t.mask
 path:∀(i:Nat) (h:Int) (j:Nat),hs[i]?=some h->t.place[i]?=some j->∃n,(sq t.mask h n).j=j/\∀n',n' < n->(sq t.mask h n').j∈t.place.toList
¶put_pre{t:SetTable}{hs:List Int}(T:TOk t hs){h:Int}{N:Nat}(h2:(sq t.mask h N).j∉t.place.toList)(h3:∀k,k<N->(sq t.mask h k).j∈t.place.toList)(pl:Bool) :
  (t.put (sq t.mask h N).j).2<=hs.length/\TPre { (t.put (sq t.mask h N).j).1 with plain:=pl } (hs.take (t.put (sq t.mask h N).j).2++h::hs.drop (t.put (sq t.mask h N).j).2):=by
 #⟨e,ris⟩:=De T.ris h2
 #⟨b1,_,_⟩:=below_spec t.place T.ris (sq t.mask h N).j
 have bl:AAa t.place (sq t.mask h N).j<=hs.length:=by rw[←T.len];~b1
 !⟨bl,⟨T.msk,?_,?_,ris,λj hj=>?_,λi h' j hh hj=>?_⟩⟩
 ·have:=congrArg ACy e
  rw[AAO,AA8,AAA,AAh,ABd,AAO]at this
  show (t.put (sq t.mask h N).j).1.place.size=(hs.take (AAa t.place (sq t.mask h N).j)++h::hs.drop (AAa t.place (sq t.mask h N).j)).length
  rw[this,AA8,AAA,AAh,ABd,T.len]
 ·show (if SetTable.has t.dummies (sq t.mask h N).j then SetTable.eraseAt t.dummies (AAa t.dummies (sq t.mask h N).j)else t.dummies) = #[]
  rw[T.nod]
  rfl
 ·have hj':j∈(t.put (sq t.mask h N).j).1.place.toList:=hj
  rw[e]at hj'
  rcases AAk.mp hj' with q | q
  ·~T.rng j (AD9 q)
  ·rcases AAH.mp q with q | q
   ·rw[q];~CC h N
   ·~T.rng j (AD8 q)
 ·have sub:∀x,x∈t.place.toList->x∈(t.put (sq t.mask h N).j).1.place.toList:=λx hx=>by
   rw[e]
   rw[←List.take_append_drop (AAa t.place (sq t.mask h N).j) t.place.toList]at hx
   rcases AAk.mp hx with q | q
   ·~ACZ _ q
   ·~AAc _ (AA9 _ q)
  have hj':(t.put (sq t.mask h N).j).1.place.toList[i]?=some j:=by rw[AAV];~hj
  rw[e]at hj'
  have go:∀k,hs[k]?=some h'->t.place[k]?=some j->∃n,(sq t.mask h' n).j=j/\∀n',n' < n->(sq t.mask h' n').j∈(t.put (sq t.mask h N).j).1.place.toList:=λk z1 z2=>by
   #⟨n,a1,a2⟩:=T.path k h' j z1 z2
   ~⟨n,a1,λn' hn'=>sub _ (a2 n' hn')⟩
  rcases sC (by rw[AAO];~b1) hj' with⟨q,z⟩|⟨q,z⟩|⟨q,z⟩
  ·rcases sC bl hh with⟨q',z'⟩|⟨q',z'⟩|⟨q',z'⟩
   ·~go i z' (by rw[←AAV];~z)
   ·&
   ·&
  ·rcases sC bl hh with⟨q',z'⟩|⟨q',z'⟩|⟨q',z'⟩
   ·&
   ·subst z z'
    ~⟨N,rfl,λn' hn'=>sub _ (h3 n' hn')⟩
   ·&
  ·rcases sC bl hh with⟨q',z'⟩|⟨q',z'⟩|⟨q',z'⟩
   ·&
   ·&
   ·~go (i-1) z' (by rw[←AAV];~z)
¶TPre.ok{t:SetTable}{hs:List Int}(T:TPre t hs)(h:t.tooFull=false):TOk t hs:=by
 !⟨T.msk,T.len,T.nod,T.ris,T.rng,?_,T.path⟩
 unfold SetTable.tooFull AEV at h
 rw[T.nod]at h
 simp at h
 simpa using h
¶TPre.anew{t:SetTable}{hs:List Int}(T:TPre t hs)(h:t.tooFull=true)(hb:(hs.length-1)*5<t.mask*3)(h60:hs.length<=64) :
  AEL (ACq hs.length)<=sizeLine/\∃t2 ord,t.relaid hs.toArray (ACq hs.length)=some (t2,ord)/\ord.toList.Perm (AAe hs.length)/\TOk t2 (ord.toList.map λi=>hs.getD i 0)/\t2.led=t.led:=by
 have full:hs.length*5 ≥ t.mask*3:=by
  unfold SetTable.tooFull AEV at h
  rw[T.nod,T.len]at h
  simpa using h
 have gm:∃m,AEL (ACq hs.length)=m+1/\pX m/\hs.length<=m/\hs.length*5<m*3:=by
  rcases T.msk with e | e | e
  ·have:hs.length=5:=¤
   rw[this]
   ~⟨31,by decide +kernel,.inr (.inl rfl),by decide,by decide⟩
  ·have:hs.length=19:=¤
   rw[this]
   ~⟨127,by decide +kernel,.inr (.inr rfl),by decide,by decide⟩
  ·&
 #⟨m,e,hm,hl,few⟩:=gm
 !⟨by rw[e,ABm];rcases hm with rfl | rfl | rfl<;>&,?_⟩
 #⟨ow,f1,L⟩:=Kk hm hs hl
 unfold SetTable.relaid
 rw[e,Nat.add_sub_cancel]
 unfold SetTable.laid
 rw[f1]
 !⟨_,_,rfl,?_,?_,rfl⟩
 ·show ((ci m ow).map (·.2)).toArray.toList.Perm _
  simpa using vF L
 ·have pl:((ci m ow).map (·.1)).toArray.toList=(ci m ow).map (·.1):=by simp
  have ol:((ci m ow).map (·.2)).toArray.toList=(ci m ow).map (·.2):=by simp
  have ln:(ci m ow).length=hs.length:=by have:=(vF L).length_eq;simpa using this
  !⟨hm,?_,rfl,?_,λj hj=>?_,?_,λi h' j hh hj=>?_⟩
  ·show ((ci m ow).map (·.1)).toArray.size=(((ci m ow).map (·.2)).toArray.toList.map λi=>hs.getD i 0).length
   simp
  ·show ((ci m ow).map (·.1)).toArray.toList.Pairwise _
   rw[pl];~vE m ow
  ·have hj':j∈((ci m ow).map (·.1)).toArray.toList:=hj
   rw[pl]at hj'
   #⟨⟨s,i⟩,hm',rfl⟩:=AAN.mp hj'
   have:=(AAy.mp ((fR L).mp hm')).1
   rw[L.sz]at this
   show s<=m
   &
  ·show ((ci m ow).map (·.1)).toArray.size*5<m*3
   rw[AAB,AA6,ln];~few
  ·have hh':(((ci m ow).map (·.2)).map λi=>hs.getD i 0)[i]?=some h':=by rw[←ol];~hh
   have hj':((ci m ow).map (·.1))[i]?=some j:=by rw[←pl,AAV];~hj
   rw[AAi,AAU]at hh'
   rw[AAU]at hj'
   cases q:(ci m ow)[i]? with
   | none=>rw[q]at hj';cases hj'
   | some p =>
    #⟨s,k⟩:=p
    rw[q]at hh' hj'
    have e1:s=j:=AAR hj'
    have e2:hs.getD k 0=h':=AAR hh'
    subst e1
    have mem:=(fR L).mp (AAu q)
    have kl:=L.lt s k mem
    have hk:hs[k]?=some h':=by
     rw[AA7 kl]
     rw[←e2];simp[AEP,kl]
    #⟨n,a1,a2⟩:=L.path s k h' mem hk
    !⟨n,a1,λn' hn'=>?_⟩
    #⟨k',z⟩:=a2 n' hn'
    show (sq m h' n').j∈((ci m ow).map (·.1)).toArray.toList
    rw[pl]
    ~AAN.mpr ⟨(_,k'),(fR L).mpr z,rfl⟩
end Ht
namespace L2
open PySem PySem.Spec PyProof.Rows DL PySem.W
¶yk{M:Mem}:∀(n:Nat) (d:D),eU n d=true->okD M n d=true
 | 0,d,h=>by cases d<;>first | rfl | cases h
 | n+1,d,h=>by
  cases d with
  | tup ds =>
   have h':ds.all (eU n)=true:=h
   show ds.all (okD M n)=true
   rw[AAK]at h' ⊢
   ~λx hx=>yk n x (h' x hx)
  | str x=>rfl
  | int i=>rfl
  | _=>cases h
¶kU{M:Mem}:∀(n:Nat) (x y:D),eU n x=true->eU n y=true->(eqD M n x y=true↔x=y):=by
 intro n
 induction n with
 | zero =>
  intro x y h1 h2
  cases x with
  | str a =>
   cases y with
   | str b=>simp[eqD]
   | int b=>simp[eqD]
   | _=>cases h2
  | int a =>
   cases y with
   | str b=>simp[eqD]
   | int b=>simp[eqD]
   | _=>cases h2
  | _=>cases h1
 | succ n ih =>
  have go:∀xs ys:List D,xs.all (eU n)=true->ys.all (eU n)=true->(eqL (eqD M n) xs ys=true↔xs=ys):=by
   intro xs
   induction xs with
   | nil=>intro ys _ _;cases ys<;>simp[eqL]
   | cons x xs ih2 =>
    intro ys a1 a2
    cases ys with
    | nil=>simp[eqL]
    | cons y ys =>
     rw[ABF,AAD]at a1 a2
     show (eqD M n x y&&eqL (eqD M n) xs ys)=true↔_
     rw[AAD,ih x y a1.1 a2.1,ih2 ys a1.2 a2.2,AED]
  intro x y h1 h2
  cases x with
  | str a =>
   cases y with
   | str b=>simp[eqD]
   | int b=>simp[eqD]
   | tup ys=>simp[eqD]
   | _=>cases h2
  | int a =>
   cases y with
   | str b=>simp[eqD]
   | int b=>simp[eqD]
   | tup ys=>simp[eqD]
   | _=>cases h2
  | tup xs =>
   cases y with
   | str b=>simp[eqD]
   | int b=>simp[eqD]
   | tup ys=>rw[D.tup.injEq];~go _ _ h1 h2
   | _=>cases h2
  | _=>cases h1
section
variable{X:Cx}{pins:List (Addr×Obj)}{σ:St}{H:Hp}{ρ:List Addr}{M:Mem}
¶ND(sm:Sim X.K ρ M H):∀(n:Nat) (A:Around) (s:Shared) (d:D) (v:V) (u:Value) (E:Value->Shared->Prop) (Q:Int->Shared->Prop),A.units+n<cLine->Inv X pins σ H s->Rep X.K ρ H d v->bi v u->eU n d=true ->
  (∀tk,Q (hkD X.w n d) { s with toks:=tk })->wpAny (model X.prog X.w) A (pyHash u) Q E s:=by
 intro n
 induction n with
 | zero =>
  intro A s d v u E Q hu I r rv hk h
  cases r with
  | str x=>#⟨t,rfl⟩:=rv;~ADM (h _)
  | int x=>#⟨t,rfl⟩:=rv;~ADL (h _)
  | _=>cases hk
 | succ n ih =>
  intro A s d v u E Q hu I r rv hk h
  cases r with
  | str x=>#⟨t,rfl⟩:=rv;~ADM (h _)
  | int x=>#⟨t,rfl⟩:=rv;~ADL (h _)
  | @tup a vs ds hq rr =>
   cases rv
   #⟨its,r2,p,_⟩:=I.tuple hq
   #⟨o,ho,hc,nn,hd⟩:=id p
   have hT:s.TypeIs (.ref a) "tuple":=⟨o,ho,hc⟩
   have hks:ds.all (eU n)=true:=hk
   unfold pyHash
   first | unfold pyHashByItsType | skip
   first | !AA0 (wpAny_cRoomFor_or (.inr ¤) ?_) | skip
   !AA0 (ACD hT F.slot_tuple_hash.lookup ?_)
   !(show wpAny (model X.prog X.w) _ (if (some (Value.builtin "tuple.__hash__")==some ABb)=true then _ else _) Q E s from ?_)
   rw[if_neg (by rw[beq_builtin_none];~AAb)]
   !AA0 (ACD hT F.slot_tuple_hash.lookup ?_)
   !(show wpAny (model X.prog X.w) _ (callSpecialIfBoundUnlessNone? (.ref a) "__hash__" _ >>= _) Q E s from AA0 (ACx hT F.slot_tuple_hash (AAm F.slot_tuple_hash hT F.entry_tuple_hash ?_ (F.args_tuple_hash_1 _))))
   !(show wpAny (model X.prog X.w) _ (ACJ (.ref a) >>= _) _ _ s from AA0 (wpAny_tupleItemsOf ho hd (AA0 ?_)))
   rw[←ACT]
   !AC4 _ (λbn (b:Array Int) s'=>∃done left ws,ds=done++left/\Reps X.K ρ H left ws/\aL ws bn/\b.toList=done.map (hkD X.w n)/\∃tk,s'={ s with toks:=tk }) _ ?_ ?_ _ _ ⟨[],ds,vs,rfl,rr,by simpa using r2,rfl,s.toks,rfl⟩
   ·rintro x bn b s' ⟨done,left,ws,e,h1,h2,hb,tk,rfl⟩
    cases h2 with
    | @cons v0 _ ws' _ q1 q2 =>
     cases h1 with
     | @cons d0 _ left' _ r0 t0 =>
      !AA0 (ih _ _ d0 v0 x _ _ (by show A.units+1+n<cLine;&) (I.tok tk) r0 q1 ?_ λtk'=>?_)
      ·have:=AAK.mp hks d0 (by rw[e];simp)
       ~this
      ·first
        | ~AA3 ⟨done++[d0],left',ws',by rw[e];simp,t0,q2,by simp[hb],tk',rfl⟩
        | ~AA0 (AA3 (AA3 ⟨done++[d0],left',ws',by rw[e];simp,t0,q2,by simp[hb],tk',rfl⟩))
   ·rintro b s' ⟨done,left,ws,e,h1,h2,hb,tk,rfl⟩
    cases h2
    cases h1
    rw[ACa]at e
    subst e
    !(show wpAny (model X.prog X.w) _ (retInt (ABS b.toList)) _ _ _ from ?_)
    rw[hb]
    !wpAny_ret_mkInt ?_
    have key:hkD X.w (n+1) (.tup ds)=reduceHash (ABS (ds.map (hkD X.w n))):=rfl
    generalize ABS (ds.map (hkD X.w n))=z at key
    !(show wpAny (model X.prog X.w) _ (if (decide (-(2:Int) ^ 63<=z)&&decide (z<2 ^ 63))=true then _ else _) Q E _ from ?_)
    unfold reduceHash at key
    by_cases hr:(decide (-(2:Int) ^ 63<=z)&&decide (z<2 ^ 63))=true
    ·rw[if_pos hr]at key ⊢
     ~AA3 (by rw[←key];~h _)
    ·rw[if_neg hr]at key ⊢
     ~AA0 (ACL (AA3 (by rw[←key];~h _)))
  | _=>cases hk
end
end L2
namespace L2
open PySem PySem.Spec PyProof.Rows DL PySem.W
section
variable{X:Cx}{pins:List (Addr×Obj)}{σ:St}{H:Hp}{ρ:List Addr}{M:Mem}
¶hbv_D(sm:Sim X.K ρ M H):∀(n k:Nat) (A:Around) (s:Shared) (d:D) (v:V) (u:Value) (E:Value->Shared->Prop) (Q:Bool->Shared->Prop),n<=k->Inv X pins σ H s->Rep X.K ρ H d v->bi v u->eU n d=true->(∀b,Q b s)->wpAny (model X.prog X.w) A (hashByValue k u) Q E s:=by
 intro n
 induction n with
 | zero =>
  intro k A s d v u E Q hk I r rv kd h
  cases r with
  | str x=>#⟨t,rfl⟩:=rv;cases k<;>~AA3 (h _)
  | int x=>#⟨t,rfl⟩:=rv;cases k<;>~AA3 (h _)
  | _=>cases kd
 | succ n ih =>
  intro k A s d v u E Q hk I r rv kd h
  cases r with
  | str x=>#⟨t,rfl⟩:=rv;cases k<;>~AA3 (h _)
  | int x=>#⟨t,rfl⟩:=rv;cases k<;>~AA3 (h _)
  | @tup a vs ds hq rr =>
   cases rv
   obtain⟨k,rfl⟩:∃k',k=k'+1:=⟨k-1,¤⟩
   #⟨its,r2,p,_⟩:=I.tuple hq
   #⟨o,ho,hc,nn,hd⟩:=id p
   have hT:s.TypeIs (.ref a) "tuple":=⟨o,ho,hc⟩
   have hks:ds.all (eU n)=true:=kd
   unfold hashByValue
   !AA0 (ACD hT F.slot_tuple_hash.lookup ?_)
   dsimp only
   !AA0 (ABM ho hd ?_)
   simp only[Option.getD_some]
   rw[←ACT]
   !AA0 ?_
   !AC4 _ (λbn r s'=>s'=s/\r.1=none/\∃left ws,(∀x∈left,eU n x=true)/\Reps X.K ρ H left ws/\aL ws bn) _ ?_ ?_ _ _ ⟨rfl,rfl,ds,vs,AAK.mp hks,rr,by simpa using r2⟩
   ·rintro x bn r s' ⟨rfl,hr,left,ws,hl,h1,h2⟩
    cases h2 with
    | cons q1 q2 =>
     cases h1 with
     | cons r0 t0 =>
      !AA0 (ih k _ _ _ _ x _ _ ¤ I r0 q1 (hl _ AAI) λb=>?_)
      cases b with
      | false=>~AA3 (AA3 (h _))
      | true=>~AA3 ⟨rfl,rfl,_,_,λx hx=>hl x (AA9 _ hx),t0,q2⟩
   ·rintro⟨r1,r2⟩ s' ⟨rfl,hr,_⟩
    simp only at hr
    subst hr
    ~AA3 (h _)
  | _=>cases kd
¶Da(sm:Sim X.K ρ M H):∀(n k:Nat) (A:Around) (s:Shared) (d:D) (v:V) (u:Value) (E:Value->Shared->Prop) (Q:Bool->Shared->Prop),n<=k->Inv X pins σ H s->Rep X.K ρ H d v->bi v u->eU n d=true->Q true s->wpAny (model X.prog X.w) A (eqIsQuiet k u) Q E s:=by
 intro n
 induction n with
 | zero =>
  intro k A s d v u E Q hk I r rv kd h
  cases r with
  | str x=>#⟨t,rfl⟩:=rv;rw[ABt k (v:=.str x t) rfl];~AA3 h
  | int x=>#⟨t,rfl⟩:=rv;rw[ABt k (v:=.int x t) rfl];~AA3 h
  | _=>cases kd
 | succ n ih =>
  intro k A s d v u E Q hk I r rv kd h
  cases r with
  | str x=>#⟨t,rfl⟩:=rv;rw[ABt k (v:=.str x t) rfl];~AA3 h
  | int x=>#⟨t,rfl⟩:=rv;rw[ABt k (v:=.int x t) rfl];~AA3 h
  | @tup a vs ds hq rr =>
   cases rv
   obtain⟨k,rfl⟩:∃k',k=k'+1:=⟨k-1,¤⟩
   #⟨its,r2,p,_⟩:=I.tuple hq
   #⟨o,ho,hc,nn,hd⟩:=id p
   have hT:s.TypeIs (.ref a) "tuple":=⟨o,ho,hc⟩
   have hks:ds.all (eU n)=true:=kd
   unfold eqIsQuiet
   !AA0 (ACD hT F.slot_tuple_eq.lookup ?_)
   !(show wpAny (model X.prog X.w) A (isInstance (.ref a) (.type "tuple") >>= _) _ _ s from AA0 (ACO hT isSubtype_tuple_tuple ?_))
   simp only[AC8,AAF,if_false]
   !AA0 (ABM ho hd ?_)
   simp only[Option.getD_some]
   !AA0 ?_
   rw[←ACT]
   !AC4 _ (λbn r s'=>s'=s/\r.1=none/\∃left ws,(∀x∈left,eU n x=true)/\Reps X.K ρ H left ws/\aL ws bn) _ ?_ ?_ _ _ ⟨rfl,rfl,ds,vs,AAK.mp hks,rr,by simpa using r2⟩
   ·rintro x bn r s' ⟨rfl,hr,left,ws,hl,h1,h2⟩
    cases h2 with
    | cons q1 q2 =>
     cases h1 with
     | cons r0 t0 =>
      !AA0 (ih k _ _ _ _ x _ _ ¤ I r0 q1 (hl _ AAI) ?_)
      simp only[AC8,AAF,if_false]
      ~AA3 ⟨rfl,rfl,_,_,λx hx=>hl x (AA9 _ hx),t0,q2⟩
   ·rintro⟨r1,r2⟩ s' ⟨rfl,hr,_⟩
    simp only at hr
    subst hr
    ~AA3 h
  | _=>cases kd
¶Ol(sm:Sim X.K ρ M H):∀(n k:Nat) (A:Around) (s:Shared) (d:D) (v:V) (u:Value) (E:Value->Shared->Prop) (Q:Bool->Shared->Prop),n<=k->Inv X pins σ H s->Rep X.K ρ H d v->bi v u->eU n d=true->Q false s->wpAny (model X.prog X.w) A (ofAClassStatement k u) Q E s:=by
 intro n
 induction n with
 | zero =>
  intro k A s d v u E Q hk I r rv kd h
  cases r with
  | str x=>#⟨t,rfl⟩:=rv;cases k<;>~AA3 h
  | int x=>#⟨t,rfl⟩:=rv;cases k<;>~AA3 h
  | _=>cases kd
 | succ n ih =>
  intro k A s d v u E Q hk I r rv kd h
  cases r with
  | str x=>#⟨t,rfl⟩:=rv;cases k<;>~AA3 h
  | int x=>#⟨t,rfl⟩:=rv;cases k<;>~AA3 h
  | @tup a vs ds hq rr =>
   cases rv
   obtain⟨k,rfl⟩:∃k',k=k'+1:=⟨k-1,¤⟩
   #⟨its,r2,p,_⟩:=I.tuple hq
   #⟨o,ho,hc,nn,hd⟩:=id p
   have hT:s.TypeIs (.ref a) "tuple":=⟨o,ho,hc⟩
   have hks:ds.all (eU n)=true:=kd
   unfold ofAClassStatement
   !AA0 (ACg hT ?_)
   dsimp only
   simp only[beq_self_eq_true,if_true]
   !AA0 (AA3 ?_)
   simp only[AC8,AAF,if_false]
   !AA0 (ABM ho hd ?_)
   dsimp only
   !AA0 ?_
   rw[←ACT]
   !AC4 _ (λbn r s'=>s'=s/\r.1=none/\∃left ws,(∀x∈left,eU n x=true)/\Reps X.K ρ H left ws/\aL ws bn) _ ?_ ?_ _ _ ⟨rfl,rfl,ds,vs,AAK.mp hks,rr,by simpa using r2⟩
   ·rintro x bn r s' ⟨rfl,hr,left,ws,hl,h1,h2⟩
    cases h2 with
    | cons q1 q2 =>
     cases h1 with
     | cons r0 t0 =>
      !AA0 (ih k _ _ _ _ x _ _ ¤ I r0 q1 (hl _ AAI) ?_)
      simp only[AAF,if_false]
      ~AA3 ⟨rfl,rfl,_,_,λx hx=>hl x (AA9 _ hx),t0,q2⟩
   ·rintro⟨r1,r2⟩ s' ⟨rfl,hr,_⟩
    simp only at hr
    subst hr
    ~AA3 h
  | _=>cases kd
end
end L2
namespace L2
open PySem PySem.Spec PyProof.Rows DL PySem.W
def jX:D->Bool
 | .tup _=>true
 | _=>false
def Ent(X:Cx)(ρ:List Addr)(H:Hp)(n:Nat)(d:D)(e:Int×Value):Prop:=(∃v,Rep X.K ρ H d v/\bi v e.2)/\e.1=hkD X.w n d/\eU n d=true/\jX d=true
structure KSet(X:Cx)(ρ:List Addr)(H:Hp)(h:Heap)(a:Addr)(n:Nat)(ds:List D)(o:Obj)(es:Array (Int×Value))(ep:Nat)(t:SetTable):Prop where
 ob:h.get? a=some o
 ex:o.ExactSet
 dt:o.data=.set es ep t
 en:Paired (Ent X ρ H n) ds es.toList
 nd:ds.Nodup
 tk:Ht.TOk t (es.toList.map (·.1))
 ld:t.led = !X.w.params.followText "set-order"
¶jp{α β:Type}{R:α->β->Prop}:∀{xs:List α}{ys:List β}{i:Nat}{y:β},Paired R xs ys->ys[i]?=some y->∃x,xs[i]?=some x/\R x y
 | _,_,i,y,.nil,e=>by simp at e
 | _,_,0,y,.cons r _,e=>by simp at e;subst e;~⟨_,rfl,r⟩
 | _,_,i+1,y,.cons _ t,e=>by
  #⟨x,h1,h2⟩:=jp (i:=i) t (by simpa using e)
  ~⟨x,by simpa using h1,h2⟩
¶jO{α β:Type}{R:α->β->Prop}:∀{xs:List α}{ys:List β}{i:Nat}{x:α},Paired R xs ys->xs[i]?=some x->∃y,ys[i]?=some y/\R x y
 | _,_,i,y,.nil,e=>by simp at e
 | _,_,0,y,.cons r _,e=>by simp at e;subst e;~⟨_,rfl,r⟩
 | _,_,i+1,y,.cons _ t,e=>by
  #⟨x,h1,h2⟩:=jO (i:=i) t (by simpa using e)
  ~⟨x,by simpa using h1,h2⟩
¶KSet.fits{X:Cx}{ρ:List Addr}{H:Hp}{h:Heap}{a:Addr}{n:Nat}{ds:List D}{o:Obj}{es:Array (Int×Value)}{ep:Nat}{t:SetTable}(S:KSet X ρ H h a n ds o es ep t):t.fits es.size=true:=by
 have h1:=S.tk.len
 have h2:=S.tk.few
 rw[AA6,AAO]at h1
 unfold ADd
 have h3:t.fill=t.place.size:=by unfold AEV;rw[S.tk.nod];rfl
 rw[h3]
 simp only[AAD,beq_iff_eq,decide_eq_true_eq]
 &
section
variable{X:Cx}{pins:List (Addr×Obj)}{σ:St}{H:Hp}{ρ:List Addr}{M:Mem}{A:Around}{E:Value->Shared->Prop}{s:Shared}{a:Addr}{n:Nat}{ds:List D}{o:Obj}{es:Array (Int×Value)}{ep:Nat}{t:SetTable}
¶FU(sm:Sim X.K ρ M H)(I:Inv X pins σ H s)(hn:n<=8){d:D}{v:V}{u:Value}(r:Rep X.K ρ H d v)(rv:bi v u)(kd:eU n d=true){Q:Bool->Shared->Prop}(h:Q false s) :
  ∀(l:List Value),(∀y∈l,∃d' v',Rep X.K ρ H d' v'/\bi v' y/\eU n d'=true)->wpAny (model X.prog X.w) A (searchCouldBeSeen u l) Q E s:=by
 intro l hl
 unfold searchCouldBeSeen
 !AA0 ?_
 !AC4 _ (λbn r s'=>s'=s/\r.1=none/\∀y∈bn,∃d' v',Rep X.K ρ H d' v'/\bi v' y/\eU n d'=true) _ ?_ ?_ _ _ ⟨rfl,rfl,hl⟩
 ·rintro y bn r' s' ⟨rfl,hr,hy⟩
  have tl:∀z∈bn,∃d' v',Rep X.K ρ H d' v'/\bi v' z/\eU n d'=true:=λz hz=>hy z (AA9 _ hz)
  #⟨d',v',r1,r2,kd'⟩:=hy y AAI
  dsimp only
  !ABc (λ_=>AA3 ⟨rfl,rfl,tl⟩) λ_=>?_
  !AA0 (Da sm n 8 A _ d v u _ _ hn I r rv kd ?_)
  simp only[AC8,AAF,if_false]
  !AA0 (Da sm n 8 A _ d' v' y _ _ hn I r1 r2 kd' ?_)
  simp only[AC8,AAF,if_false]
  !AA0 (Ol sm n 8 A _ d v u _ _ hn I r rv kd ?_)
  simp only[AAF,if_false]
  !AA0 (Ol sm n 8 A _ d' v' y _ _ hn I r1 r2 kd' ?_)
  simp only[AAF,if_false]
  ~AA3 ⟨rfl,rfl,tl⟩
 ·rintro⟨r1,r2⟩ s' ⟨rfl,hr,_⟩
  simp only at hr
  subst hr
  ~AA3 h
¶Gc(sm:Sim X.K ρ M H)(I:Inv X pins σ H s)(hn:n<=8)(hu:A.units+n<cLine)(S:KSet X ρ H s.heap a n ds o es ep t){d:D}{v:V}{u:Value}(r:Rep X.K ρ H d v)(rv:bi v u)(kd:eU n d=true){Q:SetFound->Shared->Prop}
  (hthere:d∈ds->Q (.there none) s) {N:Nat} (hN1:N<10*(t.mask+15)) (hN2:(Ht.sq t.mask (hkD X.w n d) N).j∉t.place.toList) (hN3:∀k,k<N->(Ht.sq t.mask (hkD X.w n d) k).j∈t.place.toList)
  (hfree:d∉ds->Q (.free (Ht.sq t.mask (hkD X.w n d) N).j false) s) :
  ∀(fuel m:Nat) (stand:Option ACX),m<=N->N<m+fuel->stand.getD (t.probeStart (hkD X.w n d))=Ht.sq t.mask (hkD X.w n d) m->(∀k i:Nat,k<m->t.place[i]?=some (Ht.sq t.mask (hkD X.w n d) k).j->ds[i]?≠some d) ->
   wpAny (model X.prog X.w) A (setSearchFrom a u (hkD X.w n d) true fuel stand) Q E s:=by
 intro fuel
 induction fuel with
 | zero=>intro m stand h1 h2;&
 | succ fuel ih =>
  intro m stand h1 h2 hs hb
  unfold setSearchFrom
  !AA0 (ABJ S.ob S.dt S.fits ?_)
  dsimp only
  have gw:t.gaveWay=false:=by
   unfold SetTable.gaveWay
   rcases S.tk.msk with e | e | e<;>rw[e]<;>rfl
  rw[gw]
  simp only[AAF,if_false]
  rw[hs]
  rcases Ht.go_spec S.tk.ris S.tk.nod (λi=>(es[i]?.map (·.1)).getD 0) (hkD X.w n d) (10*ADI t.mask) m N h1 (by unfold ADI;&) hN2 (λk _ hk=>hN3 k hk) (Ht.sq_dummy _ _)with⟨z1,z2⟩|⟨m',i,a1,a2,a3,a4,a5,a6⟩
  ·generalize hpr:SetTable.probe t _ (hkD X.w n d) (Ht.sq t.mask (hkD X.w n d) m)=pr
   obtain rfl:pr=_:=hpr.symm.trans z2
   dsimp only
   !AA3 (hfree λhd=>?_)
   #⟨i,hi⟩:=AAv hd
   #⟨e,he,_,eh,_⟩:=jO S.en hi
   have he':es[i]?=some e:=by rw[←AAV];~he
   have hh:(es.toList.map (·.1))[i]?=some (hkD X.w n d):=by rw[AAU,he];~congrArg some eh
   have hl:i<t.place.size:=by rw[S.tk.len];~(AA2.mp hh).1
   #⟨ni,b1,b2⟩:=S.tk.path i _ t.place[i] hh (AAS hl)
   have hlt:ni<N:=by
    rcases ACd ni N with q | q | q
    ·~q
    ·subst q
     ~absurd (show (Ht.sq t.mask (hkD X.w n d) ni).j∈t.place.toList by rw[b1];simp) hN2
    ·~absurd (b2 N q) hN2
   have hp:t.place[i]?=some (Ht.sq t.mask (hkD X.w n d) ni).j:=by rw[b1];~AAS hl
   rcases AC0 ni m with q | q
   ·~hb ni i q hp hi
   ·!z1 ni i q hlt hp ?_
    rw[he']
    ~eh
  ·generalize hpr:SetTable.probe t _ (hkD X.w n d) (Ht.sq t.mask (hkD X.w n d) m)=pr
   obtain rfl:pr=_:=hpr.symm.trans a6
   dsimp only
   have hil:i<es.size:=by
    have:=(AAy.mp a3).1
    rw[S.tk.len,AA6,AAO]at this
    ~this
   have hei:es[i]?=some es[i]:=AAS hil
   #⟨d0,hd0,⟨v0,r0,rv0⟩,eh0,kd0,it0⟩:=jp S.en (i:=i) (y:=es[i]) (by rw[AAV];~hei)
   have seen:∀(f:Bool->Sem SetFound),wpAny (model X.prog X.w) A (f false) Q E s->wpAny (model X.prog X.w) A (searchCouldBeSeen u ((es.filter (·.1==hkD X.w n d)).toList.map (·.2)) >>= f) Q E s:=λf hf=>by
    !AA0 (FU sm I hn r rv kd hf _ λy hy=>?_)
    #⟨e,he,rfl⟩:=AAN.mp hy
    have he2:e∈es.toList:=by
     have:e∈es.filter (·.1==hkD X.w n d):=by simpa using he
     simpa using(Array.mem_filter.mp this).1
    #⟨j,hj⟩:=AAv he2
    #⟨d1,_,⟨v1,r1,rv1⟩,_,kd1,_⟩:=jp S.en hj
    ~⟨d1,v1,r1,rv1,kd1⟩
   have hbv:∃b,es[i].2=AB3 b:=by
    cases r0 with
    | tup _ _=>~⟨_,rv0⟩
    | _=>cases it0
   #⟨b,hbv⟩:=hbv
   have heq:ACp A s es[i].2 u (eqD M n d0 d):=(oQ I sm n A d0 d v0 v es[i].2 u hu r0 rv0 r rv (yk n d0 kd0) (yk n d kd)).1
   !ABc (λ_=>seen _ ?_) λ_=>?_
   ·simp only[AAF,if_false]
    rw[hei]
    dsimp only
    !AA0 (AAp (heq _ _ _ _ (AA0 (ABJ S.ob S.dt S.fits ?_))))
    dsimp only
    by_cases hq:eqD M n d0 d=true
    ·rw[hq]
     simp only[Bool.and_self,if_true]
     have:d0=d:=(kU n d0 d kd0 kd).mp hq
     subst this
     ~AA3 (hthere (AAu hd0))
    ·rw[ABs.mpr hq]
     simp only[ADw,AAF,if_false]
     have sm':t.sameMemory t.moves t.mask=some true:=by unfold SetTable.sameMemory;simp
     rw[sm']
     dsimp only
     simp only[if_true]
     rw[Ht.slot_live S.tk.ris a3]
     dsimp only
     rw[hei]
     have sam:wpAny (model X.prog X.w) A (isSame es[i].2 es[i].2) (λb s'=>b=true/\s'=s) E s:=by
      unfold isSame
      rw[hbv]
      simp only[beq_self_eq_true,if_true]
      ~AA3 (And.intro rfl rfl)
     !AA0 (ABi sam (λb s' ⟨e1,e2⟩=>?_) λ_ _ z=>z)
     subst e1 e2
     !AA0 (AA3 ?_)
     simp only[if_true]
     !ih (m'+1) _ ¤ ¤ rfl λk i' hk hp hds=>?_
     rcases AC0 k m with q | q
     ·~hb k i' q hp hds
     ·rcases AC0 k m' with q' | q'
      ·!a5 k i' q q' hp ?_
       #⟨e,he,_,eh,_⟩:=jO S.en hds
       have he':es[i']?=some e:=by rw[←AAV];~he
       rw[he'];~eh
      ·have:k=m':=¤
       subst this
       have:i'=i:=by rw[←Ht.below_at S.tk.ris hp,Ht.below_at S.tk.ris a3]
       subst this
       rw[hd0]at hds
       cases hds
       ~hq ((kU n d d kd kd).mpr rfl)
   ·rw[hei]
    dsimp only
    !AA0 (AAp (heq _ _ _ _ (AA0 (ABJ S.ob S.dt S.fits ?_))))
    dsimp only
    by_cases hq:eqD M n d0 d=true
    ·rw[hq]
     simp only[Bool.and_self,if_true]
     have:d0=d:=(kU n d0 d kd0 kd).mp hq
     subst this
     ~AA3 (hthere (AAu hd0))
    ·rw[ABs.mpr hq]
     simp only[ADw,AAF,if_false]
     have sm':t.sameMemory t.moves t.mask=some true:=by unfold SetTable.sameMemory;simp
     rw[sm']
     dsimp only
     simp only[if_true]
     rw[Ht.slot_live S.tk.ris a3]
     dsimp only
     rw[hei]
     have sam:wpAny (model X.prog X.w) A (isSame es[i].2 es[i].2) (λb s'=>b=true/\s'=s) E s:=by
      unfold isSame
      rw[hbv]
      simp only[beq_self_eq_true,if_true]
      ~AA3 (And.intro rfl rfl)
     !AA0 (ABi sam (λb s' ⟨e1,e2⟩=>?_) λ_ _ z=>z)
     subst e1 e2
     !AA0 (AA3 ?_)
     simp only[if_true]
     !ih (m'+1) _ ¤ ¤ rfl λk i' hk hp hds=>?_
     rcases AC0 k m with q | q
     ·~hb k i' q hp hds
     ·rcases AC0 k m' with q' | q'
      ·!a5 k i' q q' hp ?_
       #⟨e,he,_,eh,_⟩:=jO S.en hds
       have he':es[i']?=some e:=by rw[←AAV];~he
       rw[he'];~eh
      ·have:k=m':=¤
       subst this
       have:i'=i:=by rw[←Ht.below_at S.tk.ris hp,Ht.below_at S.tk.ris a3]
       subst this
       rw[hd0]at hds
       cases hds
       ~hq ((kU n d d kd kd).mpr rfl)
end
end L2
namespace L2
open PySem PySem.Spec PyProof.Rows DL PySem.W
¶Paired.ins{α β:Type}{R:α->β->Prop}{x:α}{y:β}(r:R x y):∀{xs:List α}{ys:List β} (p:Nat),Paired R xs ys->Paired R (xs.take p++x::xs.drop p) (ys.take p++y::ys.drop p)
 | _,_,0,h=>by simpa using .cons r h
 | _,_,p+1,.nil=>.cons r .nil
 | _,_,p+1,.cons h t=>.cons h (Paired.ins r p t)
¶Paired.pick{α β:Type}{R:α->β->Prop}:∀{xs:List α}{ys:List β} (is:List Nat),Paired R xs ys->(∀i∈is,i<xs.length)->Paired R (is.filterMap (xs[·]?)) (is.filterMap (ys[·]?))
 | _,_,[],_,_=>.nil
 | xs,ys,i::is,h,hi=>by
  have hl:=hi i AAI
  have e:xs[i]?=some xs[i]:=AA7 hl
  #⟨y,hy,r⟩:=jO h e
  rw[ABq,ABq,e,hy]
  ~.cons r (Paired.pick is h λj hj=>hi j (AA9 _ hj))
¶qv{α:Type}{l:List α}{is:List Nat}(h:is.Perm (AAe l.length)):(is.filterMap (l[·]?)).Perm l:=by
 have:=h.filterMap (l[·]?)
 rwa [List.filterMap_getElem?_range_length]at this
section
variable{X:Cx}{pins:List (Addr×Obj)}{σ:St}{H:Hp}{ρ:List Addr}{M:Mem}{A:Around}{E:Value->Shared->Prop}{s:Shared}{a:Addr}{n:Nat}{ds:List D}{o:Obj}{es:Array (Int×Value)}{ep:Nat}{t:SetTable}
def KS(X:Cx)(ρ:List Addr)(H:Hp)(h:Heap)(a:Addr)(n:Nat)(ds:List D):Prop:=∃o es ep t,KSet X ρ H h a n ds o es ep t
set_option maxHeartbeats 1000000 in
¶add_D(sm:Sim X.K ρ M H)(I:Inv X pins σ H s)(hn:n<=8)(hu:A.units+n+1<cLine)(S:KS X ρ H s.heap a n ds)(h60:ds.length+1<=64){d:D}{v:V}{u:Value}(r:Rep X.K ρ H d v)(rv:bi v u)(kd:eU n d=true)(it:jX d=true){Q:Bool->Shared->Prop}
  (h:∀b h' tk ds',(∀c u,c≠a->s.heap.get? c=some u->h'.get? c=some u)->KS X ρ H h' a n ds'->(∀x,x∈ds'↔x∈ds\/x=d)->ds'.length<=ds.length+1->Q b { s with heap:=h',toks:=tk }) :
  wpAny (model X.prog X.w) A (setAdd a u) Q E s:=by
 #⟨o,es,ep,t,S⟩:=S
 obtain⟨ra,rfl⟩:∃ra,u=AB3 ra:=by
  cases r with
  | tup _ _=>~⟨_,rv⟩
  | _=>cases it
 unfold setAdd
 !AAp (AA0 (ND sm n A s d v _ _ _ ¤ I r rv kd λtk=>?_))
 unfold setAddHashed setAddHashedIn
 !AAp (AA0 (ABJ (s:={ s with toks:=tk }) S.ob S.dt S.fits ?_))
 dsimp only
 have bs:byScan (.ref ra) es=false:=rfl
 rw[bs]
 simp only[AAF,if_false]
 #⟨N,hN1,hN2,hN3⟩:=S.tk.empty (hkD X.w n d)
 have I1:Inv X pins σ H { s with toks:=tk }:=I.tok tk
 unfold setSearch
 !AA0 (Gc (s:={ s with toks:=tk }) sm I1 hn ¤ S r rv kd (λhd=>?_) hN1 hN2 hN3 (λhd=>?_) 100000 0 none (AAT _) ?_ rfl λk i hk=>absurd hk (ABy _))
 ·~AA3 (h _ s.heap tk ds (λ_ _ _ e=>e) ⟨o,es,ep,t,S⟩ (λx=>⟨.inl,λz=>z.elim id λe=>e ▸ hd⟩) (ADn _))
 ·dsimp only
  !AA0 (ABJ (s:={ s with toks:=tk }) S.ob S.dt S.fits ?_)
  dsimp only
  have len:=S.tk.len
  rw[AA6,AAO]at len
  have dl:ds.length=es.size:=by have:=AES S.en;simpa using this
  have fin:∀pl:Bool,wpAny (model X.prog X.w) A (do
    storeSet a (ADr es (t.put (Ht.sq t.mask (hkD X.w n d) N).j).2 (hkD X.w n d,AB3 ra)) { (t.put (Ht.sq t.mask (hkD X.w n d) N).j).1 with plain:=pl }
    if (!false&&({ (t.put (Ht.sq t.mask (hkD X.w n d) N).j).1 with plain:=pl }:SetTable).tooFull)=true then do
      setRelay a (ACq (es.size+1))
      pure true
     else pure true) Q E { s with toks:=tk }:=λpl=>by
   #⟨pb,T1⟩:=Ht.put_pre S.tk hN2 hN3 pl
   have ld1:({ (t.put (Ht.sq t.mask (hkD X.w n d) N).j).1 with plain:=pl }:SetTable).led=t.led:=rfl
   have mk1:({ (t.put (Ht.sq t.mask (hkD X.w n d) N).j).1 with plain:=pl }:SetTable).mask=t.mask:=rfl
   generalize ({ (t.put (Ht.sq t.mask (hkD X.w n d) N).j).1 with plain:=pl }:SetTable)=t1 at T1 ld1 mk1
   generalize (t.put (Ht.sq t.mask (hkD X.w n d) N).j).2=p at pb T1
   rw[AA6,AAO]at pb
   have e1:(ADr es p (hkD X.w n d,AB3 ra)).toList=es.toList.take p++(hkD X.w n d,AB3 ra)::es.toList.drop p:=SetTable.toList_insertAt ..
   generalize ADr es p (hkD X.w n d,AB3 ra)=es1 at e1
   have hs1:es1.toList.map (·.1)=(es.toList.map (·.1)).take p++hkD X.w n d::(es.toList.map (·.1)).drop p:=by rw[e1,ABR,AAL,List.map_take,List.map_drop]
   rw[←hs1]at T1
   have sz1:es1.size=es.size+1:=by
    have:=congrArg ACy e1
    rw[AAO,AA8,AAA,AAh,ABd,AAO]at this
    &
   have en1:Paired (Ent X ρ H n) (ds.take p++d::ds.drop p) es1.toList:=by
    rw[e1]
    ~Paired.ins ⟨⟨v,r,rv⟩,rfl,kd,it⟩ p S.en
   have pm:(ds.take p++d::ds.drop p).Perm (d::ds):=by
    !List.perm_middle.trans (AEN d ?_)
    rw[List.take_append_drop]
   have nd1:(ds.take p++d::ds.drop p).Nodup:=pm.nodup_iff.mpr (List.nodup_cons.mpr ⟨hd,S.nd⟩)
   have fit1:t1.fits es1.size=true:=by
    have l1:=T1.len
    rw[AA6,AAO]at l1
    have h3:t1.fill=t1.place.size:=by unfold AEV;rw[T1.nod];rfl
    have fw:=S.tk.few
    unfold ADd
    rw[h3]
    simp only[AAD,beq_iff_eq,decide_eq_true_eq]
    rw[len]at fw
    rcases S.tk.msk with e | e | e<;>rw[mk1,e]<;>rw[e]at fw<;>&
   have zz:es1.size<=sizeLine:=by rw[ABm];&
   !AA0 (wpAny_storeSet_of (s:={ s with toks:=tk }) S.ob S.dt ?_ zz)
   have ob1:(s.heap.update a (AER es1 t1)).get? a=some { o with data:=.set es1 (ep+1) t1 }:=by
    have q:=AAZ (AER es1 t1) S.ob (by rw[putSet_of es1 t1 S.dt];rfl)
    rwa [putSet_of es1 t1 S.dt]at q
   have oth:∀c u,c≠a->s.heap.get? c=some u->(s.heap.update a (AER es1 t1)).get? c=some u:=λc u hc e=>(ABE _ _ (AAz hc)).trans e
   by_cases tf:t1.tooFull=true
   ·rw[tf]
    simp only[Bool.not_false,Bool.and_self,if_true]
    have hbd:((es1.toList.map (·.1)).length-1)*5<t1.mask*3:=by
     have fw:=S.tk.few
     rw[len]at fw
     rw[AA6,AAO,sz1,mk1]
     simpa using fw
    #⟨zl,t2,ord,g1,g2,T2,ld2⟩:=T1.anew tf hbd (by rw[AA6,AAO];&)
    rw[AA6,AAO]at g2 zl
    have eg:ACq (es.size+1)=ACq (es1.toList.map (·.1)).length:=by rw[AA6,AAO,sz1]
    unfold setRelay
    !AA0 (AA0 (ABJ (s:={ s with heap:=_,toks:=tk }) ob1 rfl fit1 ?_))
    dsimp only
    rw[eg]
    have nz:¬AEL (ACq (es1.toList.map (·.1)).length) > sizeLine:=by
     rw[AA6,AAO];&
    simp only[nz,if_false]
    have ea:es1.map (·.1)=(es1.toList.map (·.1)).toArray:=by apply Array.ext';simp
    rw[ea,g1]
    have es2:(ord.filterMap (es1[·]?)).toList=ord.toList.filterMap (es1.toList[·]?):=by
     rw[Array.toList_filterMap]
     congr 1
     funext i
     rw[AAV]
    have sz2:(ord.filterMap (es1[·]?)).size=es1.size:=by
     have:=(qv (l:=es1.toList) (is:=ord.toList) (by rw[AAO];~g2)).length_eq
     rw[←es2,AAO,AAO]at this
     ~this
    !AA0 (show wpAny (model X.prog X.w) A (if ((ord.filterMap (es1[·]?)).size != es1.size)=true then _ else pure (ord.filterMap (es1[·]?),t2)) _ _ _ from ?_)
    rw[if_neg (by rw[sz2];simp)]
    !AA3 ?_
    generalize ord.filterMap (es1[·]?)=es2' at es2 sz2
    have pm2:(ord.toList.filterMap ((ds.take p++d::ds.drop p)[·]?)).Perm (ds.take p++d::ds.drop p):=qv (by
     have:(ds.take p++d::ds.drop p).length=es1.size:=by rw[pm.length_eq,AAA,dl,sz1]
     rw[this];~g2)
    !wpAny_storeSet_of (s:={ s with heap:=_,toks:=tk }) ob1 rfl ?_ (by rw[sz2];~zz)
    have ob2:((s.heap.update a (AER es1 t1)).update a (AER es2' t2)).get? a=some { o with data:=.set es2' (ep+1+1) t2 }:=by
     have q:=AAZ (AER es2' t2) ob1 (by rw[putSet_of es2' t2 (es:=es1) (ep:=ep+1) (t:=t1) rfl];rfl)
     rwa [putSet_of es2' t2 (es:=es1) (ep:=ep+1) (t:=t1) rfl]at q
    !AA3 (h _ _ tk (ord.toList.filterMap ((ds.take p++d::ds.drop p)[·]?)) (λc u hc e=>(ABE _ _ (AAz hc)).trans (oth c u hc e)) ⟨_,es2',_,t2,ob2,S.ex,rfl,?_,pm2.nodup_iff.mpr nd1,?_,ld2.trans (ld1.trans S.ld)⟩ (λx=>?_) ?_)
    ·rw[es2]
     !Paired.pick _ en1 λi hi=>?_
     have:=g2.mem_iff.mp hi
     rw[AAo]at this
     rw[pm.length_eq,AAA,dl,←sz1]
     ~this
    ·have e2:es2'.toList.map (·.1)=ord.toList.map λi=>(es1.toList.map (·.1)).getD i 0:=by
      rw[es2]
      have:∀(is:List Nat),(∀i∈is,i<es1.toList.length)->(is.filterMap (es1.toList[·]?)).map (·.1)=is.map λi=>(es1.toList.map (·.1)).getD i 0:=by
       intro is
       induction is with
       | nil=>intro _;rfl
       | cons i is ih =>
        intro hi
        have hl:=hi i AAI
        rw[ABq,AA7 hl,AAL,AAL,ih λj hj=>hi j (AA9 _ hj)]
        congr 1
        rw[AAP,AAU,AA7 hl]
        rfl
      !this _ λi hi=>?_
      have:=g2.mem_iff.mp hi
      rw[AAo]at this
      rw[AAO];~this
     rw[e2]
     ~T2
    ·rw[pm2.mem_iff,pm.mem_iff,AAH]
     ~⟨λz=>z.symm,λz=>z.symm⟩
    ·rw[pm2.length_eq,pm.length_eq];~AAC _
   ·rw[ABs.mpr tf]
    simp only[ADw,AAF,if_false]
    !AA3 (h _ _ tk _ oth ⟨_,es1,_,t1,ob1,S.ex,rfl,en1,nd1,T1.ok (ABs.mpr tf),ld1.trans S.ld⟩ (λx=>?_) ?_)
    ·rw[pm.mem_iff,AAH]
     ~⟨λz=>z.symm,λz=>z.symm⟩
    ·rw[pm.length_eq];~AAC _
  !ABc (λ_=>AA0 (hbv_D sm n 8 A _ d v _ _ _ hn I1 r rv kd λb=>?_)) λ_=>?_
  ·cases b with
   | true=>~fin (t.put (Ht.sq t.mask (hkD X.w n d) N).j).1.plain
   | false=>~fin false
  ·~fin (t.put (Ht.sq t.mask (hkD X.w n d) N).j).1.plain
 ·have:=hN1
  rcases S.tk.msk with e | e | e<;>rw[e]at this<;>&
end
end L2
namespace L2
open PySem PySem.Spec PyProof.Rows DL PySem.W
section
variable{X:Cx}{pins:List (Addr×Obj)}{σ:St}{H:Hp}{ρ:List Addr}{M:Mem}{A:Around}{E:Value->Shared->Prop}{s:Shared}{n:Nat}
¶KS.at{h h':Heap}{a:Addr}{ds:List D}(x:KS X ρ H h a n ds)(k:∀o,h.get? a=some o->h'.get? a=some o):KS X ρ H h' a n ds:=by
 #⟨o,es,ep,t,S⟩:=x
 ~⟨o,es,ep,t,k _ S.ob,S.ex,S.dt,S.en,S.nd,S.tk,S.ld⟩
¶Ko(sm:Sim X.K ρ M H)(I:Inv X pins σ H s)(hn:n<=8)(hu:A.units+n+2<cLine){R:Result->Shared->Prop}{J:Addr}{fp wr:List Addr}{m:Nat}{P:Nat->Value->Prop}{Sx:Nat->Heap->Prop}(W:Walks X.prog X.w A.in1 J fp wr m P Sx)(S:Addr)(hSf:S∉fp)
  (hS0:s.heap.get? S=none) (hw0:∀b∈wr,s.heap.get? b=none) (val:Nat->D) (hval:∀i v,P i v->∃vv,Rep X.K ρ H (val i) vv/\bi vv v/\eU n (val i)=true/\jX (val i)=true) (hb:m<=63) :
  ∀(k i:Nat) (h:Heap) (tk:Nat) (ds:List D),m-i=k->i<=m->Sx i h->KS X ρ H h S n ds->(∀x,x∈ds↔∃j,j<i/\val j=x)->ds.length<=i->(∀b u,s.heap.get? b=some u->h.get? b=some u) ->
   (∀h' tk ds',(∀b u,s.heap.get? b=some u->h'.get? b=some u)->KS X ρ H h' S n ds'->(∀x,x∈ds'↔∃j,j<m/\val j=x)->ds'.length<=m->R (.ok (.ret .none)) { s with heap:=h',toks:=tk }) ->
   codeAny (model X.prog X.w) A (.builtin "set.update.loop" ⟨[.ref S,.ref J],[]⟩) R { s with heap:=h,toks:=tk }:=by
 have hSw:S∉wr:=λh=>hSf (W.sub _ h)
 intro k
 induction k with
 | zero =>
  intro i h tk ds hk hi hst hS hm hl hold hR
  obtain rfl:i=m:=¤
  !ABW F.entry_set_update_loop ?_
  rw[AB9 F.plain_set_update_loop _]
  !(show wpAny (model X.prog X.w) A.in1 (pyNext (.ref J) >>= _) _ _ _ from AA0 (W.done _ _ _ hst λh' tk hk'=>?_))
  !AA3 (hR h' tk ds (λb u e=>hk' b u (λz=>by rw[hw0 b z]at e;cases e) (hold b u e)) (hS.at λo e=>hk' S o hSw e) hm hl)
 | succ k ih =>
  intro i h tk ds hk hi hst hS hm hl hold hR
  !ABW F.entry_set_update_loop ?_
  rw[AB9 F.plain_set_update_loop _]
  !(show wpAny (model X.prog X.w) A.in1 (pyNext (.ref J) >>= _) _ _ _ from AA0 (W.item i _ _ _ ¤ hst λv h' tk hP hst' hk'=>?_))
  #⟨vv,r,rv,kd,it⟩:=hval i v hP
  have old':∀b u,s.heap.get? b=some u->h'.get? b=some u:=λb u e=>hk' b u (λz=>by rw[hw0 b z]at e;cases e) (hold b u e)
  have I':Inv X pins σ H { s with heap:=h',toks:=tk }:=I.kept old'
  !AA0 (AAp (add_D (s:={ s with heap:=h',toks:=tk }) sm I' hn (by show A.units+1+n+1<cLine;&) (hS.at λo e=>hk' S o hSw e) ¤ r rv kd it λb h2 tk2 ds2 k2 hS2 hm2 hl2=>?_))
  !AA3 ⟨ABv F.plain_set_update_loop _,ih (i+1) h2 tk2 ds2 ¤ ¤ (W.frame _ h' h2 hst' λb' hb' o e=>k2 b' o (λz=>hSf (z ▸ hb')) e) hS2 (λx=>?_) ¤ (λb u e=>k2 b u (λz=>by rw[z,hS0]at e;cases e) (old' b u e)) hR⟩
  rw[hm2,hm]
  constructor
  ·rintro(⟨j,hj,e⟩ | rfl)
   ·~⟨j,¤,e⟩
   ·~⟨i,¤,rfl⟩
  ·rintro⟨j,hj,rfl⟩
   by_cases q:j=i
   ·subst q;~.inr rfl
   ·~.inl ⟨j,¤,rfl⟩
¶GX{h:Heap}{a:Addr}(e:h.get? a=some (bC X.w)):KS X ρ H h a n [] :=
 ⟨_,#[],0,_,e,⟨rfl,rfl,rfl⟩,rfl,.nil,ADJ,⟨.inl rfl,rfl,rfl,ADm,λj hj=>by simp[SetTable.fresh]at hj,(by show 0*5<7*3;decide),λi h j hh=>by simp at hh⟩,rfl⟩
end
end L2
namespace L2
open PySem PySem.Spec PyProof.Rows DL PySem.W
section
variable{X:Cx}{pins:List (Addr×Obj)}{σ:St}{H:Hp}{ρ:List Addr}{M:Mem}{A:Around}{E:Value->Shared->Prop}{s:Shared}{m:Nat}
¶Ky(sm:Sim X.K ρ M H)(I:Inv X pins σ H s)(hm8:m<=8)(hu:A.units+m+3<cLine){l:Addr}{T:String}{n:Nat}{P:Nat->Value->Prop}{G:Shared->Prop}(hh:A.handled=none)(K:TxSrc X.prog X.w s.heap l T n P)(val:Nat->D)(hval:∀i v,P i v->∃vv,Rep X.K ρ H (val i) vv/\bi vv v/\eU m (val i)=true/\jX (val i)=true)(hb:n<=63)
  (h:∀h' tk ds,(∀b o,s.heap.get? b=some o->h'.get? b=some o)->KS X ρ H h' s.heap.objs.size m ds->(∀x,x∈ds↔∃j,j<n/\val j=x)->ds.length<=n->G { s with heap:=h',toks:=tk }) :
  wpAny (model X.prog X.w) A (Builtin.«set.__init__» ⟨[.ref s.heap.objs.size,.ref l],[]⟩) (λfin s'=>fin=.done (.ret .none)/\G s') E { s with heap:=s.heap.push (bC X.w) }:=by
 have hS:(s.heap.push (bC X.w)).get? s.heap.objs.size=some (bC X.w):=AAE _ rfl
 have hT:AD6 { s with heap:=s.heap.push (bC X.w) } (.ref s.heap.objs.size) "set":=⟨_,hS,rfl⟩
 #⟨ol,hol,hcl⟩:=K.obj
 have hol':(s.heap.push (bC X.w)).get? l=some ol:=AA4 _ hol
 have hTl:AD6 { s with heap:=s.heap.push (bC X.w) } (.ref l) T:=⟨ol,hol',hcl⟩
 have ll:l<s.heap.objs.size:=AAG hol
 have sz:(s.heap.push (bC X.w)).objs.size=s.heap.objs.size+1:=AB1 ..
 #⟨oI,St,hit,W,st⟩:=K.iter A.in1 { s with heap:=s.heap.push (bC X.w) } hh λo e=>AA4 _ e
 have ns:=K.ns
 have nf:=K.nf
 have nd:=K.nd
 unfold Builtin.«set.__init__» noKeywords Builtin.Frozenset.updateFrom
 generalize hPI:pyIter=PI
 wp_walk
 subst hPI
 !wpAny_of_in1 (hit _ _ ?_)
 have hSf:s.heap.objs.size∉[(s.heap.push (bC X.w)).objs.size,l]:=by
  rw[sz]
  simp only[AAH,AAf,or_false,not_or]
  ~⟨AAQ (AB6 _),ABU ll⟩
 have hS0:s.heap.get? s.heap.objs.size=none:=by
  cases q:s.heap.get? s.heap.objs.size with
  | none=>rfl
  | some o=>~absurd (AAG q) (AAq _)
 have hw0:∀b∈[(s.heap.push (bC X.w)).objs.size],s.heap.get? b=none:=λb hb'=>by
  rw[AAY.mp hb',sz]
  cases q:s.heap.get? (s.heap.objs.size+1) with
  | none=>rfl
  | some o=>~absurd (AAG q) (AD4.mpr (ADn _))
 !AA0 (wpAny_runValue (Ko (s:=s) sm I hm8 (by first | ~(show A.units+m+2<cLine by &) | ~(show A.units+1+m+2<cLine by &)) W s.heap.objs.size hSf hS0 hw0 val hval hb n 0 _ _ [] rfl (AAT _) st (GX (AA4 _ hS)) (λx=>by simp) (AAC _) (λb u e=>AA4 _ (AA4 _ e)) λh' tk ks hk hks hm hl=>?_))
 ~AA3 (AA3 ⟨rfl,h h' tk ks hk hks hm hl⟩)
set_option maxHeartbeats 1000000 in
¶Lo(sm:Sim X.K ρ M H)(I:Inv X pins σ H s)(hm8:m<=8)(hu:A.units+m+20<cLine){l:Addr}{T:String}{n:Nat}{P:Nat->Value->Prop}{Q:Value->Shared->Prop}(hh:A.handled=none)(K:TxSrc X.prog X.w s.heap l T n P)(val:Nat->D)(hval:∀i v,P i v->∃vv,Rep X.K ρ H (val i) vv/\bi vv v/\eU m (val i)=true/\jX (val i)=true)(hb:n<=63)
  (h:∀h' tk ds,(∀b o,s.heap.get? b=some o->h'.get? b=some o)->KS X ρ H h' s.heap.objs.size m ds->(∀x,x∈ds↔∃j,j<n/\val j=x)->ds.length<=n->Q (.ref s.heap.objs.size) { s with heap:=h',toks:=tk }) :
  wpAny (model X.prog X.w) A (call (.type "set") [.ref l]) Q E s:=by
 have fm:=F.called_set.made
 have fs:=F.called_set.sub
 have fn:=F.called_set.notType
 have fc:=F.called_set.canCreate
 have ft:=F.typeCall_set_1 (.ref l)
 #⟨c,tl,fo⟩:=F.called_set.mro
 !wpAny_call (codeAny_of_tree (show wpAny _ _ (callAny (.type "set") _) _ _ _ from AA3 ⟨Code.quiet_builtin _ (by decide +kernel),ABW F.entry_type_call ?_⟩))
 rw[Around.under_plain (weight_type_call_type "set" [.ref l] []) rfl]
 repeat (any_goals (first | assumption | wp_step))
 !ADR (yQ (.ref l) (E:=E) (Q₁:=λobj s₁=>obj=.ref s.heap.objs.size/\s₁={ s with heap:=s.heap.push (bC X.w) }) ⟨rfl,rfl⟩) λr s₁ hr=>?_
 match r,hr with
 | .error e,hr=>~hr
 | .ok (.ret obj),⟨e1,e2⟩ =>
  subst e1 e2
  have hS:(s.heap.push (bC X.w)).get? s.heap.objs.size=some (bC X.w):=AAE _ rfl
  have hT:AD6 { s with heap:=s.heap.push (bC X.w) } (.ref s.heap.objs.size) "set":=⟨_,hS,rfl⟩
  have fl:=F.called_set.init.lookup
  have fb:=F.called_set.init.bind (.ref s.heap.objs.size)
  repeat (any_goals (first | assumption | wp_step))
  !ADR (codeAny_call_builtin (R:=wants (λr s₂=>r=.none/\Q (.ref s.heap.objs.size) s₂) E) F.called_set.init.plain F.entry_set_init (check_set_init_1 hT ?_)) λr₂ s₂ hr₂=>?_
  ·!ABi (Ky (G:=λs2=>Q (.ref s.heap.objs.size) s2) sm I hm8 (by first | (show A.units+1+1+1+m+3<cLine;&) | (show A.units+1+1+m+3<cLine;&) | (show A.units+1+m+3<cLine;&)) (by simp[hh]) K val hval hb h) (λfin s' ⟨e,g⟩=>?_) λ_ _ z=>z
   subst e
   ~⟨rfl,g⟩
  ·match r₂,hr₂ with
   | .error e,hr₂=>~hr₂
   | .ok (.ret r),⟨e,q⟩ =>
    subst e
    repeat (any_goals (first | assumption | wp_step))
end
end L2
namespace L2
open PySem PySem.Spec PyProof.Rows DL PySem.W
def LF(M:Mem)(d:D)(xs:List D):Prop:=(∃n,d=.ref n/\aA M n xs)\/d=.tup xs
¶SrtOk.sub{M:Mem}{xs ys:List D}(h:SrtOk M xs)(s:∀y∈ys,y∈xs)(l:ys.length<64):SrtOk M ys:=by
 !⟨l,λx hx=>h.ok x (s x hx),λx hx y hy=>h.cm x (s x hx) y (s y hy),?_⟩
 rcases h.kd with k | k | k | k | k
 ·~.inl λx hx=>k x (s x hx)
 ·~.inr (.inl λx hx=>k x (s x hx))
 ·~.inr (.inr (.inl λx hx=>k x (s x hx)))
 ·~.inr (.inr (.inr (.inl λx hx=>k x (s x hx))))
 ·~.inr (.inr (.inr (.inr λx hx=>k x (s x hx))))
section
variable{X:Cx}{e:Expr}{te:DTE}{p p' pos pos':Pos}{k:Nat}
¶LS{pins:List (Addr×Obj)}{σ:St}{H:Hp}{s:Shared}{ρ:List Addr}{M:Mem}{d:D}{v:V}{u:Value}{xs:List D}(I:Inv X pins σ H s)(sm:Sim X.K ρ M H)(r:Rep X.K ρ H d v)(rv:bi v u)(t:LF M d xs) :
  ∃(a:Addr) (T:String) (its:Array Value) (vs:List V),u=.ref a/\TxSrc X.prog X.w s.heap a T its.size (λi v=>its[i]?=some v)/\Reps X.K ρ H xs vs/\aL vs its.toList:=by
 rcases t with⟨n,rfl,hL⟩ | rfl
 ·cases r with
  | @ref _ a ha =>
   cases rv
   #⟨vs,hs,rr⟩:=hL.seq sm ha
   #⟨its,r2,p,_⟩:=I.list hs
   ~⟨a,_,its.toArray,vs,rfl,TxSrc.list p.isList,rr,by simpa using r2⟩
 ·cases r with
  | @tup a vs _ hs rr =>
   cases rv
   #⟨its,r2,p,_⟩:=I.tuple hs
   ~⟨a,_,its.toArray,vs,rfl,TxSrc.tuple p,rr,by simpa using r2⟩
¶wX:∀{ds:List D}{vs:List V}{its:List Value}{i:Nat}{u:Value}{ρ:List Addr}{H:Hp},Reps X.K ρ H ds vs->aL vs its->its[i]?=some u->∃d v,ds[i]?=some d/\Rep X.K ρ H d v/\bi v u
 | _,_,_,i,u,_,_,.nil,h,e=>by cases h;simp at e
 | _,_,_,0,u,_,_,.cons r _,h,e=>by
  cases h with
  | cons a _=>simp at e;subst e;~⟨_,_,rfl,r,a⟩
 | _,_,_,i+1,u,_,_,.cons _ t,h,e=>by
  cases h with
  | cons _ b =>
   #⟨d,v,e1,r,rv⟩:=wX (i:=i) t b (by simpa using e)
   ~⟨d,v,by simpa using e1,r,rv⟩
¶ents{ρ:List Addr}{H:Hp}{n:Nat}:∀{ds:List D}{es:List (Int×Value)},Paired (Ent X ρ H n) ds es->∃vs,Reps X.K ρ H ds vs/\aL vs (es.map (·.2))
 | _,_,.nil=>⟨[],.nil,.nil⟩
 | _,_,.cons ⟨⟨v,r,rv⟩,_⟩ t=>by
  #⟨vs,a,b⟩:=ents t
  ~⟨v::vs,.cons r a,.cons rv b⟩
¶Do{ρ:List Addr}{H:Hp}{us us':List Value}(p:us'.Perm us):∀{ds:List D}{vs:List V},Reps X.K ρ H ds vs->aL vs us->∃ds' vs',ds'.Perm ds/\Reps X.K ρ H ds' vs'/\aL vs' us':=by
 induction p with
 | nil=>intro ds vs r h;~⟨ds,vs,.refl _,r,h⟩
 | cons x _ ih =>
  intro ds vs r h
  cases h with
  | cons a b =>
   cases r with
   | cons c d =>
    #⟨ds',vs',h1,h2,h3⟩:=ih d b
    ~⟨_,_,h1.cons _,.cons c h2,.cons a h3⟩
 | swap x y l =>
  intro ds vs r h
  cases h with
  | cons a b =>
   cases b with
   | cons a2 b2 =>
    cases r with
    | cons c d =>
     cases d with
     | cons c2 d2=>~⟨_,_,.swap _ _ _,.cons c2 (.cons c d2),.cons a2 (.cons a b2)⟩
 | trans _ _ ih1 ih2 =>
  intro ds vs r h
  #⟨ds',vs',h1,h2,h3⟩:=ih2 r h
  #⟨ds2,vs2,g1,g2,g3⟩:=ih1 h2 h3
  ~⟨ds2,vs2,g1.trans h1,g2,g3⟩
end
end L2
namespace L2
open PySem PySem.Spec PyProof.Rows DL PySem.W
def kh(te:DTE):DTE:=λS M Q=>te S M λd M1=>∃n xs,n<=8/\LF M1 d xs/\xs.length<64/\(∀x∈xs,eU n x=true/\jX x=true)/\SrtOk M1 xs/\∀ys:List D,ys.Nodup->(∀x,x∈ys↔x∈xs)->BN M1 ys->Q (.ref M1.length) (M1++[.lst ys])
section
variable{X:Cx}{e:Expr}{te:DTE}{p p' pos pos':Pos}{k:Nat}
set_option maxHeartbeats 1000000 in
¶BB(hr:Room k X.A)(hc:X.calm=true)(he:DE X e te)(hm1:X.mg "sorted" = none)(hm2:X.mg "set" = none)(hg1:X.env.kindOf "sorted" = some .globalImplicit)(hg2:X.env.kindOf "set" = some .globalImplicit)
  (h1:starEach [e] X.env=[(false,eval e X.env)]) (h2:starEach [AEH (.Name "set" p') [e] [] pos'] X.env=[(false,eval (AEH (.Name "set" p') [e] [] pos') X.env)]) :
  DE X (.Call (.Name "sorted" p) [.Call (.Name "set" p') [e] [] pos'] [] pos) (kh te):=by
 intro pins s σ H R I ⟨S,M,ρ,Q,sm,sr,q,kk⟩
 !ACR (jU I hg1 hm1 (by rfl) ?_)
 !callWith_builtin1 ?_ (by rw[h2];rfl) rfl
 rw[h2]
 !ADW ?_
 !ACR (jU I hg2 hm2 (by rfl) ?_)
 !callWith_type1 ?_ (by rw[h1];rfl) rfl
 rw[h1]
 !ADW (thn (he pins s σ H _ I ⟨S,M,ρ,_,sm,sr,q,λv H' z=>z⟩) λu s1 ⟨v,H1,I1,rv,d,M1,ρ1,sm1,g1,r1,cases⟩=>?_)
 !ADk ?_
 #⟨n,xs,n8,sq,hl,hk,so,fin⟩:=cases
 #⟨a,T,its,ws,rfl,src,rps,vx⟩:=LS I1 sm1 r1 rv sq
 have li:its.size=xs.length:=by have h1:=vx.length;have h2:=rps.length;simp at h1;&
 have un:=hr.un
 !Lo sm1 I1 n8 ¤ (I1.ok.hd hc) src (λi=>xs.getD i .non) (λi v e=>?_) ¤ λh2 tk2 ds k2 kset hks hle=>?_
 ·#⟨d,vv,e1,r,rv⟩:=wX rps vx (by rw[AAV];~e)
  have ed:xs.getD i .non=d:=by rw[AAP,e1];rfl
  have:=hk d (AAu e1)
  ~⟨vv,by rw[ed];~r,rv,by rw[ed];~this.1,by rw[ed];~this.2⟩
 !ADk ?_
 have I2:=I1.kept (t':=tk2) k2
 #⟨o,es,ep,t,KSt⟩:=kset
 have lds:ds.length=es.size:=by have:=KSt.en.length;simpa using this
 have hz:es.size<=sizeLine:=by rw[ABm];&
 !AG (s:={ s1 with heap:=h2,toks:=tk2 }) (I2.ok.hd hc) ⟨KSt.ob,KSt.dt,KSt.fits⟩ KSt.ex.1 (λz=>.inr KSt.tk.ris) KSt.ld hz λh3 tk3 dr D vs k3 hD hD3 pv=>?_
 have hmem:∀x,x∈ds↔x∈xs:=λx=>by
  rw[hks x,li]
  constructor
  ·rintro⟨j,hj,rfl⟩
   have e:xs.getD j .non=xs[j]:=by simp[AEP,hj]
   rw[e]
   ~AAn hj
  ·intro hx
   #⟨j,hj,e⟩:=List.getElem_of_mem hx
   ~⟨j,hj,by rw[show xs.getD j .non=xs[j] by simp[AEP,hj]];~e⟩
 #⟨ws0,rp0,va0⟩:=ents KSt.en
 #⟨ds',ws',pd,rp1,va1⟩:=Do pv rp0 va0
 #⟨m,hn,_⟩:=I2.loc
 have hDL:D≠X.env.locals:=λz=>by
  #⟨oL,_,_,hL,_⟩:=hn
  rw[z]at hD
  rw[hD]at hL;cases hL
 have hn3:h3.Ns X.env.locals m:=hn.at' λo e=>k3 _ _ e
 !xr (X:=X) (pins:=pins) (σ:=σ) (s:={ s1 with heap:=h2,toks:=tk2,drawn:=dr }) (n:=0) hr (by show X.A.units+1<=X.A.units+4;&) I2.drew sm1 (so.sub (ys:=ds') (λy hy=>(hmem y).mp (pd.mem_iff.mp hy)) (by rw[pd.length_eq];&)).g rp1 va1 hn hn3 (λb u _ e=>k3 b u e) hD hDL hD3 λv H' x=>?_
 !kk v H' ?_
 have:=x (λd M'=>Q d M') λys hp hri=>?_
 ·#⟨d,M',ρ',a1,a2,a3,a4⟩:=this
  ~⟨d,M',ρ',a1,g1.trans a2,a3,a4⟩
 ·~fin ys ((hp.trans pd).nodup_iff.mpr KSt.nd) (λx=>((hp.trans pd).mem_iff).trans (hmem x)) hri
¶Bt(hr:Room k X.A)(he:HE X e te)(hm1:X.mg "sorted" = none)(hm2:X.mg "set" = none)(hc:X.calm=true:=by kernel_rfl)(hg1:X.env.kindOf "sorted" = some .globalImplicit:=by kernel_rfl)(hg2:X.env.kindOf "set" = some .globalImplicit:=by kernel_rfl)
  (h1:starEach [e] X.env=[(false,eval e X.env)]:=by kernel_rfl) (h2:starEach [AEH (.Name "set" p') [e] [] pos'] X.env=[(false,eval (AEH (.Name "set" p') [e] [] pos') X.env)]:=by kernel_rfl) :
  HE X (.Call (.Name "sorted" p) [.Call (.Name "set" p') [e] [] pos'] [] pos) (kh te):=⟨BB hr hc he.ok hm1 hm2 hg1 hg2 h1 h2⟩
end
end L2
namespace L2
open PySem PySem.Spec PyProof.Rows DL PySem.W
def il(h:Heap):Nat->D->Value->Prop
 | _,.str x,v=>∃t,v=.str x t
 | _,.int i,v=>∃t,v=.int i t
 | n+1,.tup ds,v=>∃a its,v=.ref a/\h.IsTuple a its/\Paired (il h n) ds its.toList
 | _,_,_=>False
def drD:Nat->D->Nat
 | n+1,.tup ds=>(ds.map (drD n)).sum+1
 | _,_=>1
¶jV{h:Heap}:∀(n:Nat) (d:D) (v:Value),il h n d v->eU n d=true:=by
 intro n
 induction n with
 | zero=>intro d v k;cases d<;>first | rfl | ~k.elim
 | succ n ih =>
  intro d v k
  cases d with
  | str x=>rfl
  | int x=>rfl
  | tup ds =>
   #⟨a,its,_,_,p⟩:=k
   show ds.all (eU n)=true
   generalize its.toList=l at p
   induction p with
   | nil=>rfl
   | cons r _ i2=>rw[ABF,ih _ _ r,i2];rfl
  | _=>~k.elim
¶yr{h:Heap}{a:Addr}{xs ys:Array Value}(h1:h.IsTuple a xs)(h2:h.IsTuple a ys):xs=ys:=by
 #⟨o,e1,_,n,d1⟩:=h1
 #⟨o',e2,_,n',d2⟩:=h2
 obtain rfl:o=o':=AAR (e1.symm.trans e2)
 rw[d1]at d2
 injection d2
¶vL{h:Heap}:∀(n:Nat) (x y:D) (v:Value),il h n x v->il h n y v->x=y:=by
 intro n
 induction n with
 | zero =>
  intro x y v k1 k2
  cases x with
  | str a =>
   #⟨t,rfl⟩:=k1
   cases y with
   | str b=>#⟨t',e⟩:=k2;injection e with e;rw[e]
   | int b=>#⟨t',e⟩:=k2;cases e
   | _=>~k2.elim
  | int a =>
   #⟨t,rfl⟩:=k1
   cases y with
   | str b=>#⟨t',e⟩:=k2;cases e
   | int b=>#⟨t',e⟩:=k2;injection e with e;rw[e]
   | _=>~k2.elim
  | _=>~k1.elim
 | succ n ih =>
  intro x y v k1 k2
  cases x with
  | str a =>
   #⟨t,rfl⟩:=k1
   cases y with
   | str b=>#⟨t',e⟩:=k2;injection e with e;rw[e]
   | int b=>#⟨t',e⟩:=k2;cases e
   | tup b=>#⟨_,_,e,_⟩:=k2;cases e
   | _=>~k2.elim
  | int a =>
   #⟨t,rfl⟩:=k1
   cases y with
   | str b=>#⟨t',e⟩:=k2;cases e
   | int b=>#⟨t',e⟩:=k2;injection e with e;rw[e]
   | tup b=>#⟨_,_,e,_⟩:=k2;cases e
   | _=>~k2.elim
  | tup xs =>
   #⟨a,its,rfl,t1,p1⟩:=k1
   cases y with
   | str b=>#⟨t',e⟩:=k2;cases e
   | int b=>#⟨t',e⟩:=k2;cases e
   | tup ys =>
    #⟨_,its',e,t2,p2⟩:=k2
    cases e
    #rfl:=yr t1 t2
    congr 1
    generalize its.toList=l at p1 p2
    induction p1 generalizing ys with
    | nil=>cases p2;rfl
    | cons r _ i2=>cases p2 with
     | cons r' t'=>rw[ih _ _ _ r r',i2 _ t']
   | _=>~k2.elim
  | _=>~k1.elim
¶Br{h h':Heap}(k:∀a its,h.IsTuple a its->h'.IsTuple a its):∀(n:Nat) (d:D) (v:Value),il h n d v->il h' n d v:=by
 intro n
 induction n with
 | zero=>intro d v q;cases d<;>first | ~q | ~q.elim
 | succ n ih =>
  intro d v q
  cases d with
  | str x=>~q
  | int x=>~q
  | tup ds =>
   #⟨a,its,e,t,p⟩:=q
   ~⟨a,its,e,k _ _ t,Paired.mapP p λx y r=>ih x y r⟩
  | _=>~q.elim
¶yo{h h':Heap}{n:Nat}{k:D}{v:Value}{d:Addr}{o:Obj}{es ep}(q:il h n k v)(ho:h.get? d=some o)(hd:o.data=.dict es ep)(hs:ABO d h h'):il h' n k v:=by
 !Br (λa its ⟨o',e,c,m,t⟩=>?_) n k v q
 have hne:a≠d:=by
  rintro rfl
  obtain rfl:o'=o:=AAR (e.symm.trans ho)
  rw[hd]at t;cases t
 ~⟨o',(hs.2 a hne).trans e,c,m,t⟩
section
variable{prog:Program}{w:World}
¶Bs:∀(n:Nat) (A:Around) (s:Shared) (d:D) (u:Value) (E:Value->Shared->Prop) (Q:Int->Shared->Prop),A.units+n<cLine->il s.heap n d u ->
  Q (hkD w n d) { s with toks:=s.toks+drD n d }->wpAny (model prog w) A (pyHash u) Q E s:=by
 intro n
 induction n with
 | zero =>
  intro A s d u E Q hu k h
  cases d with
  | str x=>#⟨t,rfl⟩:=k;~ADM h
  | int x=>#⟨t,rfl⟩:=k;~ADL h
  | _=>~k.elim
 | succ n ih =>
  intro A s d u E Q hu k h
  cases d with
  | str x=>#⟨t,rfl⟩:=k;~ADM h
  | int x=>#⟨t,rfl⟩:=k;~ADL h
  | tup ds =>
   #⟨a,its,rfl,⟨o,ho,hc,nn,hd⟩,p⟩:=k
   have hT:s.TypeIs (.ref a) "tuple":=⟨o,ho,hc⟩
   unfold pyHash
   first | unfold pyHashByItsType | skip
   first | !AA0 (wpAny_cRoomFor_or (.inr ¤) ?_) | skip
   !AA0 (ACD hT F.slot_tuple_hash.lookup ?_)
   !(show wpAny (model prog w) _ (if (some (Value.builtin "tuple.__hash__")==some ABb)=true then _ else _) Q E s from ?_)
   rw[if_neg (by rw[beq_builtin_none];~AAb)]
   !AA0 (ACD hT F.slot_tuple_hash.lookup ?_)
   !(show wpAny (model prog w) _ (callSpecialIfBoundUnlessNone? (.ref a) "__hash__" _ >>= _) Q E s from AA0 (ACx hT F.slot_tuple_hash (AAm F.slot_tuple_hash hT F.entry_tuple_hash ?_ (F.args_tuple_hash_1 _))))
   !(show wpAny (model prog w) _ (ACJ (.ref a) >>= _) _ _ s from AA0 (wpAny_tupleItemsOf ho hd (AA0 ?_)))
   rw[←ACT]
   !AC4 _ (λbn (b:Array Int) s'=>∃done left,ds=done++left/\Paired (il s.heap n) left bn/\b.toList=done.map (hkD w n)/\s'={ s with toks:=s.toks+(done.map (drD n)).sum }) _ ?_ ?_ _ _ ⟨[],ds,rfl,p,rfl,rfl⟩
   ·rintro x bn b s' ⟨done,left,e,h1,hb,rfl⟩
    cases h1 with
    | @cons d0 _ left' _ r0 t0 =>
     !AA0 (ih _ _ d0 x _ _ (by show A.units+1+n<cLine;&) r0 ?_)
     first
      | ~AA3 ⟨done++[d0],left',by rw[e];simp,t0,by simp[hb],by simp[Nat.add_assoc]⟩
      | ~AA0 (AA3 (AA3 ⟨done++[d0],left',by rw[e];simp,t0,by simp[hb],by simp[Nat.add_assoc]⟩))
   ·rintro b s' ⟨done,left,e,h1,hb,rfl⟩
    cases h1
    rw[ACa]at e
    subst e
    !(show wpAny (model prog w) _ (retInt (ABS b.toList)) _ _ _ from ?_)
    rw[hb]
    !wpAny_ret_mkInt ?_
    have key:hkD w (n+1) (.tup ds)=reduceHash (ABS (ds.map (hkD w n))):=rfl
    have h':Q (hkD w (n+1) (.tup ds)) { s with toks:=s.toks+(ds.map (drD n)).sum+1 }:=h
    generalize ABS (ds.map (hkD w n))=z at key
    !(show wpAny (model prog w) _ (if (decide (-(2:Int) ^ 63<=z)&&decide (z<2 ^ 63))=true then _ else _) Q E _ from ?_)
    unfold reduceHash at key
    by_cases hr:(decide (-(2:Int) ^ 63<=z)&&decide (z<2 ^ 63))=true
    ·rw[if_pos hr]at key ⊢
     ~AA3 (by rw[←key];~h')
    ·rw[if_neg hr]at key ⊢
     ~AA0 (ACL (AA3 (by rw[←key];~h')))
  | _=>~k.elim
¶yl:∀(n k:Nat) (A:Around) (s:Shared) (d:D) (u:Value) (E:Value->Shared->Prop) (Q:Bool->Shared->Prop),n<=k->il s.heap n d u->Q true s->wpAny (model prog w) A (eqIsQuiet k u) Q E s:=by
 intro n
 induction n with
 | zero =>
  intro k A s d u E Q hk q h
  cases d with
  | str x=>#⟨t,rfl⟩:=q;rw[ABt k (v:=.str x t) rfl];~AA3 h
  | int x=>#⟨t,rfl⟩:=q;rw[ABt k (v:=.int x t) rfl];~AA3 h
  | _=>~q.elim
 | succ n ih =>
  intro k A s d u E Q hk q h
  cases d with
  | str x=>#⟨t,rfl⟩:=q;rw[ABt k (v:=.str x t) rfl];~AA3 h
  | int x=>#⟨t,rfl⟩:=q;rw[ABt k (v:=.int x t) rfl];~AA3 h
  | tup ds =>
   #⟨a,its,rfl,⟨o,ho,hc,nn,hd⟩,p⟩:=q
   obtain⟨k,rfl⟩:∃k',k=k'+1:=⟨k-1,¤⟩
   have hT:s.TypeIs (.ref a) "tuple":=⟨o,ho,hc⟩
   unfold eqIsQuiet
   !AA0 (ACD hT F.slot_tuple_eq.lookup ?_)
   !(show wpAny (model prog w) A (isInstance (.ref a) (.type "tuple") >>= _) _ _ s from AA0 (ACO hT isSubtype_tuple_tuple ?_))
   simp only[AC8,AAF,if_false]
   !AA0 (ABM ho hd ?_)
   simp only[Option.getD_some]
   !AA0 ?_
   !(show wpAny (model prog w) A (forIn its _ _) _ _ s from ?_)
   rw[←ACT]
   !AC4 _ (λbn r s'=>r.1=none/\s'=s/\∃left,Paired (il s.heap n) left bn) _ ?_ ?_ _ _ ⟨rfl,rfl,ds,p⟩
   ·rintro x bn r s' ⟨hr,rfl,left,h1⟩
    cases h1 with
    | cons r0 t0 =>
     !AA0 (ih k _ _ _ x _ _ ¤ r0 ?_)
     simp only[AC8,AAF,if_false]
     ~AA3 ⟨rfl,rfl,_,t0⟩
   ·rintro⟨r1,r2⟩ s' ⟨hr,rfl,_⟩
    simp only at hr
    subst hr
    ~AA3 h
  | _=>~q.elim
¶lN{h:Heap}{n:Nat}{ds:List D}{its:Array Value}(p:Paired (il h n) ds its.toList):ds.length=its.size:=by
 rw[←AAO]
 generalize its.toList=l at p
 induction p with
 | nil=>rfl
 | cons _ _ ih=>rw[AAA,AAA,ih]
¶GZ:∀(n:Nat) (A:Around) (s:Shared) (x y:D) (u v:Value),A.units+n<cLine->il s.heap n x u->il s.heap n y v->ACp A s u v (eqD [] n x y):=by
 intro n
 induction n with
 | zero =>
  intro A s x y u v hu k1 k2
  cases x with
  | str a =>
   #⟨t,rfl⟩:=k1
   cases y with
   | str b=>#⟨t',rfl⟩:=k2;~ADZ _ _ _ _
   | int b=>#⟨t',rfl⟩:=k2;~ACt _ _ _ _
   | _=>~k2.elim
  | int a =>
   #⟨t,rfl⟩:=k1
   cases y with
   | str b=>#⟨t',rfl⟩:=k2;~ACs _ _ _ _
   | int b=>#⟨t',rfl⟩:=k2;~ACu _ _ _ _
   | _=>~k2.elim
  | _=>~k1.elim
 | succ n ih =>
  intro A s x y u v hu k1 k2
  have hu0:A.units<cLine:=¤
  have hu1:A.in1.units+n<cLine:=by show A.units+1+n<cLine;&
  cases x with
  | str a =>
   #⟨t,rfl⟩:=k1
   cases y with
   | str b=>#⟨t',rfl⟩:=k2;~ADZ _ _ _ _
   | int b=>#⟨t',rfl⟩:=k2;~ACt _ _ _ _
   | tup b=>#⟨_,_,rfl,pl,_⟩:=k2;~SeqAt.EqAt.str_tuple _ _ pl hu0
   | _=>~k2.elim
  | int a =>
   #⟨t,rfl⟩:=k1
   cases y with
   | str b=>#⟨t',rfl⟩:=k2;~ACs _ _ _ _
   | int b=>#⟨t',rfl⟩:=k2;~ACu _ _ _ _
   | tup b=>#⟨_,_,rfl,pl,_⟩:=k2;~SeqAt.EqAt.int_tuple _ _ pl hu0
   | _=>~k2.elim
  | tup xs =>
   #⟨a,its,rfl,pl,p1⟩:=id k1
   cases y with
   | str b=>#⟨t',rfl⟩:=k2;~SeqAt.EqAt.tuple_str _ _ pl hu0
   | int b=>#⟨t',rfl⟩:=k2;~SeqAt.EqAt.tuple_int _ _ pl hu0
   | tup ys =>
    #⟨b,jts,rfl,pl',p2⟩:=id k2
    by_cases hab:a=b
    ·subst hab
     have e:=vL (n+1) _ _ _ k1 k2
     rw[e,(kU (M:=[]) (n+1) _ _ (jV _ _ _ k2) (jV _ _ _ k2)).mpr rfl]
     ~AEC _
    ·have ll:=lN p1
     have ll':=lN p2
     have items:∀(j:Nat) (h1:j<its.size) (h2:j<jts.size),ACp A.in1 s its[j] jts[j] (eqD [] n (xs.getD j .non) (ys.getD j .non)):=λj h1 h2=>by
      #⟨x0,e1,r1⟩:=jp p1 (i:=j) (y:=its[j]) (by rw[AAV];~AAS h1)
      #⟨y0,e2,r2⟩:=jp p2 (i:=j) (y:=jts[j]) (by rw[AAV];~AAS h2)
      have z1:xs.getD j .non=x0:=by rw[AAP,e1];rfl
      have z2:ys.getD j .non=y0:=by rw[AAP,e2];rfl
      rw[z1,z2]
      ~ih A.in1 s x0 y0 _ _ hu1 r1 r2
     have key:((AAe (min its.size jts.size)).all (λj=>eqD [] n (xs.getD j .non) (ys.getD j .non))&&its.size==jts.size)=eqL (eqD [] n) xs ys:=by
      by_cases hl:xs.length=ys.length
      ·have rng:(AAe xs.length).all (λj=>eqD [] n (xs.getD j .non) (ys.getD j .non))=eqL (eqD [] n) xs ys:=oP hl λj x y h1 h2=>by simp[AEP,h1,h2]
       rw[←ll,←ll',←hl,Nat.min_self,rng]
       simp
      ·rw[EJ hl,←ll,←ll']
       simp[hl]
     have h1:=SeqAt.RcAt.tuples pl pl' hu0 items
     rw[key]at h1
     ~SeqAt.EqAt.of_refs hab h1
   | _=>~k2.elim
  | _=>~k1.elim
end
noncomputable instance decD:DecidableEq D:=λa b=>Classical.propDecidable (a=b)
noncomputable def dc(prog:Program)(w:World):HeapKind prog w D where
 is:=λh d a=>il h 8 d (.ref a)
 hash:=hkD w 8
 draws:=drD 8
 room:=λA=>A.units+8<cLine
 inj:=λx y=>vL 8 _ _ _ x y
 keeps:=λx ho hd hs=>yo x ho hd hs
 pyHash:=λhu k h=>Bs 8 _ _ _ _ _ _ hu k h
 eqBool:=λ{A E s x y a b Q} hu k1 k2 h=>by
  !GZ 8 A s x y _ _ hu k1 k2 _ _ _ _ ?_
  have e:eqD [] 8 x y=decide (x=y):=by
   rw[ABn,kU 8 x y (jV _ _ _ k1) (jV _ _ _ k2),decide_eq_true_eq]
  rw[e]
  ~h
 quiet:=λk h=>yl 8 8 _ _ _ _ _ _ (AAC _) k h
end L2
namespace L2
open PySem PySem.Spec PyProof.Rows DL PySem.W
noncomputable def LC(kvs:List (D×D))(k:D):Option D:=(kvs.find? λp=>decide (p.1=k)).map (·.2)
noncomputable def xJ(kvs:List (D×D))(k d:D):List (D×D):=if (LC kvs k).isSome then kvs.map (λp=>if p.1=k then(p.1,d)else p)else kvs++[(k,d)]
section
variable{K:AA5}{ρ:List Addr}{H:Hp}{M:Mem}{kvs:List (D×D)}{xs:List (D×Addr×Value)}
¶Nd(r:Paired (BP K ρ H) kvs xs)(k:D):(LC kvs k=none/\atKey xs k=none)\/∃d p v,LC kvs k=some d/\atKey xs k=some p/\Rep K ρ H d v/\bi v p.2:=by
 unfold LC atKey
 induction r with
 | nil=>~.inl ⟨rfl,rfl⟩
 | @cons p q ps qs h t ih =>
  #⟨h1,_,_,v,h4,h5⟩:=h
  rw[AB7,AB7]
  by_cases e:p.1=k
  ·rw[decide_eq_true e,decide_eq_true (h1.symm.trans e)]
   ~.inr ⟨_,_,v,rfl,rfl,h4,h5⟩
  ·rw[decide_eq_false e,decide_eq_false (λz=>e (h1.trans z))]
   ~ih
¶Iv(r:Paired (BP K ρ H) kvs xs){k d:D}{b:Addr}{v:V}{u:Value}(kd:eU 8 k=true)(rk:Rep K ρ H k (.ref b))(rd:Rep K ρ H d v)(rv:bi v u):Paired (BP K ρ H) (xJ kvs k d) (storedH xs k b u):=by
 unfold xJ storedH
 have is:(LC kvs k).isSome=(atKey xs k).isSome:=by
  rcases Nd r k with⟨e1,e2⟩|⟨_,_,_,e1,e2,_⟩<;>rw[e1,e2]<;>rfl
 rw[is]
 by_cases q:(atKey xs k).isSome=true
 ·rw[if_pos q,if_pos q]
  clear is q
  induction r with
  | nil=>~.nil
  | @cons p q ps qs h t ih =>
   rw[AAL,AAL]
   !.cons ?_ ih
   #⟨h1,h2,h3,w,h4,h5⟩:=h
   by_cases e:p.1=k
   ·rw[if_pos e,putAt,if_pos (h1.symm.trans e)]
    ~⟨h1,h2,h3,v,rd,rv⟩
   ·rw[if_neg e,putAt,if_neg (λz=>e (h1.trans z))]
    ~⟨h1,h2,h3,w,h4,h5⟩
 ·rw[if_neg q,if_neg q]
  clear is q
  induction r with
  | nil=>~.cons ⟨rfl,kd,rk,v,rd,rv⟩ .nil
  | cons h t ih=>~.cons h ih
¶yh(r:Paired (BP K ρ H) kvs xs):xs.map (·.1)=kvs.map (·.1):=by
 induction r with
 | nil=>rfl
 | cons h t ih=>rw[AAL,AAL,ih,h.1]
¶rL{k d:D}:(xJ kvs k d).length<=kvs.length+1:=by
 unfold xJ
 split
 ·rw[AA6];&
 ·rw[AA8];~AAC _
¶SqT.writtenX{a p:Addr}{xs:List V}{φ:Program->World->Heap->Prop}{o:HO}(hp:H p=some (.ext φ))(h:SqT K H a xs):SqT K (upd H p o) a xs:=by
 rcases h with h | h
 ·rcases h with h | ⟨ob,h⟩
  ·~.inl (.inl (by rw[aJ (xR h hp (by intro z;cases z))];~h))
  ·~.inl (.inr ⟨ob,by rw[aJ (xR h hp (by intro z;cases z))];~h⟩)
 ·~.inr h
¶Sim.writeT{n:Nat}{a:Addr}{kvs':List (D×D)}{xs':List (D×Addr×Value)}(S:Sim K ρ M H)(e1:ρ[n]?=some a)(hM:M[n]?=some (.dkt kvs))(hH:H a=some (.ext (dX a xs)))(hl:kvs'.length<=sizeLine)(hs:(a==sysModules)=false)(nd:(kvs'.map (·.1)).Nodup)(r:Paired (BP K ρ H) kvs' xs') :
  Sim K ρ (M.set n (.dkt kvs')) (upd H a (.ext (dX a xs')))/\Grow K ρ H ρ (upd H a (.ext (dX a xs'))):=by
 have g:Grow K ρ H ρ (upd H a (.ext (dX a xs'))):=⟨ACc,λ_ _ h=>SqT.writtenX hH h⟩
 have hk:∀m,m≠n->(M.set n (.dkt kvs'))[m]?=M[m]?:=λm hm=>AAt (AAz hm)
 have notK:¬isK M[n]?:=λ⟨_,z⟩=>by rw[hM]at z;cases z
 !⟨⟨λm m' b hne f1 f2=>?_,by rw[ABQ];~S.len,λm b mo f1 f2=>?_⟩,g⟩
 ·have q:=S.nd m m' b hne f1 f2
  by_cases h1:m=n
  ·subst h1
   rw[hk m' (AAz hne)]
   ~.inr (q.resolve_left notK)
  ·rw[hk m h1]
   by_cases h2:m'=n
   ·subst h2
    ~.inl (q.resolve_right notK)
   ·rw[hk m' h2]
    ~q
 by_cases hm:m=n
 ·subst hm
  have hb:b=a:=AAR (f1.symm.trans e1)
  subst hb
  rw[ABD (by rw[←S.len];~(AA2.mp e1).1)]at f2
  cases f2
  ~⟨hl,hs,nd,xs',bB,Paired.mapP r λ_ _ ⟨q1,q2,q3,v,q4,q5⟩=>⟨q1,q2,q3.grow g,v,q4.grow g,q5⟩⟩
 ·rw[hk m hm]at f2
  by_cases hb:b=a
  ·subst hb
   have q':=(S.nd m n b hm f1 e1).resolve_right notK
   rw[f2]at q'
   ~(S.obj m b mo f1 f2).grow g (.inr q')
  ·~(S.obj m b mo f1 f2).grow g (.inl (aJ hb))
end
section
variable{X:Cx}{pins:List (Addr×Obj)}{σ:St}{H:Hp}{s:Shared}{ρ:List Addr}{M:Mem}
¶rH(I:Inv X pins σ H s):∀(n:Nat) (d:D) (v:V) (u:Value),Rep X.K ρ H d v->bi v u->eU n d=true->il s.heap n d u:=by
 intro n
 induction n with
 | zero =>
  intro d v u r rv k
  cases r with
  | str x=>~rv
  | int x=>~rv
  | _=>cases k
 | succ n ih =>
  intro d v u r rv k
  cases r with
  | str x=>~rv
  | int x=>~rv
  | @tup a vs ds hq rr =>
   cases rv
   #⟨its,r2,p,hz⟩:=I.tuple hq
   have hk:∀x∈ds,eU n x=true:=AAK.mp (show ds.all (eU n)=true from k)
   !⟨a,its.toArray,rfl,p,?_⟩
   rw[List.toList_toArray]
   clear p hq k hz
   induction r2 generalizing ds with
   | nil=>cases rr;~.nil
   | cons q1 q2 i2 =>
    cases rr with
    | cons h1 t1=>~.cons (ih _ _ _ h1 q1 (hk _ AAI)) (i2 t1 λx hx=>hk x (AA9 _ hx))
  | _=>cases k
¶IG(I:Inv X pins σ H s)(sm:Sim X.K ρ M H){n:Nat}{a:Addr}{kvs:List (D×D)}(e:ρ[n]?=some a)(hM:M[n]?=some (.dkt kvs)) :
  ∃xs,H a=some (.ext (dX a xs))/\Paired (BP X.K ρ H) kvs xs/\s.heap.DictOfH (dc X.prog X.w) a xs/\(a==sysModules)=false/\kvs.length<=sizeLine/\xs.length=kvs.length/\(kvs.map (·.1)).Nodup:=by
 #⟨h1,h2,h3,xs,hH,r⟩:=sm.obj _ _ _ e hM
 #⟨⟨o,es,e1,e2,e3,e4⟩,_⟩:=(show cL X.prog X.w H s.heap a (.ext (dX a xs))from I.hok a _ hH)
 have ek:=yh r
 !⟨xs,hH,r,⟨o,es,_,e1,e2,e3,e4,λx hx=>?_,by rw[ek];~h3⟩,h2,h1,?_,h3⟩
 ·#⟨i,hi⟩:=AAv hx
  #⟨p,_,q1,q2,q3,_⟩:=jp r hi
  rw[←q1]
  ~rH I 8 _ _ _ q3 rfl q2
 ·have:=congrArg ACy ek
  rwa [AA6,AA6]at this
¶EH{a:Addr}{h':Heap}{H':Hp}{P:Program}{w:World}{xs:List (D×Addr×Value)}(d:dX a xs P w h'):cL P w H' h' a (.ext (dX a xs)):=by
 #⟨o,es,e1,e2,e3,e4⟩:=d
 ~⟨⟨o,es,e1,e2,e3,e4⟩,⟨o,e1⟩,λh1 h2 ⟨o,es,e1,e2,e3,e4⟩ k=>⟨o,es,k _ e1,e2,e3,e4⟩⟩
¶IH(I:Inv X pins σ H s){a:Addr}{xs:List (D×Addr×Value)}(hH:H a=some (.ext (dX a xs))):dX a xs X.prog X.w s.heap :=
 (show cL X.prog X.w H s.heap a (.ext (dX a xs))from I.hok a _ hH).1
end
¶setE{prog:Program}{w:World}{A:Around}{E:Value->Shared->Prop}{s:Shared}{d b:Addr}{k:D}{v:Value}{xs:List (D×Addr×Value)}{Q:Unit->Shared->Prop}(hu:(dc prog w).room A.in1)(kat:(dc prog w).is s.heap k b)
  (hm:s.heap.DictOfH (dc prog w) d xs) (hx:dX d xs prog w s.heap) (hz:xs.length<=sizeLine)
  (hQ:∀h',dX d (storedH xs k b v) prog w h'->ABO d s.heap h'->Q () { s with heap:=h',toks:=s.toks+(dc prog w).draws k }):wpAny (model prog w) A (setItem (.ref d) (.ref b) v) Q E s:=by
 have hT:=hm.typeIs
 #⟨_,_,_,_,_,_,_,his,hn⟩:=hm
 #⟨o,es,ho,hc,hd,he'⟩:=hx
 have he:es.toList=xs.map (entryOfKey (dc prog w)):=he'
 unfold setItem
 try with_reducible !AAp ?_
 !AA0 (wpAny_sequenceKey hT (by decide) (AA0 (AAl (name:=AA1 "__setitem__") hT slot_dict_setitem (AAm slot_dict_setitem hT entry_dict_setitem ?_ (args_dict_setitem _ _ _)))))
 !(show wpAny (model prog w) _ (Builtin.Dict.notOrdered "__setitem__" ⟨[.ref d,.ref b,v],[]⟩ >>= _) _ _ s from AA0 (AE1 hT ?_))
 !(show wpAny (model prog w) _ (dictSet d (.ref b) v >>= _) _ _ s from AA0 ?_)
 unfold dictSet
 try with_reducible !AAp ?_
 !AA0 ((dc prog w).pyHash hu kat ?_)
 unfold dictSetHashed
 try with_reducible !AAp ?_
 have hl:es.size=xs.length:=size_of_entries he
 !AA0 (wpAny_dictFind_heap (s:={ s with toks:=s.toks+(dc prog w).draws k }) hu kat ho hd he his hn (λhno=>?_) λj p hj=>?_)
 ·!AA0 (ACL (wpAny_updateDictKeys (hz:=¤) (s:={ s with toks:=s.toks+(dc prog w).draws k }) ho hd (AA3 ⟨.none,rfl,AA3 (hQ _ ⟨_,es.push ⟨(dc prog w).hash k,.ref b,v⟩,AAZ _ ho (ADO (ADA hd _)),hc.mapDictKeys _,?_,?_⟩ (AB2 ..))⟩)))
  ·rw[ADA hd,storedH_new (ADt hno),AA8];rfl
  ·rw[storedH_new (ADt hno)]
   rw[ADq,he,ABR]
   rfl
 ·!AA0 (ACL (AA0 (wpAny_updateDict (s:={ s with toks:=s.toks+(dc prog w).draws k }) ho hd (wpAny_point (AA3 ⟨.none,rfl,AA3 (hQ _ ⟨_,es.modify j λe=>{ e with val:=v },AAZ _ ho (ADO (AE3 hd _)),hc.mapDict _,?_,?_⟩ (AB2 ..))⟩)))))
  ·rw[AE3 hd,storedH_old (atKey_of_get hn hj),AA6]
  ·rw[storedH_old (atKey_of_get hn hj)]
   have q:=modify_map_putAt (entryOfKey (dc prog w)) (λe:DictEntry=>{ e with val:=v }) k v (λ_ _=>rfl) hn hj
   rw[←he]at q
   #⟨l⟩:=es
   have q2:(Array.modify ⟨l⟩ j λe:DictEntry=>{ e with val:=v }).toList=(xs.map (putAt k v)).map (entryOfKey (dc prog w)):=by simpa using q
   ~q2
section
variable{X:Cx}{o i value:Expr}{td ty tv:DTE}{pos pos':Pos}{k:Nat}
def HR(td ty tv:DTE):DTS:=λE S M=>tv S M λv M1=>td S M1 λx M2=>ty S M2 λy M3=>match x,y with
 | .ref n,.tup ks=>∃kvs,M3[n]?=some (.dkt kvs)/\eU 8 (.tup ks)=true/\kvs.length<sizeLine/\E.nx S (M3.set n (.dkt (xJ kvs (.tup ks) v)))
 | _,_=>False
¶rK{kvs:List (D×D)}{y v:D}(h:(kvs.map (·.1)).Nodup):((xJ kvs y v).map (·.1)).Nodup:=by
 unfold xJ
 split
 ·rw[AAi]
  have:((λx:D×D=>x.1) ∘ λp:D×D=>if p.1=y then(p.1,v)else p)=λx=>x.1:=by
   funext p
   show (if p.1=y then(p.1,v)else p).1=p.1
   split<;>rfl
  rw[this];~h
 ·rename_i q
  rw[ABR,List.map_singleton,List.nodup_append]
  !⟨h,by simp,λa ha b hb=>?_⟩
  rw[AAY.mp hb]
  rintro rfl
  #⟨p,hp,e⟩:=AAN.mp ha
  !q ?_
  unfold LC
  rw[Option.isSome_map,List.find?_isSome]
  ~⟨p,hp,by simpa using e⟩
¶KM(hr:Room k X.A)(ho:DE X o td)(hi:DE X i ty)(hv:DE X value tv)(hs:swapsWith value (some (.Subscript o i pos')) pos.line X.env=pure false):DS X (.Assign [.Subscript o i pos'] value pos) (HR td ty tv):=by
 intro pins s σ H E I ⟨S,M,ρ,F,sm,sr,q,kk⟩
 have un:=hr.un
 !wpAny_Assign_Subscript (thn (hv pins s σ H _ I ⟨S,M,ρ,_,sm,sr,q,λv H' z=>z⟩) λr s1 ⟨v,H1,I1,rv,dv,M1,ρ1,sm1,g1,r1,q1⟩=>thn (ho pins s1 σ H1 _ I1 ⟨S,M1,ρ1,_,sm1,sr.grow g1,q1,λv H' z=>z⟩) λu s2 ⟨vx,H2,I2,rx,x,M2,ρ2,sm2,g2,r2,q2⟩=>thn (hi pins s2 σ H2 _ I2 ⟨S,M2,ρ2,_,sm2,(sr.grow g1).grow g2,q2,λv H' z=>z⟩) λiv s3 ⟨vy,H3,I3,ry,y,M3,ρ3,sm3,g3,r3,q3⟩=>?_) hs
 cases x with
 | ref n =>
  cases y with
  | tup ks =>
   #⟨kvs,hM,kd,hl,q4⟩:=q3
   #⟨a,rfl,hn⟩:=Rep.inv_ref r2
   obtain rfl:u=AB3 a:=rx
   have hn3:=bE g3.pre hn
   #⟨xs,hH,r,dd,hsm,_,hx,nd⟩:=IG I3 sm3 hn3 hM
   have kat:=rH I3 8 _ _ _ r3 ry kd
   #⟨b,_,rfl,_⟩:=id kat
   #⟨_,_,rfl,hq,rr⟩:=Rep.inv_tup r3
   cases ry
   have r':=Iv r kd (.tup hq rr) ((r1.grow g2).grow g3) rv
   have pl:=rL (kvs:=kvs) (k:=.tup ks) (d:=dv)
   #⟨w1,w2⟩:=sm3.writeT hn3 hM hH (by have:=pl;&) hsm (rK nd) r'
   !setE (k:=.tup ks) (by show X.A.units+1+8<cLine;&) kat dd (IH I3 hH) ¤ λh' dd' hsb=>?_
   have he:∃q,h'.get? a=some q:=let ⟨q,_,hq,_⟩:=dd';⟨q,hq⟩
   ~⟨σ,_,sU I3 (by rw[hH];~AD3) hsb he (EH dd'),kk.nx σ _ (SQ.trans ((g1.trans g2).trans g3) ⟨S,_,ρ3,w1,w2,(((sr.grow g1).grow g2).grow g3).grow w2,q4⟩)⟩
  | _=>~q3.elim
 | _=>~q3.elim
variable{name:Str}{id:String}{e:Expr}{es:List Expr}{to:DTE}{t:DTA}{apos cpos:Pos}
end
end L2
namespace L2
open PySem PySem.Spec PyProof.Rows DL PySem.W
def iH(h:Heap)(d:Addr)(es:Array DictEntry)(ep:Nat):Prop:=∃o,h.get? d=some o/\o.ExactDict/\o.data=.dict es ep
¶iH.ty{s:Shared}{d:Addr}{es:Array DictEntry}{ep:Nat}(x:iH s.heap d es ep):s.TypeIs (.ref d) "dict":=by
 #⟨o,h1,h2,_⟩:=x
 ~⟨o,h1,h2.1⟩
¶iH.lt{h:Heap}{d:Addr}{es:Array DictEntry}{ep:Nat}(x:iH h d es ep):d<h.objs.size:=by
 #⟨o,h1,_⟩:=x
 ~AAG h1
¶iH.to{h h':Heap}{d:Addr}{es:Array DictEntry}{ep:Nat}(x:iH h d es ep)(k:∀o,h.get? d=some o->h'.get? d=some o):iH h' d es ep:=by
 #⟨o,h1,h2⟩:=x
 ~⟨o,k o h1,h2⟩
section
variable{prog:Program}{w:World}{A:Around}{E:Value->Shared->Prop}{s:Shared}{d:Addr}{es:Array DictEntry}{ep:Nat}
end
end L2
namespace L2
open PySem PySem.Spec PyProof.Rows DL PySem.W
section
variable{X:Cx}{pins:List (Addr×Obj)}{σ:St}{H:Hp}{s:Shared}
¶NN(I:Inv X pins σ H s){a:Addr}{xs:List (D×Addr×Value)}(hH:H a=some (.ext (dX a xs))):∃es,iH s.heap a es xs.length/\es.size=xs.length/\∀(i:Nat) x,xs[i]?=some x->∃e,es[i]?=some e/\e.key=.ref x.2.1/\e.val=x.2.2:=by
 #⟨o,es,h1,h2,h3,h4⟩:=IH I hH
 !⟨es,⟨o,h1,h2,h3⟩,?_,λi x hx=>?_⟩
 ·have:=congrArg ACy h4
  rwa [AAO,AA6]at this
 ·!⟨⟨hkD X.w 8 x.1,.ref x.2.1,x.2.2⟩,?_,rfl,rfl⟩
  rw[←AAV,h4,AAU,hx]
  rfl
end
section
variable{X:Cx}{tg:Expr}
end
end L2
namespace L2
open PySem PySem.Spec PyProof.Rows DL PySem.W
section
variable{prog:Program}{w:World}{A:Around}{E:Value->Shared->Prop}{s:Shared}{d:Addr}{es:Array DictEntry}{ep:Nat}
end
section
variable{X:Cx}{tg o:Expr}{to:DTE}{apos cpos:Pos}
end
end L2
namespace L2
open PySem PySem.Spec PyProof.Rows DL PySem.W
section
variable{prog:Program}{w:World}{d r:Addr}{es:Array DictEntry}{ep:Nat}
end
section
variable{X:Cx}{o:Expr}{to:DTE}{apos cpos p pos:Pos}{k:Nat}
end
section
variable{X:Cx}{o i e:Expr}{to ti te:DTE}{pos pos' p apos cpos:Pos}{k:Nat}{tg:Expr}{es:List Expr}{t:DTA}{st:Stmt}
¶Kn(hr:Room k X.A)(ho:HE X o to)(hi:HE X i ti)(hv:HE X e te)(hs:swapsWith e (some (.Subscript o i pos')) pos.line X.env=pure false:=by kernel_rfl):HS X (.Assign [.Subscript o i pos'] e pos) (HR to ti te):=⟨KM hr ho.ok hi.ok hv.ok hs⟩
end
end L2
namespace L2
open PySem PySem.Spec PyProof.Rows DL PySem.W
¶zS{K:AA5}{ρ:List Addr}{H:Hp}:∀{ns:List Int}{ws:List V}{its:List Value},Reps K ρ H (ns.map D.int) ws->aL ws its->IntsAre its ns
 | [],_,_,r,v=>by cases r;cases v;~.nil
 | n::ns,_,_,r,v=>by
  rw[AAL]at r
  first | have hzz:=Reps.inv_cons r | have hzz:=aL.inv_cons r
  clear r
  #⟨_,_,rfl,h,t⟩:=hzz
  cases h
  cases v with
  | cons q q' =>
   #⟨tk,rfl⟩:=q
   ~.cons _ _ (zS t q')
¶Kw{vs:List Value}{ns:List Int}(h:IntsAre vs ns):∀(m:Nat) (v:Value),vs[m]?=some v->∃i t,v=.int i t/\ns[m]?=some i:=by
 induction h with
 | nil=>intro m v e;simp at e
 | cons n t _ ih =>
  intro m v e
  cases m with
  | zero=>simp at e;subst e;~⟨n,t,rfl,rfl⟩
  | succ m=>~ih m v (by simpa using e)
¶He{vs:List Value}{ns:List Int}(h:IntsAre vs ns):vs.length=ns.length:=by
 induction h with
 | nil=>rfl
 | cons n t _ ih=>rw[AAA,AAA,ih]
section
variable{X:Cx}{k:Nat}
def nL(n:Nat):DRA:=λds M Q=>match ds with
 | [.int v]=>∃(ns:List Int) (j:Nat),aA M n (ns.map D.int)/\ns.length<=1000/\ns[j]?=some v/\(∀m,m<j->ns[m]?≠some v)/\Q (.int j) M
 | _=>False
def isNum(v:Int):Value->Bool
 | .int i _=>i==v
 | _=>false
¶DM:MtR X "list.index" (DR X.K nL):=by
 intro pins s σ H x xs v us R I rx rs ⟨n,a,ds,M,ρ,Q,ez,hn,sm,rr,q,kk⟩
 unfold nL at q
 split at q
 ·rename_i num
  #⟨ns,j,hL,hl,hj,hno,q⟩:=q
  first | have hzz:=Reps.inv_cons rr | have hzz:=aL.inv_cons rr
  clear rr
  #⟨_,_,rfl,r1,rr⟩:=hzz
  cases rr
  #⟨u,rfl,e1⟩:=aL.one rs
  cases r1
  #⟨tk,rfl⟩:=e1
  subst ez
  cases rx
  #⟨ws,hq,r⟩:=aA.seq sm hL hn
  #⟨its,rv,pl,hz⟩:=I.list hq
  have ia:=zS r rv
  have len:=He ia
  have at_:∀(m:Nat) (hm:m<its.toArray.size),∃i t,its.toArray[m]=.int i t/\ns[m]?=some i:=λm hm =>
   Kw ia m _ (by rw[AAB]at hm;rw[AA7 hm];rfl)
  #⟨⟨oc,od,odt,os⟩,nn,hoa,hca,hdict,hdata⟩:=id pl
  obtain rfl:oc=.type "list":=hca
  obtain rfl:odt=.seq its.toArray nn:=hdata
  have hjl:j<its.toArray.size:=by
   have:=(AA2.mp hj).1
   rw[AAB];&
  !call_meetsIn PySem.F.slot_list_index pl.isList.typeIs PySem.F.entry_list_index (PySem.F.args_list_index_2 _ _) ((SeqAt.list_indexAt a its.toArray nn od os (.int num tk) (isNum num) j hjl (by rw[AAB]at hjl;&) ?_ λm hm hlt=>?_).inModel X.prog X.w) ⟨hoa,λy hy=>?_,?_⟩
  ·#⟨i,t,e1,e2⟩:=at_ j hjl
   rw[hj]at e2
   #rfl:=AAR e2
   rw[e1]
   ~beq_self_eq_true _
  ·#⟨i,t,e1,e2⟩:=at_ m hm
   rw[e1]
   !ABs.mpr λz=>hno m hlt ?_
   rw[e2,eq_of_beq (show (i==num)=true from z)]
  ·#⟨m,hm,rfl⟩:=Array.getElem_of_mem hy
   #⟨i,t,e1,e2⟩:=at_ m hm
   rw[e1]
   ~ACu _ _ _ _
  ·~⟨.int j,H,I.tok _,⟨_,rfl⟩,kk _ _ ⟨.int j,M,ρ,sm,.refl,.int _,q⟩⟩
 ·~q.elim
¶Ew:HMl X "index" nL:=⟨_,PySem.F.slot_list_index,PySem.F.type_list_index,DM⟩
end
end L2
namespace L2
open PySem PySem.Spec PyProof.Rows DL PySem.W PySem.Calls PyProof.V
def ky(h:Heap)(it d:Addr)(i n ep:Nat)(x0 x1 ok ov:Value):Prop :=
 h.get? it=some { cls:=.type "dict_itemiterator",dict:=none,data:=.fields #[x0,x1,.ref d,.int i 0,.int n 0,.int ep 0,ok,ov],slots:=#[] }
def lR(h:Heap)(it d S:Addr)(i n ep:Nat):Prop:=∃x0 x1 ok ov,ky h it d i n ep x0 x1 ok ov/\((x0=.none/\x1=.bool false)\/∃(a:Addr) (f:Bool) (oa:Obj),x0=rawInt a/\x1=.bool f/\h.get? a=some oa/\a≠it/\a≠S)
¶lR.to{h h':Heap}{it d S:Addr}{i n ep:Nat}(x:lR h it d S i n ep)(hk:∀b o,b≠S->h.get? b=some o->h'.get? b=some o)(hI:it≠S):lR h' it d S i n ep:=by
 #⟨x0,x1,ok,ov,p,q⟩:=x
 !⟨x0,x1,ok,ov,hk _ _ hI p,q.imp id ?_⟩
 rintro⟨a,f,oa,e0,e1,ha,hai,haS⟩
 ~⟨a,f,oa,e0,e1,hk _ _ haS ha,hai,haS⟩
section
variable{prog:Program}{w:World}{A:Around}{E:Value->Shared->Prop}{s:Shared}{d:Addr}{es:Array DictEntry}{ep:Nat}
¶EL{Q:Value->Shared->Prop}(hd:(d==sysModules)=false)(hm:iH s.heap d es ep)(hQ:Q (.ref s.heap.objs.size) { s with heap:=s.heap.push { cls:=.type "dict_items",data:=.fields #[.ref d] } }) :
  wpAny (model prog w) A (call (.builtin "dict.items") [.ref d]) Q E s:=by
 !call_meetsIn PySem.F.slot_dict_items hm.ty PySem.F.entry_dict_items (PySem.F.args_dict_items_1 _) (S:=λ_ R s'=>s'=s/\R (.ok (.ret (.ref s.heap.objs.size))) { s with heap:=s.heap.push { cls:=.type "dict_items",data:=.fields #[.ref d] } }) (.of_wp ?_) ⟨rfl,hQ⟩
 rintro A R s' ⟨rfl,h⟩
 unfold Builtin.«dict.items»
 !AA0 ?_
 unfold Builtin.Dict.noArgs
 !AA0 (AE1 hm.ty (AA3 ?_))
 !(show wpAny (model prog w) _ (Builtin.Dict.showsAll d >>= _) _ _ s' from ?_)
 unfold Builtin.Dict.showsAll
 rw[hd]
 ~AA0 (AA3 (AA0 (AAj (AA3 ⟨_,rfl,h⟩))))
¶EN{v:Addr}{Q:Value->Shared->Prop}(hv:s.heap.IsItemsView v d)(hm:iH s.heap d es ep)
  (hQ:Q (.ref s.heap.objs.size) { s with heap:=s.heap.push { cls:=.type "dict_itemiterator",data:=.fields #[.none,.bool false,.ref d,.int 0 0,.int es.size 0,.int ep 0,.none,.none] } }):wpAny (model prog w) A (pyIter (.ref v)) Q E s:=by
 #⟨ov,v1,v2,v3⟩:=id hv
 #⟨o,h1,h2,h3⟩:=hm
 !wpAny_pyIter_slot hv.typeIs F.slot_dict_items_iter (AAm F.slot_dict_items_iter hv.typeIs F.entry_dict_items_iter ?_ (F.args_dict_items_iter_1 _))
 unfold Builtin.«dict_items.__iter__»
 !AA0 (AA3 (AA0 ?_))
 unfold Builtin.Dict_items.dictOf
 !AA0 (ABH v1 v3 (x:=.ref d) rfl (AA3 (AA0 ?_)))
 unfold Builtin.Dict_items.newIterator
 !AA0 (wpAny_dictEntries h1 h3 (AA0 (wpAny_dictEpoch h1 h3 ?_)))
 simp only[show ACw "dict_itemiterator" = true by decide,if_true]
 ~AAj (AA3 ⟨_,rfl,"dict_itemiterator",_,⟨_,AAE _ rfl,rfl⟩,F.slot_dict_itemiterator_next.lookup,by simpa [rawInt,ADP]using hQ⟩)
  (by simp only[sizeOk,ADP,AAB,AA8,AAA,AAW,ABm];&)
¶EM{it S:Addr}{i:Nat}{Q:Option Value->Shared->Prop}(hst:lR s.heap it d S i es.size ep)(hS:S<s.heap.objs.size)(hm:iH s.heap d es ep)(hi:i<es.size)
  (hQ:∀h',lR h' it d S (i+1) es.size ep->h'.get? s.heap.objs.size=some { cls:=.type "tuple",data:=.seq #[es[i].key,es[i].val] }->h'.objs.size=s.heap.objs.size+1 ->
   (∀b o,b≠it->s.heap.get? b=some o->h'.get? b=some o)->Q (some (.ref s.heap.objs.size)) { s with heap:=h' }):wpAny (model prog w) A (pyNext (.ref it)) Q E s:=by
 #⟨hp,g,dr,tk,os⟩:=s
 #⟨x0,x1,ok,ov,hit,own⟩:=hst
 #⟨od,k1,k2,k3⟩:=id hm
 have hT:AD6 ⟨hp,g,dr,tk,os⟩ (.ref it) "dict_itemiterator":=⟨_,hit,rfl⟩
 unfold pyNext
 !AA0 (ACk (AAl (name:=AA1 "__next__") hT ABh (AAm ABh hT ADK ?_ (ADB _))))
 !AA0 (AA3 (AA0 (AA0 ?_)))
 first | !AA0 (AC1 hT (AA3 (AA0 (ACW hit rfl ?_)))) | !AA0 (ACY hT (AA3 (AA0 (ACW hit rfl ?_))))
 simp only[show ACw "dict_itemiterator" = true by decide,if_true]
 !(show wpAny (model prog w) _ (if (AB3 d==ABb)=true then _ else _) _ _ _ from ?_)
 rw[if_neg (by ~AAb)]
 !AA0 (AA3 (AA0 (wpAny_dictEntries k1 k3 ?_)))
 rw[if_neg (by simp)]
 !AA0 (AA3 (AA0 (wpAny_dictEpoch k1 k3 ?_)))
 rw[if_neg (by simp)]
 !AA3 ?_
 simp only[show ¬((i:Int)<0)from by &,if_false,ABr,AAS hi]
 !AA0 ?_
 first | !AA0 (AC1 hT (AA3 ?_)) | !AA0 (ACY hT (AA3 ?_))
 !AA0 (ADj hT ?_)
 !(show wpAny (model prog w) _ (setField (.ref it) 3 (rawInt ((i:Int)+1)) >>= _) _ _ ⟨hp,g,dr,tk,os⟩from AA0 (ABA hit (by simp) λha he hs=>?_))
 have hsA:ABO it hp ha:=hs
 have heA:ky ha it d (i+1) es.size ep x0 x1 ok ov:=by
  unfold ky
  rw[show ((i+1:Nat):Int)=(i:Int)+1 by &]
  simpa [rawInt]using he
 have hTA:AD6 ⟨ha,g,dr,tk,os⟩ (.ref it) "dict_itemiterator":=⟨_,heA,rfl⟩
 !AA0 (AAp (AA0 (ADj hTA (AA0 (ADj hTA ?_)))))
 !(show wpAny (model prog w) _ (ADg (.ref it) 6 es[i].key es[i].val) _ _ ⟨ha,g,dr,tk,os⟩from ?_)
 unfold ADg
 !AA0 (wpAny_newTuple ?_)
 have heB:ky (ha.push { cls:=.type "tuple",data:=.seq #[es[i].key,es[i].val] }) it d (i+1) es.size ep x0 x1 ok ov:=AA4 _ heA
 generalize eB:ha.push { cls:=.type "tuple",data:=.seq #[es[i].key,es[i].val] }=hB at heB
 have zA:ha.objs.size=hp.objs.size:=hsA.1
 have hil:it<hp.objs.size:=AAG hit
 have tB:hB.get? hp.objs.size=some { cls:=.type "tuple",data:=.seq #[es[i].key,es[i].val] }:=by rw[←eB,←zA];~AAE _ rfl
 have zB:hB.objs.size=hp.objs.size+1:=by rw[←eB,AB1,zA]
 have kB:∀b o,b≠it->hp.get? b=some o->hB.get? b=some o:=λb o hb e=>by rw[←eB];~AA4 _ (hsA.extBut b o hb e)
 !(show wpAny (model prog w) _ (ADQ (.ref it) >>= _) _ _ ⟨hB,g,dr,tk,os⟩from ?_)
 rw[zA]
 have fin:∀hC:Heap,lR hC it d S (i+1) es.size ep->ABO it hB hC->Q (some (.ref hp.objs.size)) ⟨hC,g,dr,tk,os⟩:=λhC st sb =>
  hQ hC st (sb.extBut _ _ (ABU hil) tB) (by show hC.objs.size=hp.objs.size+1;rw[sb.1,zB]) λb o hb e=>sb.extBut b o hb (kB b o hb e)
 !AA0 ?_
 unfold ADQ
 rcases own with⟨rfl,rfl⟩|⟨a,f,oa,rfl,rfl,ga,hai,haS⟩
 ·!AA0 (ABH heB rfl (x:=.none) rfl (AA3 ?_))
  simp only[if_true]
  !AA0 (ABH heB rfl (x:=ok) rfl (AA0 (ABH heB rfl (x:=ov) rfl ?_)))
  !AA0 (ABA heB (by simp) λh3 e3 s3=>?_)
  !AA0 (ABA (show ky h3 it d (i+1) es.size ep .none (.bool false) es[i].key ov from e3) (by simp) λh4 e4 s4=>?_)
  !AA0 (ABA (show ky h4 it d (i+1) es.size ep .none (.bool false) es[i].key es[i].val from e4) (by simp) λh5 e5 s5=>?_)
  !AA0 (ABA (show ky h5 it d (i+1) es.size ep (rawInt hp.objs.size) (.bool false) es[i].key es[i].val from e5) (by simp) λh6 e6 s6=>?_)
  have p6:ky h6 it d (i+1) es.size ep (rawInt hp.objs.size) (.bool false) es[i].key es[i].val:=e6
  have sb:ABO it hB h6:=by
   have s3':ABO it hB h3:=s3
   have s4':ABO it h3 h4:=s4
   have s5':ABO it h4 h5:=s5
   have s6':ABO it h5 h6:=s6
   ~⟨by rw[s6'.1,s5'.1,s4'.1,s3'.1],λb hb=>by rw[s6'.2 b hb,s5'.2 b hb,s4'.2 b hb,s3'.2 b hb]⟩
  ~AA0 (wpAny_letGo (AA3 (AA3 ⟨_,rfl,AA3 (fin h6 ⟨_,_,_,_,p6,.inr ⟨_,false,_,rfl,rfl,sb.extBut _ _ (ABU hil) tB,ABU hil,ABU hS⟩⟩ sb)⟩)))
 ·have gB:hB.get? a=some oa:=kB a oa hai ga
  !AA0 (ABH heB rfl (x:=rawInt a) rfl ?_)
  !(show wpAny (model prog w) _ (loadIfAlive ((a:Int).toNat) >>= _) _ _ _ from ?_)
  rw[ABr]
  !AA0 (kdx_alive gB ?_)
  simp only[Option.isNone_some,AAF,if_false]
  !AA0 (ABH heB rfl (x:=.bool f) rfl ?_)
  cases f with
  | true =>
   rw[if_neg (show ¬((AD1 true != AD1 true)=true)from AAb)]
   !AA3 ?_
   simp only[AAF,if_false]
   ~AA3 (AA3 ⟨_,rfl,AA3 (fin hB ⟨_,_,_,_,heB,.inr ⟨a,true,oa,rfl,rfl,gB,hai,haS⟩⟩ (Heap.SameBut.refl _ _))⟩)
  | false =>
   rw[if_pos (show (AD1 false != AD1 true)=true from rfl)]
   !AA0 (ABA heB (by simp) λh3 e3 s3=>?_)
   have p3:ky h3 it d (i+1) es.size ep (rawInt a) (.bool true) ok ov:=e3
   have s3':ABO it hB h3:=s3
   !AA3 ?_
   simp only[AAF,if_false]
   ~AA3 (AA3 ⟨_,rfl,AA3 (fin h3 ⟨_,_,_,_,p3,.inr ⟨a,true,oa,rfl,rfl,s3'.extBut a oa hai gB,hai,haS⟩⟩ s3')⟩)
¶Hu{it S:Addr}{Q:Option Value->Shared->Prop}(hh:A.handled=none)(hst:lR s.heap it d S es.size es.size ep)(hm:iH s.heap d es ep)
  (hQ:∀h',Heap.ExtBut it s.heap h'->Q none { s with heap:=h' }):wpAny (model prog w) A (pyNext (.ref it)) Q E s:=by
 #⟨x0,x1,ok,ov,hit,own⟩:=hst
 #⟨od,k1,k2,k3⟩:=id hm
 have hT:s.TypeIs (.ref it) "dict_itemiterator":=⟨_,hit,rfl⟩
 unfold pyNext
 !AA0 (ACk (AAl (name:=AA1 "__next__") hT ABh (AAm ABh hT ADK ?_ (ADB _))))
 !AA0 (AA3 (AA0 (AA0 ?_)))
 first | !AA0 (AC1 hT (AA3 (AA0 (ACW hit rfl ?_)))) | !AA0 (ACY hT (AA3 (AA0 (ACW hit rfl ?_))))
 simp only[show ACw "dict_itemiterator" = true by decide,if_true]
 !(show wpAny (model prog w) _ (if (AB3 d==ABb)=true then _ else _) _ _ s from ?_)
 rw[if_neg (by ~AAb)]
 !AA0 (AA3 (AA0 (wpAny_dictEntries k1 k3 ?_)))
 rw[if_neg (by simp)]
 !AA0 (AA3 (AA0 (wpAny_dictEpoch k1 k3 ?_)))
 rw[if_neg (by simp)]
 !AA3 ?_
 simp only[show ¬((es.size:Int)<0)from by &,if_false,ABr,ACI (AAC es.size)]
 !AA0 ?_
 first | !AA0 (AC1 hT (AA3 ?_)) | !AA0 (ACY hT (AA3 ?_))
 !(show wpAny (model prog w) _ (setField (.ref it) 2 .none >>= _) _ _ s from AA0 (AC9 hit rfl (by simp) ?_))
 !(show wpAny (model prog w) _ (newExc (.type "StopIteration") [] >>= _) _ _ _ from AA0 ?_)
 simp only[newExc,newTuple]
 !AA0 (AAj ?_ (by size_fits))
 !AA0 (m:=firstArgMember _ _) (wpAny_of_eq (a:=ABb) (by first | rfl | (simp only[firstArgMember];rfl)) ?_)
 !AAj ?_ (by size_fits)
 simp only[raiseNew]
 !AA0 (wpAny_handled ?_)
 rw[show A.in1.handled=none from hh]
 !AA0 (AA3 (wpAny_throw ?_))
 !AA0 (ACO (b:=true) (T:="StopIteration") ⟨_,AAE _ rfl,rfl⟩ isSubtype_stop ?_)
 ~AA3 (hQ _ (((AB2 ..).extBut.push _).push _))
end
structure PairsAt(es:Array DictEntry)(lo:Addr)(h:Heap)(as:List Addr):Prop where
 nd:as.Nodup
 above:∀a∈as,lo<a
 tup:∀(j:Nat) (a:Addr),as[j]?=some a->∃e,es[j]?=some e/\h.get? a=some { cls:=.type "tuple",data:=.seq #[e.key,e.val] }
¶PairsAt.lt{es:Array DictEntry}{lo:Addr}{h:Heap}{as:List Addr}(g:PairsAt es lo h as){a:Addr}(m:a∈as):a<h.objs.size:=by
 #⟨j,hj⟩:=AAv m
 #⟨_,_,e⟩:=g.tup j a hj
 ~AAG e
¶PairsAt.to{es:Array DictEntry}{lo:Addr}{h h':Heap}{as:List Addr}(g:PairsAt es lo h as)(k:∀b o,lo<b->h.get? b=some o->h'.get? b=some o):PairsAt es lo h' as :=
 ⟨g.nd,g.above,λj a hj=>by
  #⟨e,e1,e2⟩:=g.tup j a hj
  ~⟨e,e1,k a _ (g.above a (AAu hj)) e2⟩⟩
¶PairsAt.snoc{es:Array DictEntry}{lo:Addr}{h:Heap}{as:List Addr}{a:Addr}{e:DictEntry}(g:PairsAt es lo h as)(fresh:a∉as)(la:lo<a)(he:es[as.length]?=some e)(ha:h.get? a=some { cls:=.type "tuple",data:=.seq #[e.key,e.val] }):PairsAt es lo h (as++[a]):=by
 !⟨?_,?_,λj b hj=>?_⟩
 ·rw[List.nodup_append]
  !⟨g.nd,by simp,λx hx y hy=>?_⟩
  rw[AAY.mp hy]
  rintro rfl
  ~fresh hx
 ·intro x hx
  rcases AAk.mp hx with hx | hx
  ·~g.above x hx
  ·rw[AAY.mp hx];~la
 ·rcases ACd j as.length with h1 | h1 | h1
  ·rw[AAJ h1]at hj
   ~g.tup j b hj
  ·subst h1
   have:a=b:=by simpa using hj
   subst this
   ~⟨e,he,ha⟩
  ·rw[ABV (by simp;&)]at hj
   cases hj
section
variable{prog:Program}{w:World}{A:Around}{E:Value->Shared->Prop}{s:Shared}{d:Addr}{es:Array DictEntry}{ep:Nat}
¶Bu{R:Result->Shared->Prop}{S I:Addr}(hh:A.handled=none)(hSI:S<I)(hSd:d≠S)(hId:d≠I)(hn:es.size<=sizeLine)(res:Value){h0:Heap}
  (hR:∀h' tk acc c as,(∀b o,b≠S->b≠I->h0.get? b=some o->h'.get? b=some o)->h'.get? S=some { cls:=.type "list",data:=.seq acc c }->as.length=es.size->PairsAt es I h' as->acc.toList=as.map AB3->R (.ok (.ret res)) { s with heap:=h',toks:=tk }) :
  ∀(k i:Nat) (h:Heap) (tk c:Nat) (acc:Array Value) (as:List Addr),es.size-i=k->i<=es.size->lR h I d S i es.size ep->iH h d es ep->(∀b o,b≠S->b≠I->h0.get? b=some o->h.get? b=some o) ->
   h.get? S=some { cls:=.type "list",data:=.seq acc c }->acc.toList=as.map AB3->as.length=i->PairsAt es I h as->I<h.objs.size ->
   codeAny (model prog w) A (.builtin "list.extend.loop" ⟨[.ref S,.ref I,res],[]⟩) R { s with heap:=h,toks:=tk }:=by
 have hne:S≠I:=AAQ hSI
 intro k
 induction k with
 | zero =>
  intro i h tk c acc as hk hi hst hD keep hS hacc hal hG hIs
  obtain rfl:i=es.size:=¤
  !ABW PySem.F.entry_extend_loop ?_
  rw[AB9 ABx _]
  !(show wpAny (model prog w) A.in1 (pyNext (.ref I) >>= _) _ _ _ from ?_)
  !AA0 (Hu (s:={ s with heap:=h,toks:=tk }) (A:=A.in1) hh hst hD λh' he=>?_)
  ~AA3 (hR h' tk acc c as (λb o h1 h2 e=>he b o h2 (keep b o h1 h2 e)) (he S _ hne hS) hal (hG.to λb o hb e=>he b o (ABU hb) e) hacc)
 | succ k ih =>
  intro i h tk c acc as hk hi hst hD keep hS hacc hal hG hIs
  have hlt:i<es.size:=¤
  have hsz:acc.size=i:=by rw[←AAO,hacc,AA6,hal]
  !ABW PySem.F.entry_extend_loop ?_
  rw[AB9 ABx _]
  !(show wpAny (model prog w) A.in1 (pyNext (.ref I) >>= _) _ _ _ from ?_)
  !AA0 (EM (s:={ s with heap:=h,toks:=tk }) (S:=S) hst (AAG hS) hD hlt λh' hst' ht hz hkp=>?_)
  try dsimp only at ht hz hkp ⊢
  have hS':=hkp S _ hne hS
  have hSl:S<h.objs.size:=AAG hS
  have up:∀b o,b≠S->h'.get? b=some o->(h'.update S (ABZ (·.push (AB3 h.objs.size)))).get? b=some o:=λb o hb e=>(ABE _ _ (AAz hb)).trans e
  !(show wpAny (model prog w) A.in1 (updateSeq S (·.push (AB3 h.objs.size)) >>= _) _ _ _ from AA0 ?_)
  have tT:(h'.update S (ABZ (·.push (AB3 h.objs.size)))).get? h.objs.size=some { cls:=.type "tuple",data:=.seq #[es[i].key,es[i].val] }:=up _ _ (ABU hSl) ht
  !ADe hS' rfl (AA3 ⟨ABv ABx _,ih (i+1) _ tk _ (acc.push (AB3 h.objs.size)) (as++[h.objs.size]) ¤ hlt (hst'.to up (AAz hne)) (hD.to λo e=>up d o hSd (hkp d o hId e)) (λb o h1 h2 e=>up b o h1 (hkp b o h2 (keep b o h1 h2 e))) (AAZ _ hS' rfl)
   (by rw[ADq,hacc,ABR];rfl) (by rw[AA8,hal];rfl) ?_ (ADx hIs (AAG tT))⟩) (by rw[hsz];&) (by show (acc.push (AB3 h.objs.size)).size<=sizeLine+1;rw[Array.size_push,hsz];&)
  !(hG.to λb o hb e=>up b o (ABU (ADx hSI hb)) (hkp b o (ABU hb) e)).snoc (e:=es[i]) (λz=>AAq _ (hG.lt z)) hIs (by rw[hal];~AAS hlt) tT
¶vX{R:Result->Shared->Prop}{r D:Addr}{c0:Nat}(hh:A.handled=none)(hv:s.heap.IsItemsView r d)(hm:iH s.heap d es ep)(hDr:D≠r)(hDd:d≠D)(hn:es.size<=sizeLine)(res:Value)(hD:s.heap.get? D=some { cls:=.type "list",data:=.seq #[] c0 })
  (hR:∀h' tk acc c as,(∀b o,b≠D->s.heap.get? b=some o->h'.get? b=some o)->h'.get? D=some { cls:=.type "list",data:=.seq acc c }->as.length=es.size->PairsAt es s.heap.objs.size h' as->acc.toList=as.map AB3->R (.ok (.ret res)) { s with heap:=h',toks:=tk }) :
  wpAny (model prog w) A.in1 (ACE (.ref D) (.ref r) res)
   (λfin s'=>match fin with | .done f=>R (.ok f) s' | .again c'=>c'.quiet=true/\codeAny (model prog w) A c' R s') (λe s'=>R (.error e) s') s:=by
 have lD:D<s.heap.objs.size:=AAG hD
 have ld:d<s.heap.objs.size:=hm.lt
 have go:∀(h:Heap) (c1 tk:Nat),(∀b o,b≠D->(s.heap.push { cls:=.type "dict_itemiterator",data:=.fields #[.none,.bool false,.ref d,.int 0 0,.int es.size 0,.int ep 0,.none,.none] }).get? b=some o->h.get? b=some o) ->
   h.get? D=some { cls:=.type "list",data:=.seq #[] c1 }->codeAny (model prog w) A (.builtin "list.extend.loop" ⟨[.ref D,.ref s.heap.objs.size,res],[]⟩) R { s with heap:=h,toks:=tk }:=λh c1 tk kk hD1=>by
  have hI:=kk s.heap.objs.size _ (ABU lD) (AAE _ rfl)
  ~Bu (h0:=s.heap) hh lD hDd (AAQ ld) hn res (λh' tk' acc c as k' hS' hl hG hacc=>hR h' tk' acc c as (λb o hb e=>k' b o hb (AAQ (AAG e)) e) hS' hl hG hacc)
   es.size 0 h tk c1 #[] [] (Nat.sub_zero _) (AAT _) ⟨_,_,_,_,hI,.inl ⟨rfl,rfl⟩⟩ (hm.to λo e=>kk d o hDd (AA4 _ e)) (λb o hb _ e=>kk b o hb (AA4 _ e)) hD1 rfl rfl ⟨ADJ,(λ_ z=>nomatch z),(λj a z=>by simp at z)⟩ (AAG hI)
 unfold ACE
 !AA0 (ACg (T:="dict_items") hv.typeIs ?_)
 have e1:ACe (.ref D) (.ref r)=false:=by simp[ACe,hDr]
 have e2:(ACo "dict_items" == ACo "list")=false:=by decide
 have e3:(ACo "dict_items" == ACo "tuple")=false:=by decide
 simp only[e1,e2,e3,Bool.or_false,AAF,if_false]
 !AA0 (EN hv hm ?_)
 have hD1:=AA4 { cls:=.type "dict_itemiterator",data:=.fields #[.none,.bool false,.ref d,.int 0 0,.int es.size 0,.int ep 0,.none,.none] } hD
 !AA0 (AAp (kdx_hint (let ⟨o,ho,hc,_⟩:=hv;⟨o,AA4 _ ho,hc⟩) ?_))
 !ABc (λ_=>?_) (λ_=>AA3 ⟨ABv ABx _,go _ c0 _ (λb o _ e=>e) hD1⟩)
 !AA0 (ACL (AA0 (show wpAny (model prog w) _ (updateSeq D (·.push .none) >>= λ_=>updateSeq D (·.pop)) _ _ _ from AA0 (ADe hD1 rfl ?_))))
 have hD2:=AAZ (ABZ (·.push ABb)) hD1 rfl
 !ADe (hz:=by seq_fits) hD2 rfl ?_
 have hD3:=AAZ (ABZ (·.pop)) hD2 rfl
 ~AA3 ⟨ABv ABx _,go _ _ _ (λb o hb e=>(ABE _ _ (AAz hb)).trans ((ABE _ _ (AAz hb)).trans e)) hD3⟩
¶uv{Q:Value->Shared->Prop}{r:Addr}(hh:A.handled=none)(hv:s.heap.IsItemsView r d)(hm:iH s.heap d es ep)(hz:es.size<=sizeLine)
  (h:∀h' tk as,(∀b u,s.heap.get? b=some u->h'.get? b=some u)->as.length=es.size->PairsAt es s.heap.objs.size h' as ->
   wpAny (model prog w) A.in1 (call (.builtin "list.sort") [.ref h'.objs.size]) (λ_ s'=>Q (.ref h'.objs.size) s') E { s with heap:=h'.push { cls:=.type "list",data:=.seq (as.map AB3).toArray },toks:=tk }):wpAny (model prog w) A (call (.builtin "sorted") [.ref r]) Q E s:=by
 have lr:r<s.heap.objs.size:=let ⟨_,ho,_⟩:=hv;AAG ho
 !call_function_entry kind_sorted plain_sorted entry_sorted (args_sorted1 _) ?_
 unfold Builtin.«sorted»
 !AA0 (m:=checkCount "sorted" 1 1 _) (AA3 ?_)
 unfold collect
 !AA0 (AA0 (wpAny_runValue (ABW F.entry_proto_collect ?_)))
 rw[AB9 F.plain_proto_collect _]
 !(show wpAny (model prog w) _ (newList [] >>= λl=>again (.builtin "list.__iadd__" ⟨[l,.ref r],[]⟩)) _ _ s from AA0 (AAj (AA3 ⟨ABv F.plain_list_iadd _,ABW F.entry_list_iadd ?_⟩)))
 rw[AB9 F.plain_list_iadd _]
 have key:=vX (prog:=prog) (w:=w) (A:=A.in1) (d:=d) (es:=es) (ep:=ep) (r:=r) (s:={ s with heap:=s.heap.push { cls:=.type "list",data:=.seq ([]:List Value).toArray } }) (D:=s.heap.objs.size) (c0:=0) (res:=.ref s.heap.objs.size)
  (R:=λr s'=>∃h' tk acc c as,r=.ok (.ret (.ref s.heap.objs.size))/\s'={ s with heap:=h',toks:=tk }/\(∀b u,s.heap.get? b=some u->h'.get? b=some u)/\h'.get? s.heap.objs.size=some { cls:=.type "list",data:=.seq acc c }/\as.length=es.size/\PairsAt es s.heap.objs.size h' as/\acc.toList=as.map AB3)
  (by simp[hh]) (let ⟨o,ho,x⟩:=hv;⟨o,AA4 _ ho,x⟩) (hm.to λo e=>AA4 _ e) (ABU lr) (AAQ hm.lt) hz (AAE _ rfl)
  λh' tk acc c as k hD hl hG hacc=>⟨h',tk,acc,c,as,rfl,rfl,λb u e=>k b u (AAQ (AAG e)) (AA4 _ e),hD,hl,⟨hG.nd,λa ha=>Nat.lt_of_le_of_lt (by show s.heap.objs.size<=(s.heap.push _).objs.size;rw[AB1];~ADn _) (hG.above a ha),hG.tup⟩,hacc⟩
 have last:∀h' tk (acc:Array Value) c as,(∀b u,s.heap.get? b=some u->h'.get? b=some u)->h'.get? s.heap.objs.size=some { cls:=.type "list",data:=.seq acc c }->as.length=es.size->PairsAt es s.heap.objs.size h' as->acc.toList=as.map AB3 ->
   wpAny (model prog w) A.in1 (do let ob ←load s.heap.objs.size;match ob.data with | .seq xs _=>pure xs.toList | _=>unsupported "internal:collect":Sem (List Value))
    (λxs s'=>wpAny (model prog w) A.in1 (do let l ←newList xs;let _ ←holding [l] (call (.builtin "list.sort") [l] []);ret l) (λfin s'=>∃v,fin=Fin.done (Flow.ret v)/\Q v s') E s') E { s with heap:=h',toks:=tk }:=λh' tk acc c as kk hD hl hG hacc=>by
  !AA0 (wpAny_load hD (AA3 (AA0 (AE5 ?_ (by rw[hacc,AA6];&)))))
  rw[hacc]
  ~AA0 (AAp (ABi (h h' tk as kk hl hG) (λ_ s' q=>AA3 ⟨_,rfl,q⟩) λ_ _ z=>z))
 !ABi key (λfin s' x=>?_) λe s' ⟨_,_,_,_,_,z,_⟩=>by cases z
 cases fin with
 | done f =>
  #⟨h',tk,acc,c,as,z,rfl,kk,hD,hl,hG,hacc⟩:=x
  cases z
  ~last h' tk acc c as kk hD hl hG hacc
 | again c' =>
  !⟨x.1,ADR x.2 λr s2 ⟨h',tk,acc,c,as,z,e,kk,hD,hl,hG,hacc⟩=>?_⟩
  subst z e
  ~last h' tk acc c as kk hD hl hG hacc
end
end L2
namespace L2
open PySem PySem.Spec PyProof.Rows DL PySem.W PySem.Calls PyProof.V
def wP(H:Hp)(ts:List (Addr×List V)):Hp:=λb=>match ts.lookup b with
 | some vs=>some (.tup vs)
 | none=>H b
¶zO{ts:List (Addr×List V)}{b:Addr}{vs:List V}(h:ts.lookup b=some vs):(b,vs)∈ts:=by
 induction ts with
 | nil=>cases h
 | cons t ts ih =>
  rw[ABY]at h
  cases e:(b==t.1) with
  | true =>
   rw[e]at h
   have:b=t.1:=by simpa using e
   cases h
   rw[this];simp
  | false =>
   rw[e]at h
   ~AA9 _ (ih h)
¶zN:∀{as:List Addr}{us:List (List V)}{j:Nat}{a:Addr}{q:List V},as.Nodup->as[j]?=some a->us[j]?=some q->(as.zip us).lookup a=some q
 | [],_,_,_,_,_,h,_=>by simp at h
 | _::_,[],_,_,_,_,_,h=>by simp at h
 | b::as,u::us,0,a,q,_,h1,h2=>by
  simp at h1 h2
  subst h1 h2
  simp[ABL,ABY]
 | b::as,u::us,j+1,a,q,nd,h1,h2=>by
  rw[ABG]at nd
  have m:a∈as:=AAu (by simpa using h1)
  have ne:(a==b)=false:=by
   rw[beq_eq_false_iff_ne]
   rintro rfl
   ~nd.1 m
  rw[ABL,ABY,ne]
  ~zN nd.2 (by simpa using h1) (by simpa using h2)
section
variable{X:Cx}{pins:List (Addr×Obj)}{σ:St}{H:Hp}{s:Shared}
¶qS{ts:List (Addr×List V)}{b:Addr}(h:∀p∈ts,p.1≠b):wP H ts b=H b:=by
 unfold wP
 cases e:ts.lookup b with
 | none=>rfl
 | some vs=>~absurd rfl (h _ (zO e))
¶Inv.laidT{ts:List (Addr×List V)}{h':Heap}{t':Nat}{m:Str->Option Value}(I:Inv X pins σ H s)(k:∀b u,b≠X.env.locals->s.heap.get? b=some u->h'.get? b=some u)(hn:s.heap.Ns X.env.locals m)(hn':h'.Ns X.env.locals m)
  (fr:∀p∈ts,s.heap.get? p.1=none) (new:∀b vs,ts.lookup b=some vs->cL X.prog X.w (wP H ts) h' b (.tup vs)):Inv X pins σ (wP H ts) { s with heap:=h',toks:=t' }:=by
 have fa:∀p∈ts,H p.1=none:=λp hp=>HOk.none I.hok (fr p hp)
 have old:∀b u,s.heap.get? b=some u->wP H ts b=H b:=λb u e=>qS λp hp z=>by rw[←z,fr p hp]at e;cases e
 have trk:∀b u,H b=some u->wP H ts b=some u:=λb u e=>by
  rw[qS λp hp z=>by rw[←z,fa p hp]at e;cases e];~e
 !I.step (g':=s.gens) (d':=s.drawn) (ch:=[]) (λ_ z=>nomatch z) (λb u hL _ _ e _=>k b u hL e) (λb u hL _ _ e _=>⟨u.slots,k b u hL e⟩) (λb u _ e n=>by rw[old b u e];~n) (λb u _ e=>?_)
  (λb xs q=>trk b _ q) (λb u xs q=>trk b _ q) (λb ps q=>⟨#[],by rw[trk b _ q];simp⟩) (λm' hm=>?_) (λb w q=>?_) I.bare
 ·by_cases hb:b=X.env.locals
  ·subst hb
   #⟨o',_,_,ho,_⟩:=hn'
   ~⟨o',ho⟩
  ·~⟨u,k b u hb e⟩
 ·have:m=m':=funext λx=>hn.agree hm x
  subst this
  ~hn'
 ·cases e:ts.lookup b with
  | some vs =>
   have:wP H ts b=some (.tup vs):=by unfold wP;rw[e]
   rw[this]at q
   cases q
   ~new b vs e
  | none =>
   have:wP H ts b=H b:=by unfold wP;rw[e]
   rw[this]at q
   !(I.hok b w q).stay (λc v hc r=>k c v ?_ r) (λc z=>trk c _ z) λc xs z=>trk c _ z
   rcases hc with rfl | hc
   ·~au q I.free
   ·~au hc I.free
end
section
variable{K:AA5}{ρ:List Addr}{H H':Hp}{M:Mem}
¶Grow.more(ag:∀b u,H b=some u->H' b=some u):Grow K ρ H ρ H':=⟨ACc,λa xs h=>by
 rcases h with h | h
 ·rcases h with h | ⟨ob,h⟩
  ·~.inl (.inl (ag _ _ h))
  ·~.inl (.inr ⟨ob,ag _ _ h⟩)
 ·~.inr h⟩
¶Sim.more(S:Sim K ρ M H)(ag:∀b u,H b=some u->H' b=some u):Sim K ρ M H' :=
 ⟨S.nd,S.len,λn a mo e1 e2=>(S.obj n a mo e1 e2).grow (Grow.more ag) (by
  rcases S.tracked e1 with⟨ob,hob⟩ | q
  ·~.inl ((ag _ _ hob).trans hob.symm)
  ·rw[e2]at q;~.inr q)⟩
end
section
variable{X:Cx}{o:Expr}{to:DTE}{apos cpos p pos:Pos}{k:Nat}
def cX(kvs:List (D×D)):List D:=kvs.map λp=>.tup [p.1,p.2]
def iB(to:DTE):DTE:=λS M Q=>to S M λd M1=>match d with
 | .ref n=>∃kvs,M1[n]?=some (.dkt kvs)/\SrtOk M1 (cX kvs)/\∀ys,ys.Perm (cX kvs)->BN M1 ys->Q (.ref M1.length) (M1++[.lst ys])
 | _=>False
¶JN{K:AA5}{ρ:List Addr}{H:Hp}{kvs:List (D×D)}{xs:List (D×Addr×Value)}(r:Paired (BP K ρ H) kvs xs):∃us:List (List V),us.length=kvs.length/\∀(j:Nat) x,xs[j]?=some x->∃p v,kvs[j]?=some p/\us[j]?=some [.ref x.2.1,v]/\Rep K ρ H p.1 (.ref x.2.1)/\Rep K ρ H p.2 v/\bi v x.2.2:=by
 induction r with
 | nil=>~⟨[],rfl,λj x e=>by simp at e⟩
 | @cons p q ps qs h t ih =>
  #⟨us,hl,hu⟩:=ih
  #⟨_,_,h3,v,h4,h5⟩:=h
  !⟨[.ref q.2.1,v]::us,by rw[AAA,AAA,hl],λj x e=>?_⟩
  cases j with
  | zero=>simp at e;subst e;~⟨p,v,rfl,rfl,h3,h4,h5⟩
  | succ j=>~hu j x (by simpa using e)
¶CY{K:AA5}{ρ:List Addr}{H:Hp}:∀(ds:List D) (as:List Addr),ds.length=as.length->(∀(j:Nat) d a,ds[j]?=some d->as[j]?=some a->Rep K ρ H d (.ref a))->Reps K ρ H ds (as.map V.ref)
 | [],[],_,_=>.nil
 | [],_::_,e,_=>by simp at e
 | _::_,[],e,_=>by simp at e
 | d::ds,a::as,e,h=>.cons (h 0 d a rfl rfl) (CY ds as (by simpa using e) λj d' a' h1 h2=>h (j+1) d' a' (by simpa using h1) (by simpa using h2))
¶pZ:∀as:List Addr,aL (as.map V.ref) (as.map AB3)
 | []=>.nil
 | a::as=>.cons rfl (pZ as)
¶yO(hr:Room k X.A)(hc:X.calm=true)(ho:DE X o to)(hm:X.mg "sorted" = none)(hg:X.env.kindOf "sorted" = some .globalImplicit)
  (hs:starEach [AEH (.Attribute o "items" apos) [] [] cpos] X.env=[(false,eval (AEH (.Attribute o "items" apos) [] [] cpos) X.env)])
  (hbase:attributeBase o "items" X.env (eval o X.env)=eval o X.env) (hline:(apos.endLine==cpos.line)=true) :
  DE X (.Call (.Name "sorted" p) [.Call (.Attribute o "items" apos) [] [] cpos] [] pos) (iB to):=by
 intro pins s σ H R I ⟨S,M,ρ,Q,sm,sr,q,kk⟩
 !ACR (jU I hg hm (by rfl) ?_)
 !callWith_builtin1 ?_ (by rw[hs];rfl) rfl
 rw[hs]
 !ADW (wpAny_Call_method0_late hbase hline (thn (ho pins s σ H _ I ⟨S,M,ρ,_,sm,sr,q,λv H' w=>w⟩) λu s1 ⟨v,H1,I1,rv,x,M1,ρ1,sm1,g1,r1,q1⟩=>?_))
 cases r1 with
 | @ref n a hn =>
  cases rv
  #⟨kvs,hM,so,q2⟩:=(show ∃kvs,M1[n]?=some (.dkt kvs)/\SrtOk M1 (cX kvs)/\∀ys,ys.Perm (cX kvs)->BN M1 ys->Q (.ref M1.length) (M1++[.lst ys])from q1)
  #⟨xs,hH,r,dd,hsm,hz,hx,nd⟩:=IG I1 sm1 hn hM
  #⟨es,em,el,eg⟩:=NN I1 hH
  !⟨"dict","dict.items",PySem.F.plainAttrs_dict,PySem.F.slot_dict_items,PySem.F.type_dict_items,dd.typeIs,λb z=>?_,Calls.callWith_builtin rfl (PySem.evalArgs_none (EL hsm em ?_))⟩
  ·cases z
   #⟨ob,_,_,h1,h2,_⟩:=dd
   ~⟨ob,h1,h2.2.1⟩
  !ADk ?_
  have I2:Inv X pins σ H1 { s1 with heap:=s1.heap.push { cls:=.type "dict_items",data:=.fields #[.ref a] } }:=I1.kept (t':=s1.toks) λb o e=>AA4 _ e
  have em2:iH ({ s1 with heap:=s1.heap.push { cls:=.type "dict_items",data:=.fields #[.ref a] } }:Shared).heap a es xs.length:=em.to λo e=>AA4 _ e
  have vw:({ s1 with heap:=s1.heap.push { cls:=.type "dict_items",data:=.fields #[.ref a] } }:Shared).heap.IsItemsView s1.heap.objs.size a:=⟨_,AAE _ rfl,rfl,rfl⟩
  generalize ({ s1 with heap:=s1.heap.push { cls:=.type "dict_items",data:=.fields #[.ref a] } }:Shared)=s2 at I2 em2 vw ⊢
  !uv (I2.ok.hd hc) vw em2 ¤ λhb tk as kp hl hG=>?_
  #⟨us,ul,hu⟩:=JN r
  #⟨m,hns,hm'⟩:=I2.loc
  have hns':hb.Ns X.env.locals m:=by
   #⟨o',es',ep',e,bn⟩:=hns
   ~⟨o',es',ep',kp _ _ e,bn⟩
  have fr:∀p∈as.zip us,s2.heap.get? p.1=none:=λp hp=>by
   have lo:=hG.above p.1 (ADX hp).1
   cases qq:s2.heap.get? p.1 with
   | none=>rfl
   | some o'=>~absurd (ADx (AAG qq) lo) (AAq _)
  have ag:∀b u,H1 b=some u->wP H1 (as.zip us) b=some u:=λb u e=>by
   rw[qS λp hp z=>by rw[←z,HOk.none I2.hok (fr p hp)]at e;cases e];~e
  have at_:∀(j:Nat) b,as[j]?=some b->∃pp x vv,kvs[j]?=some pp/\xs[j]?=some x/\us[j]?=some [.ref x.2.1,vv]/\Rep X.K ρ1 H1 pp.1 (.ref x.2.1)/\Rep X.K ρ1 H1 pp.2 vv/\bi vv x.2.2/\hb.get? b=some { cls:=.type "tuple",data:=.seq #[.ref x.2.1,x.2.2] }:=λj b hj=>by
   have lj:=(AA2.mp hj).1
   have hxj:xs[j]?=some (xs[j]'¤):=AA7 ¤
   #⟨pp,vv,e1,e2,e3,e4,e5⟩:=hu j _ hxj
   #⟨e,f1,f2⟩:=hG.tup j b hj
   #⟨e',f3,f4,f5⟩:=eg j _ hxj
   rw[f1]at f3
   #rfl:=AAR f3
   rw[f4,f5]at f2
   ~⟨pp,_,vv,e1,hxj,e2,e3,e4,e5,f2⟩
  have I3:Inv X pins σ (wP H1 (as.zip us)) { s2 with heap:=hb,toks:=tk }:=I2.laidT (λb u _ e=>kp b u e) hns hns' fr λb vs e=>by
   #⟨j,hj⟩:=AAv (zO e)
   #⟨z1,z2⟩:=List.getElem?_zip_eq_some.mp hj
   #⟨pp,x,vv,_,_,e2,_,_,e5,f2⟩:=at_ j b z1
   rw[show us[j]?=some vs from z2]at e2
   #rfl:=AAR e2
   ~⟨by show (2:Nat)<=sizeLine;rw[ABm];&,[.ref x.2.1,x.2.2],.cons rfl (.cons e5 .nil),⟨_,f2,rfl,⟨0,rfl⟩,rfl⟩⟩
  have gr:Grow X.K ρ1 H1 ρ1 (wP H1 (as.zip us)):=Grow.more ag
  have rps:Reps X.K ρ1 (wP H1 (as.zip us)) (cX kvs) (as.map V.ref):=CY _ _ (by unfold cX;rw[AA6];&) λj dd' b h1 h2=>by
   #⟨pp,x,vv,e0,_,e2,e3,e4,_,_⟩:=at_ j b h2
   unfold cX at h1
   rw[AAU,e0]at h1
   #rfl:=AAR h1
   !.tup (SqT.of (show wP H1 (as.zip us) b=some (.tup [.ref x.2.1,vv])from ?_)) (.cons (e3.grow gr) (.cons (e4.grow gr) .nil))
   unfold wP
   rw[zN hG.nd h2 e2]
  have lL:X.env.locals<hb.objs.size:=by
   #⟨o',_,_,e,_⟩:=hns'
   ~AAG e
  have hD:hb.get? hb.objs.size=none:=by
   cases qq:hb.get? hb.objs.size with
   | none=>rfl
   | some o'=>~absurd (AAG qq) (AAq _)
  !xr (s:={ s2 with heap:=hb,toks:=tk }) (tk:=tk) (n:=0) hr (by show X.A.units+1<=X.A.units+4;&) I3 (sm1.more ag) so.g rps (pZ as) hns' ?_ (λb u _ e=>AA4 _ e) hD (ABU lL) (AAE _ rfl) λv H' z=>kk v H' (VQ.trans (g1.trans gr) (z Q q2))
  #⟨o',es',ep',e,bn⟩:=hns'
  ~⟨o',es',ep',AA4 _ e,bn⟩
 | _=>~q1.elim
¶yq(hr:Room k X.A)(ho:HE X o to)(hm:X.mg "sorted" = none)(hc:X.calm=true:=by kernel_rfl)(hg:X.env.kindOf "sorted" = some .globalImplicit:=by kernel_rfl)
  (hs:starEach [AEH (.Attribute o "items" apos) [] [] cpos] X.env=[(false,eval (AEH (.Attribute o "items" apos) [] [] cpos) X.env)]:=by kernel_rfl)
  (hbase:attributeBase o "items" X.env (eval o X.env)=eval o X.env:=by kernel_rfl) (hline:(apos.endLine==cpos.line)=true:=by kernel_rfl) :
  HE X (.Call (.Name "sorted" p) [.Call (.Attribute o "items" apos) [] [] cpos] [] pos) (iB to):=⟨yO hr hc ho.ok hm hg hs hbase hline⟩
end
end L2
namespace L2
open PySem PySem.Spec PyProof.Rows DL PySem.W
section
variable{X:Cx}
end
noncomputable def dictOf(ps:List (D×D)):List (D×D):=ps.foldl (λkvs p=>xJ kvs p.1 p.2) []
¶oR{ps:List (D×D)}{p:D×D}:dictOf (ps++[p])=xJ (dictOf ps) p.1 p.2:=by
 unfold dictOf
 rw[List.foldl_append];rfl
¶vV:∀(ps kvs:List (D×D)),(ps.foldl (λkvs p=>xJ kvs p.1 p.2) kvs).length<=kvs.length+ps.length
 | [],_=>AAC _
 | p::ps,kvs=>by
  have h1:=vV ps (xJ kvs p.1 p.2)
  have h2:=rL (kvs:=kvs) (k:=p.1) (d:=p.2)
  rw[AEG,AAA];&
¶kY{ps:List (D×D)}:(dictOf ps).length<=ps.length:=by
 have:=vV ps []
 rw[AAW,Nat.zero_add]at this
 ~this
¶vZ:entryFor table "dict.update.loop" = some Builtin.«dict.update.loop»:=entryFor_of_tree (by kernel_rfl)
¶jM:plainId "dict.update.loop" = true:=by decide +kernel
section
variable{prog:Program}{w:World}{A:Around}{E:Value->Shared->Prop}{h:Heap}{g:Array GenState}{d:Drawn}{t:Nat}{os:OsState}{a:Addr}{o:Obj}
end
¶dsetE{prog:Program}{w:World}{A:Around}{E:Value->Shared->Prop}{s:Shared}{d b:Addr}{k:D}{v:Value}{xs:List (D×Addr×Value)}{Q:Unit->Shared->Prop}(hu:(dc prog w).room A)(kat:(dc prog w).is s.heap k b)
  (hm:s.heap.DictOfH (dc prog w) d xs) (hx:dX d xs prog w s.heap) (hz:xs.length<=sizeLine)
  (hQ:∀h',dX d (storedH xs k b v) prog w h'->ABO d s.heap h'->Q () { s with heap:=h',toks:=s.toks+(dc prog w).draws k }):wpAny (model prog w) A (dictSet d (.ref b) v) Q E s:=by
 #⟨_,_,_,_,_,_,_,his,hn⟩:=hm
 #⟨o,es,ho,hc,hd,he'⟩:=hx
 have he:es.toList=xs.map (entryOfKey (dc prog w)):=he'
 unfold dictSet
 try with_reducible !AAp ?_
 !AA0 ((dc prog w).pyHash hu kat ?_)
 unfold dictSetHashed
 try with_reducible !AAp ?_
 have hl:es.size=xs.length:=size_of_entries he
 !AA0 (wpAny_dictFind_heap (s:={ s with toks:=s.toks+(dc prog w).draws k }) hu kat ho hd he his hn (λhno=>?_) λj p hj=>?_)
 ·!AA0 (ACL (wpAny_updateDictKeys (hz:=¤) (s:={ s with toks:=s.toks+(dc prog w).draws k }) ho hd (hQ _ ⟨_,es.push ⟨(dc prog w).hash k,.ref b,v⟩,AAZ _ ho (ADO (ADA hd _)),hc.mapDictKeys _,?_,?_⟩ (AB2 ..))))
  ·rw[ADA hd,storedH_new (ADt hno),AA8];rfl
  ·rw[storedH_new (ADt hno)]
   rw[ADq,he,ABR]
   rfl
 ·!AA0 (ACL (AA0 (wpAny_updateDict (s:={ s with toks:=s.toks+(dc prog w).draws k }) ho hd (wpAny_point (hQ _ ⟨_,es.modify j λe=>{ e with val:=v },AAZ _ ho (ADO (AE3 hd _)),hc.mapDict _,?_,?_⟩ (AB2 ..))))))
  ·rw[AE3 hd,storedH_old (atKey_of_get hn hj),AA6]
  ·rw[storedH_old (atKey_of_get hn hj)]
   have q:=modify_map_putAt (entryOfKey (dc prog w)) (λe:DictEntry=>{ e with val:=v }) k v (λ_ _=>rfl) hn hj
   rw[←he]at q
   #⟨l⟩:=es
   have q2:(Array.modify ⟨l⟩ j λe:DictEntry=>{ e with val:=v }).toList=(xs.map (putAt k v)).map (entryOfKey (dc prog w)):=by simpa using q
   ~q2
section
variable{X:Cx}{pins:List (Addr×Obj)}{σ:St}{H:Hp}{ρ:List Addr}{M:Mem}{A:Around}{E:Value->Shared->Prop}{s:Shared}
structure DD(X:Cx)(ρ:List Addr)(H:Hp)(h:Heap)(a:Addr)(kvs:List (D×D))(xs:List (D×Addr×Value)):Prop where
 dx:dX a xs X.prog X.w h
 kv:Paired (BP X.K ρ H) kvs xs
 nd:(kvs.map (·.1)).Nodup
¶DD.at{h h':Heap}{a:Addr}{kvs:List (D×D)}{xs:List (D×Addr×Value)}(x:DD X ρ H h a kvs xs)(k:∀o,h.get? a=some o->h'.get? a=some o):DD X ρ H h' a kvs xs:=by
 #⟨⟨o,es,e1,e2,e3,e4⟩,kv,nd⟩:=x
 ~⟨⟨o,es,k _ e1,e2,e3,e4⟩,kv,nd⟩
¶DD.len{h:Heap}{a:Addr}{kvs:List (D×D)}{xs:List (D×Addr×Value)}(x:DD X ρ H h a kvs xs):xs.length=kvs.length:=by
 have:=congrArg ACy (yh x.kv)
 rwa [AA6,AA6]at this
¶DD.of{a:Addr}{kvs:List (D×D)}{xs:List (D×Addr×Value)}(I:Inv X pins σ H s)(x:DD X ρ H s.heap a kvs xs):s.heap.DictOfH (dc X.prog X.w) a xs:=by
 #⟨o,es,e1,e2,e3,e4⟩:=x.dx
 have ek:=yh x.kv
 !⟨o,es,_,e1,e2,e3,e4,λy hy=>?_,by rw[ek];~x.nd⟩
 #⟨i,hi⟩:=AAv hy
 #⟨p,_,q1,q2,q3,_⟩:=jp x.kv hi
 rw[←q1]
 ~rH I 8 _ _ _ q3 rfl q2
¶Le(I:Inv X pins σ H s)(hu:A.units+20<cLine){R:Result->Shared->Prop}{J:Addr}{fp wr:List Addr}{m:Nat}{P:Nat->Value->Prop}{Sx:Nat->Heap->Prop}(W:Walks X.prog X.w A.in1 J fp wr m P Sx)(S:Addr)(hSf:S∉fp)
  (hS0:s.heap.get? S=none) (hw0:∀b∈wr,s.heap.get? b=none) (ps:List (D×D)) (hm:ps.length=m) (hval:∀i v,P i v->∃p,ps[i]?=some p/\(∃vv,Rep X.K ρ H (.tup [p.1,p.2]) vv/\bi vv v)/\eU 8 p.1=true/\jX p.1=true) (hb:m<=1000) :
  ∀(k i:Nat) (h:Heap) (tk:Nat) (xs:List (D×Addr×Value)) (j:Int) (t:Tok),m-i=k->i<=m->Sx i h->DD X ρ H h S (dictOf (ps.take i)) xs->(∀b u,s.heap.get? b=some u->h.get? b=some u) ->
   (∀h' tk xs',(∀b u,s.heap.get? b=some u->h'.get? b=some u)->DD X ρ H h' S (dictOf ps) xs'->R (.ok (.ret .none)) { s with heap:=h',toks:=tk }) ->
   codeAny (model X.prog X.w) A (.builtin "dict.update.loop" ⟨[.ref S,.ref J,.int j t,.none],[]⟩) R { s with heap:=h,toks:=tk }:=by
 have hSw:S∉wr:=λh=>hSf (W.sub _ h)
 intro k
 induction k with
 | zero =>
  intro i h tk xs j t hk hi hst hS hold hR
  obtain rfl:i=m:=¤
  !ABW vZ ?_
  rw[AB9 jM _]
  !(show wpAny (model X.prog X.w) A.in1 (pyNext (.ref J) >>= _) _ _ _ from AA0 (W.done _ _ _ hst λh' tk hk'=>?_))
  rw[←hm,AC3]at hS
  !(show wpAny (model X.prog X.w) A.in1 (Builtin.Dict.addKeywords S [] >>= _) _ _ _ from AA0 (AA3 (AA3 ?_)))
  ~hR h' tk xs (λb u e=>hk' b u (λz=>by rw[hw0 b z]at e;cases e) (hold b u e)) (hS.at λo e=>hk' S o hSw e)
 | succ k ih =>
  intro i h tk xs j t hk hi hst hS hold hR
  !ABW vZ ?_
  rw[AB9 jM _]
  !(show wpAny (model X.prog X.w) A.in1 (pyNext (.ref J) >>= _) _ _ _ from AA0 (W.item i _ _ _ ¤ hst λv h' tk hP hst' hk'=>?_))
  #⟨p,hp,⟨vv,r,rv⟩,kd,it⟩:=hval i v hP
  have old':∀b u,s.heap.get? b=some u->h'.get? b=some u:=λb u e=>hk' b u (λz=>by rw[hw0 b z]at e;cases e) (hold b u e)
  have I':Inv X pins σ H { s with heap:=h',toks:=tk }:=I.kept old'
  have hS':=hS.at λo e=>hk' S o hSw e
  have hl:=hS'.len
  have dl:=kY (ps:=ps.take i)
  have dd:=hS'.of (s:={ s with heap:=h',toks:=tk }) I'
  #⟨a,vs,rfl,hq,rr⟩:=Rep.inv_tup r
  cases rv
  first | have hzz:=Reps.inv_cons rr | have hzz:=aL.inv_cons rr
  clear rr
  #⟨_,_,rfl,r1,rr⟩:=hzz
  first | have hzz:=Reps.inv_cons rr | have hzz:=aL.inv_cons rr
  clear rr
  #⟨_,_,rfl,r2,rr⟩:=hzz
  cases rr
  #⟨its,r2',pl,hz⟩:=I'.tuple hq
  #⟨u1,u2,rfl,e1,e2⟩:=aL.two r2'
  #⟨k0,d0⟩:=p
  cases k0 with
  | tup ks =>
   have kat:=rH I' 8 _ _ _ r1 e1 kd
   #⟨b,_,rfl,_⟩:=id kat
   #⟨_,_,rfl,hq1,rr1⟩:=Rep.inv_tup r1
   cases e1
   #⟨o,ho,hc,nn,hd⟩:=pl
   have hT:({ s with heap:=h',toks:=tk }:Shared).TypeIs (.ref a) "tuple":=⟨o,ho,hc⟩
   !AA0 (AAp (AA0 (wpAny_tryCatch ?_)))
   unfold Builtin.Dict.pairItems
   !AA0 (ACg hT ?_)
   rw[if_pos (by decide)]
   !AA0 (ABM ho hd (AA3 ?_))
   !(show wpAny (model X.prog X.w) _ (holding [.ref b,u2] (dictSet S (.ref b) u2)) _ _ _ from AAp ?_)
   !dsetE (k:=.tup ks) (s:={ s with heap:=h',toks:=tk }) (by show A.units+1+8<cLine;&) kat dd hS'.dx (aC (by rw[hl];rw[AAh]at dl;&)) λh2 dx2 sb=>?_
   have k2:∀b u,b≠S->h'.get? b=some u->h2.get? b=some u:=λb u hb e=>(sb.2 b hb).trans e
   have kv2:=Iv hS'.kv kd (.tup hq1 rr1) r2 e2
   have et:ps.take (i+1)=ps.take i++[(.tup ks,d0)]:=by rw[ABl,hp];rfl
   !AA3 ⟨ABv jM _,ih (i+1) h2 _ _ _ _ ¤ ¤ (W.frame _ h' h2 hst' λb' hb' o e=>k2 b' o (λz=>hSf (z ▸ hb')) e) ⟨dx2,?_,?_⟩ (λb u e=>k2 b u (λz=>by rw[z,hS0]at e;cases e) (old' b u e)) hR⟩
   ·rw[et,oR];~kv2
   ·rw[et,oR];~rK hS'.nd
  | _=>cases it
end
section
variable{X:Cx}{k:Nat}
end
end L2
namespace L2
open PySem PySem.Spec PyProof.Rows DL PySem.W
def tm(P:Params)(K:AA5):List DictEntry->List (Str×List Str)->Prop
 | [],[]=>True
 | e::r,p::kr=>(∃(t:Tok) (b:Addr) (o:Obj) (its:Array Value) (m:Nat),e=⟨PyData.keyHash P p.1,.str p.1 t,.ref b⟩/\K.lookup b=some o/\o.cls=.type "tuple"/\o.dict=none/\o.data=.seq its m/\its.size<=sizeLine/\aL (p.2.map V.str) its.toList)/\tm P K r kr
 | _,_=>False
def Ij(w:World)(K:AA5)(mg:Str->Option Value)(x:Str)(kvs:List (Str×List Str)):Prop :=
 ∃(a:Addr) (es:Array DictEntry) (n:Nat),mg x=some (.ref a)/\(a==sysModules)=false/\K.lookup a=some ⟨.type "dict",none,.dict es n,#[]⟩/\tm w.params K es.toList kvs
¶gdict_mk{w:World}{K:AA5}{h:Heap}{mg:Str->Option Value}{x:Str}{a:Addr}{es:Array DictEntry}{n:Nat}{kvs:List (Str×List Str)}(X:K.In h)(G:h.Ns mainGlobals mg)(ha:AD0 K mainGlobals x=some (some (.ref a)))
  (hs:(a==sysModules)=false) (hl:K.lookup a=some ⟨.type "dict",none,.dict es n,#[]⟩) (he:tm w.params K es.toList kvs):Ij w K mg x kvs:=⟨a,es,n,PySem.W.mg_of X G ha,hs,hl,he⟩
¶ents_cons{P:Params}{K:AA5}{r:List DictEntry}{k:Str}{ks:List Str}{kr:List (Str×List Str)}{t:Tok}{b:Addr}{its:Array Value}{m:Nat}{sl:Array (Option Value)}(l:K.lookup b=some ⟨.type "tuple",none,.seq its m,sl⟩)(s:its.size<=sizeLine)(v:aL (ks.map V.str) its.toList)(h:tm P K r kr) :
  tm P K (⟨PyData.keyHash P k,.str k t,.ref b⟩::r) ((k,ks)::kr):=⟨⟨t,b,_,its,m,rfl,l,rfl,rfl,rfl,s,v⟩,h⟩
section
variable{P:Params}{K:AA5}{z:Str}
¶tm.lit:∀{l:List DictEntry}{kvs:List (Str×List Str)},tm P K l kvs->KeysLit P l
 | [],[],_=>trivial
 | _::_,p::_,⟨⟨t,_,_,_,_,he,_⟩,h⟩=>⟨⟨p.1,t,by rw[he],by rw[he]⟩,tm.lit h⟩
 | [],_::_,h=>h.elim
 | _::_,[],h=>h.elim
¶tm.miss:∀{l:List DictEntry}{kvs:List (Str×List Str)},tm P K l kvs->kvs.find? (λp=>p.1==z)=none->l.find? (λe=>e.key.isStr z)=none/\l.any (λe=>e.refKey)=false
 | [],[],_,_=>⟨rfl,rfl⟩
 | _::_,p::_,⟨⟨t,b,o,its,m,he,_⟩,h⟩,hz=>by
  subst he
  rw[AB7]at hz
  cases hp:(p.1==z) with
  | true=>rw[hp]at hz;cases hz
  | false =>
   rw[hp]at hz
   #⟨h1,h2⟩:=tm.miss h hz
   !⟨?_,?_⟩
   ·simp only[AB7,Value.isStr,hp];~h1
   ·rw[ABe,h2];rfl
 | [],_::_,h,_=>h.elim
 | _::_,[],h,_=>h.elim
¶tm.hit{p:Str×List Str}:∀{l:List DictEntry}{kvs:List (Str×List Str)},tm P K l kvs->kvs.find? (λp=>p.1==z)=some p ->
  ∃(en:DictEntry) (b:Addr) (o:Obj) (its:Array Value) (m:Nat),l.find? (λe=>e.key.isStr z)=some en/\en.val=.ref b/\K.lookup b=some o/\o.cls=.type "tuple"/\o.dict=none/\o.data=.seq its m/\its.size<=sizeLine/\aL (p.2.map V.str) its.toList
 | [],[],_,hz=>nomatch hz
 | _::_,q::_,⟨⟨t,b,o,its,m,he,hx⟩,h⟩,hz=>by
  subst he
  rw[AB7]at hz
  cases hp:(q.1==z) with
  | true =>
   rw[hp]at hz
   #rfl:=AAR hz
   ~⟨⟨PyData.keyHash P q.1,.str q.1 t,.ref b⟩,b,o,its,m,by simp only[AB7,Value.isStr,hp],rfl,hx⟩
  | false =>
   rw[hp]at hz
   #⟨en,b',o',its',m',e,r⟩:=tm.hit h hz
   ~⟨en,b',o',its',m',by simp only[AB7,Value.isStr,hp];~e,r⟩
 | [],_::_,h,_=>h.elim
 | _::_,[],h,_=>h.elim
¶sW{α:Type}(p:α->Bool):∀l:List α,l.any p=(l.find? p).isSome
 | []=>rfl
 | a::l=>by
  rw[ABe,AB7]
  cases p a with
  | true=>rfl
  | false=>~(Bool.false_or _).trans (sW p l)
variable{a:Addr}{es:Array DictEntry}{n:Nat}{kvs:List (Str×List Str)}
¶ns_in(hl:K.lookup a=some ⟨.type "dict",none,.dict es n,#[]⟩)(he:tm P K es.toList kvs):∃r,AD0 K a z=some r/\r.isSome=kvs.any λp=>p.1==z:=by
 rw[sW]
 cases hz:kvs.find? (λp=>p.1==z) with
 | none =>
  #⟨h1,h2⟩:=he.miss hz
  !⟨none,?_,rfl⟩
  simp only[AD0,hl,h1,h2,AAF,↓reduceIte]
 | some p =>
  #⟨en,b,o,its,m,h1,h2,_⟩:=he.hit hz
  !⟨some en.val,?_,rfl⟩
  simp only[AD0,hl,h1]
¶ns_at{p:Str×List Str}(hl:K.lookup a=some ⟨.type "dict",none,.dict es n,#[]⟩)(he:tm P K es.toList kvs)(hz:kvs.find? (λp=>p.1==z)=some p):∃b,AD0 K a z=some (some (.ref b))/\∀H,SqT K H b (p.2.map V.str):=by
 #⟨en,b,o,its,m,h1,h2,h3,h4,h5,h6,h7,h8⟩:=he.hit hz
 !⟨b,?_,λH=>.inr ⟨o,its,m,h3,h4,h5,h6,h7,h8⟩⟩
 simp only[AD0,hl,h1,h2]
end
¶CZ{K:AA5}{ρ:List Addr}{H:Hp}:∀xs:List Str,Reps K ρ H (xs.map D.str) (xs.map V.str)
 | []=>.nil
 | x::xs=>.cons (.str x) (CZ xs)
def dGIn(neg:Bool)(kvs:List (Str×List Str))(te:DTE):DTE:=λS M Q=>te S M λd M1=>match d with
 | .str z=>Q (.bl ((kvs.any λp=>p.1==z) != neg)) M1
 | _=>False
def HU(kvs:List (Str×List Str))(te:DTE):DTE:=λS M Q=>te S M λd M1=>match d with
 | .str z=>∃p,kvs.find? (λp=>p.1==z)=some p/\Q (.tup (p.2.map .str)) M1
 | _=>False
def rGIn(neg:Bool)(a:Addr)(kvs:List (Str×List Str)):R2:=λx y H R=>∃z,x=.str z/\y=.ref a/\R (.bl ((kvs.any λp=>p.1==z) != neg)) H
def Me(K:AA5)(a:Addr)(kvs:List (Str×List Str)):R2:=λx y H R=>∃z p,x=.ref a/\y=.str z/\kvs.find? (λp=>p.1==z)=some p/\∀b,SqT K H b (p.2.map V.str)->R (.ref b) H
section
variable{X:Cx}{e:Expr}{te:DTE}{x:Str}{p pos:Pos}{a:Addr}{es:Array DictEntry}{n:Nat}{kvs:List (Str×List Str)}
¶GM{K:AA5}{neg:Bool}(σ:St)(H:Hp)(R:VK)(h:lowE K (dGIn neg kvs te) σ H R):tOp (rGIn neg a kvs) (lowE K te) (tC (.ref a)) σ H R:=by
 #⟨S,M,ρ,Q,s,sr,q,k⟩:=h
 !⟨S,M,ρ,_,s,sr,q,λv H' ⟨d,M1,ρ1,s1,g1,r1,q1⟩=>?_⟩
 cases d with
 | str z =>
  #rfl:=Rep.inv_str r1
  ~⟨z,rfl,rfl,k _ _ ⟨.bl _,M1,ρ1,s1,g1,.bl _,q1⟩⟩
 | _=>~q1.elim
¶DU{K:AA5}(σ:St)(H:Hp)(R:VK)(h:lowE K (HU kvs te) σ H R):tOp (Me K a kvs) (tC (.ref a)) (lowE K te) σ H R:=by
 #⟨S,M,ρ,Q,s,sr,q,k⟩:=h
 !⟨S,M,ρ,_,s,sr,q,λv H' ⟨d,M1,ρ1,s1,g1,r1,q1⟩=>?_⟩
 cases d with
 | str z =>
  #⟨p,hp,q2⟩:=q1
  #rfl:=Rep.inv_str r1
  ~⟨z,p,rfl,rfl,hp,λb hb=>k _ _ ⟨.tup (p.2.map .str),M1,ρ1,s1,g1,.tup hb (CZ p.2),q2⟩⟩
 | _=>~q1.elim
¶Dw(lo:(a==sysModules)=false)(hl:X.K.lookup a=some ⟨.type "dict",none,.dict es n,#[]⟩)(he:tm X.w.params X.K es.toList kvs):OpR X (compareOp .NotIn) (rGIn true a kvs):=by
 intro pins s σ H x y v u R I r1 r2 ⟨z,e1,e2,q⟩
 subst e1;subst e2
 #⟨t,rfl⟩:=r1
 obtain rfl:u=AB3 a:=r2
 #⟨r,hr,e⟩:=ns_in (z:=z) hl he
 !wpAny_notIn_of (strKind_is X.prog X.w z t) lo (mapOf_K (prog:=X.prog) (w:=X.w) I.kIn hl he.lit) ?_
 show EP X pins σ R (.bool (!(findBy Value.isStrOf es z).isSome)) _
 rw[find_K hl hr,e]
 rw[show ∀b:Bool,(b != true) = !b from λb=>by cases b<;>rfl]at q
 ~⟨.bl _,H,I.tok _,rfl,q⟩
¶Kv(hl:X.K.lookup a=some ⟨.type "dict",none,.dict es n,#[]⟩)(he:tm X.w.params X.K es.toList kvs):IxR X (Me X.K a kvs):=by
 intro value slice pins s σ H x y v u R I r1 r2 ⟨z,p,e1,e2,hp,q⟩ hs
 subst e1;subst e2
 #⟨t,rfl⟩:=r2
 obtain rfl:v=AB3 a:=r1
 #⟨b,hb,hq⟩:=ns_at hl he hp
 have hm:=mapOf_K (prog:=X.prog) (w:=X.w) I.kIn hl he.lit
 ~tail_any hm.typeIs slot_dict_getitem.lookup (wpAny_getItem_of (strKind_is X.prog X.w z t) hm (find_K hl hb) ⟨.ref b,H,I.tok _,rfl,q b (hq H)⟩) hs
¶Nf(G:Ij X.w X.K X.mg x kvs)(h:HE X e te)(hg:X.env.kindOf x=some .globalImplicit:=by kernel_rfl)(hb:(x==("__debug__":Str))=false:=by kernel_rfl)(hm:behindInMarks .NotIn (.Name x p)=false:=by kernel_rfl):HT X (.Compare e [.NotIn] [.Name x p] pos) (az (dGIn true kvs te)):=by
 #⟨a,es,n,h1,lo,hl,he⟩:=G
 ~⟨PT.imp (Dg (Dw lo hl he) h.ok (xK (v:=.ref a) hg h1 rfl hb) hm) λσ H R h=>by
  #⟨S,M,ρ,Q,s,sr,q,k⟩:=jS σ H R h
  ~GM σ H _ ⟨S,M,ρ,Q,s,sr,q,k⟩⟩
¶Nn(G:Ij X.w X.K X.mg x kvs)(h:HE X e te)(hg:X.env.kindOf x=some .globalImplicit:=by kernel_rfl)(hb:(x==("__debug__":Str))=false:=by kernel_rfl)(hs:sX e:=by intro _ _;kernel_rfl):HE X (.Subscript (.Name x p) e pos) (HU kvs te):=by
 #⟨a,es,n,h1,lo,hl,he⟩:=G
 ~⟨PE.imp (MA (Kv hl he) (xK (v:=.ref a) hg h1 rfl hb) h.ok hs) DU⟩
end
end L2
namespace L2
open PySem PySem.Spec PyProof.Rows DL PySem.W
abbrev EE(M:Mem)(R:DK):DEnds:=⟨λ_ M'=>aG M R .non M',aG M R,λ_ _=>False,λ_ _=>False⟩
def dst(n:Nat)(ds:List D):SD:=ds.map some++ADv (n-ds.length) none
abbrev WpT(Pr:DSp)(n:Nat)(t:DTS):Prop:=∀ds M R,Pr ds M R->t (EE M R) (dst n ds) M
abbrev du(Pr:DSp)(p:List Str):Prop:=∀ds M R,Pr ds M R->ds.length=p.length
abbrev cW(P:Program)(w:World)(K:AA5)(mg:Str->Option Value)(base:Heap)(k:Nat)(x:Str)(N:List Str)(st:Stmt)(t:DTS):Prop :=
 ∀(f:Addr) (cdv:Value) (A:Around) (outer:List Env) (s:Shared) (H:Hp) (E:XK),Room k (A.deeper (PyProof.Rows.envOfC x (ak st) s.heap.objs.size f cdv))->HB (BM CX0 P w K mg base N x (ak st) f cdv A outer s H E).nox (cI st) t
end L2
namespace L2
open PySem PySem.Spec PyProof.Rows DL PySem.W
section
variable{X:Cx}{c:Expr}{body:List Stmt}{tc:DTT}{tb:DTS}{pos:Pos}
end
end L2
namespace L2
open PySem PySem.Spec PyProof.Rows DL PySem.W
¶qU:typeLookup (.type "tuple") "keys" = pure none:=by rw[typeLookup_type,AE0];kernel_rfl
section
variable{prog:Program}{w:World}{A:Around}{E:Value->Shared->Prop}{h:Heap}{g:Array GenState}{d:Drawn}{t:Nat}{os:OsState}{a:Addr}{o:Obj}
¶FW{u:Tok}{R:Result->Shared->Prop}{its:Array Value}{nn:Nat}(hx:h.get? a=some o)(hc:o.cls=.type "tuple")(hdict:o.dict=none)(hdat:o.data=.seq its nn)(hA:A.handled=none)(hq:∀h' tk e,Heap.NewAttrErr h h' e (.ref a) "keys"->R (.error (.ref e)) ⟨h',g,d,tk,os⟩) :
  codeAny (model prog w) A (.call (.builtin "tuple.__getattribute__") ⟨[.ref a,.str "keys" u],[]⟩) R ⟨h,g,d,t,os⟩:=by
 #⟨oc,od,odt,osl⟩:=o
 obtain rfl:oc=.type "tuple":=hc
 obtain rfl:od=none:=hdict
 obtain rfl:odt=.seq its nn:=hdat
 have hT:(⟨h,g,d,t,os⟩:Shared).TypeIs (.ref a) "tuple":=⟨_,hx,rfl⟩
 have f4:=qU
 !codeAny_call_builtin ABu.plain PySem.F.entry_tuple_ga (ABu.check _ _ _ _ _ _ _ _ hT (PySem.F.args_tuple_getattribute_2 _ _) ?_)
 unfold Builtin.«object.__getattribute__»
 repeat (any_goals (first | assumption | wp_step))
 !wpAny_raiseAttrError (o:=.ref a) (name:="keys") (by first | ~hA | simpa using hA) hq ?_
 ~attrMsg_fits (by decide +kernel) (by size_fits)
¶AE{Q:Option Value->Shared->Prop}{its:Array Value}{nn:Nat}(hx:h.get? a=some o)(hc:o.cls=.type "tuple")(hdict:o.dict=none)(hdat:o.data=.seq its nn)(hA:A.handled=none)(hq:∀h' tk,(∀b ob,h.get? b=some ob->h'.get? b=some ob)->Q none ⟨h',g,d,tk,os⟩) :
  wpAny (model prog w) A (getAttr? (.ref a) "keys") Q E ⟨h,g,d,t,os⟩:=by
 #⟨oc,od,odt,osl⟩:=o
 obtain rfl:oc=.type "tuple":=hc
 obtain rfl:od=none:=hdict
 obtain rfl:odt=.seq its nn:=hdat
 have hT:∀tk,(⟨h,g,d,tk,os⟩:Shared).TypeIs (.ref a) "tuple":=λ_=>⟨_,hx,rfl⟩
 have f1:=sub_AttributeError
 have f2:=ABu.lookup
 have f3:=ABu.bind (.ref a)
 have f5:=PySem.am_tuple_getattr_none
 unfold getAttr? getAttrBy? getAttrBy
 repeat (any_goals (first | assumption | ~hT _ | wp_step))
 !FW hx rfl rfl rfl (by first | ~hA | simpa using hA) λh' tk e hx'=>?_
 #⟨t',u',he⟩:=hx'.there
 unfold getattributeRaised
 repeat (any_goals (first | assumption | wp_step))
 ~hq _ _ hx'.keeps
end
section
variable{X:Cx}{pins:List (Addr×Obj)}{σ:St}{H:Hp}{ρ:List Addr}{M:Mem}{A:Around}{E:Value->Shared->Prop}{s:Shared}
¶Inv.tupN{a:Addr}{xs:List V}(I:Inv X pins σ H s)(h:SqT X.K H a xs):∃its:List Value,aL xs its/\Ih s.heap a its.toArray/\xs.length<=sizeLine:=by
 rcases h with h | ⟨o,its,n,hk,hc,hd,hs,hz,r⟩
 ·#⟨z,its,r,p⟩:=h.ok I.hok
  ~⟨its,r,p,z⟩
 ·!⟨its.toList,r,⟨o,I.kIn a o hk,hc,⟨n,by simpa using hs⟩,hd⟩,?_⟩
  have e:=r.length
  simp only[AAO]at e
  &
¶Ib(I:Inv X pins σ H s)(hu:A.units+30<cLine)(hh:A.handled=none){l:Addr}{its:Array Value}{ol:Obj}{Q:Value->Shared->Prop}(hl:s.heap.IsTuple l its)(hol:s.heap.get? l=some ol)(hdict:ol.dict=none)(ps:List (D×D))(hm:ps.length=its.size)
  (hval:∀(i:Nat) v,its[i]?=some v->∃p:D×D,ps[i]?=some p/\(∃vv,Rep X.K ρ H (.tup [p.1,p.2]) vv/\bi vv v)/\eU 8 p.1=true/\jX p.1=true) (hb:its.size<=1000)
  (h:∀h' tk xs,(∀b u,s.heap.get? b=some u->h'.get? b=some u)->DD X ρ H h' s.heap.objs.size (dictOf ps) xs->Q (.ref s.heap.objs.size) { s with heap:=h',toks:=tk }) :
  wpAny (model X.prog X.w) A (call (.type "dict") [.ref l]) Q E s:=by
 !callType_codes (Q₁:=λobj s₁=>obj=.ref s.heap.objs.size/\s₁={ s with heap:=s.heap.push { cls:=.type "dict",data:=.dict #[] } }) PySem.F.kt_called_dict (PySem.F.kt_typeCall_dict_1 _) PySem.F.entry_dict_init (kt_code_dict_new _ ⟨rfl,rfl⟩) ?_
 rintro obj s₁ ⟨rfl,rfl⟩
 have hS:(s.heap.push { cls:=.type "dict",data:=.dict #[] }).get? s.heap.objs.size=some { cls:=.type "dict",data:=.dict #[] }:=AAE _ rfl
 have hT:AD6 { s with heap:=s.heap.push { cls:=.type "dict",data:=.dict #[] } } (.ref s.heap.objs.size) "dict":=⟨_,hS,rfl⟩
 #⟨ol',e1,hcl,nn,hdd⟩:=id hl
 obtain rfl:ol'=ol:=AAR (e1.symm.trans hol)
 have hol':(s.heap.push { cls:=.type "dict",data:=.dict #[] }).get? l=some ol':=AA4 _ hol
 have hTl:AD6 { s with heap:=s.heap.push { cls:=.type "dict",data:=.dict #[] } } (.ref l) "tuple":=⟨ol',hol',hcl⟩
 have ll:l<s.heap.objs.size:=AAG hol
 !⟨hT,PySem.F.args_dict_init_2 _ _,?_⟩
 unfold Builtin.«dict.__init__»
 !AA0 ?_
 unfold Builtin.Dict.selfAndRest
 !AA0 (AE1 hT ?_)
 !(show wpAny _ _ (pure (s.heap.objs.size,[AB3 l])) _ _ _ from AA3 ?_)
 !(show wpAny _ _ (Builtin.Dict.updateFrom "dict.__init__" s.heap.objs.size (.ref l) [] .none) _ _ _ from ?_)
 unfold Builtin.Dict.updateFrom
 !AA0 (ACg hTl ?_)
 rw[if_pos (by decide)]
 !AA0 (AE hol' hcl hdict hdd (by simpa using hh) λh1 tk1 k1=>?_)
 have kp1:∀b u,s.heap.get? b=some u->h1.get? b=some u:=λb u e=>k1 b u (AA4 _ e)
 rw[if_pos (show (none:Option Value).isNone=true from rfl)]
 !AA0 (ACL ?_)
 #⟨oI,St,hit,W,st⟩:=(TxSrc.tuple (prog:=X.prog) (w:=X.w) hl).iter A.in1.in1 { s with heap:=h1,toks:=tk1 } (by simpa using hh) λo e=>kp1 _ _ e
 !AA0 (hit _ _ ?_)
 have hS1:=k1 _ _ hS
 have lS:s.heap.objs.size<h1.objs.size:=AAG hS1
 have hS0:s.heap.get? s.heap.objs.size=none:=by
  cases q:s.heap.get? s.heap.objs.size with
  | none=>rfl
  | some o=>~absurd (AAG q) (AAq _)
 !AA3 ⟨ABv jM _,Le (A:=A.in1) (s:=s) I (by show A.units+1+20<cLine;&) W s.heap.objs.size ?_ hS0 ?_ ps hm hval hb its.size 0 _ _ [] _ _ rfl (AAT _) st ⟨⟨_,#[],AA4 _ hS1,⟨rfl,rfl,rfl⟩,rfl,rfl⟩,.nil,ADJ⟩ (λb u e=>AA4 _ (kp1 b u e)) λh2 tk2 xs k2 dd=>⟨rfl,h h2 tk2 xs k2 dd⟩⟩
 ·simp only[AAH,AAf,or_false,not_or]
  ~⟨AAQ lS,ABU ll⟩
 ·intro b hb'
  rw[AAY.mp hb']
  cases q:s.heap.get? h1.objs.size with
  | none=>rfl
  | some o=>~absurd (ADx (AAG q) lS) (AAq _)
end
section
variable{X:Cx}{k:Nat}
def uQ:DRA:=λds M Q=>match ds with
 | [.tup xs]=>∃ps:List (D×D),xs=ps.map (λp=>.tup [p.1,p.2])/\(∀p∈ps,eU 8 p.1=true/\jX p.1=true)/\ps.length<=1000/\Q (.ref M.length) (M++[.dkt (dictOf ps)])
 | _=>False
¶HZ(hr:Room k X.A)(hc:X.calm=true):mh X (.type "dict") uQ:=by
 intro pins s σ H vs us R I rv ⟨ds,M,ρ,Q,sm,rs,q,kk⟩
 have un:=hr.un
 unfold uQ at q
 split at q
 ·#⟨ps,hL,hk,hl,q⟩:=q
  first | have hzz:=Reps.inv_cons rs | have hzz:=aL.inv_cons rs
  clear rs
  #⟨_,_,rfl,r1,rs⟩:=hzz
  cases rs
  #⟨u,rfl,e1⟩:=aL.one rv
  subst hL
  #⟨a,ws,rfl,hq,r⟩:=Rep.inv_tup r1
  cases e1
  #⟨its,rr,pl,hz⟩:=I.tupN hq
  #⟨oa,hoa,hca,⟨nn,hdata⟩,hdict⟩:=id pl
  have lw:=r.length
  have li:=rr.length
  rw[AA6]at lw
  have hf:H s.heap.objs.size=none:=I.hok.fresh (AAC _)
  have hb:(s.heap.objs.size==sysModules)=false:=beq_eq_false_iff_ne.mpr (AAz (AAQ I.big))
  !Ib (A:=X.A) (ρ:=ρ) I ¤ (I.ok.hd hc) pl.tup hoa hdict ps (by rw[AAB];&) (λi v hv=>?_) (by rw[AAB];&) λh' tk xs kp dd=>?_
  ·#⟨d,vv,e1,r1,rv1⟩:=wX r rr (i:=i) (u:=v) (by simpa using hv)
   rw[AAU]at e1
   #⟨p,hp,rfl⟩:=ABp.mp e1
   ~⟨p,hp,⟨vv,r1,rv1⟩,hk p (AAu hp)⟩
  ·have dl:=kY (ps:=ps)
   !⟨.ref s.heap.objs.size,_,I.laid (a:=s.heap.objs.size) (o:=.ext (dX s.heap.objs.size xs)) (t':=tk) kp (AAC _) (EH dd.dx),rfl,?_⟩
   ~kk _ _ ⟨.ref M.length,M++[.dkt (dictOf ps)],ρ++[s.heap.objs.size],sm.laidM (mo:=.dkt (dictOf ps)) hf ⟨aC ¤,hb,dd.nd,xs,bB,Paired.mapP dd.kv λ_ _ ⟨q1,q2,q3,v,q4,q5⟩=>⟨q1,q2,q3.grow (Grow.laidR hf),v,q4.grow (Grow.laidR hf),q5⟩⟩,Grow.laidR hf,.ref sm.last,q⟩
 ·~q.elim
¶Hn(hr:Room k X.A)(hc:X.calm=true:=by kernel_rfl):HC X (.type "dict") uQ:=⟨HZ hr hc⟩
end
end L2
namespace LW
open PySem L2
macro "@" s:str : tactic => `(tactic| walk_at $s)
local macro_rules | `(tactic| walk_at "sc")=>`(tactic| ~⟨rfl,rfl,rfl,by decide +kernel,rfl,by decide +kernel,by decide +kernel⟩)
local macro_rules | `(tactic| walk_at "dl")=>`(tactic| simp only[EE,aR,dIf,gi,Fb,dOr,az,dCB,ab,ao,aO,bV,Oj,Fa,dLC,oV,cN,aH,aU,db,wg,yP,dOp,dUn,eN,dC,af,gh,gf,dSl,dq,bA,dMs,dMl,eV,lg,va,qAdd,bf,FE,nJ,rJ,AT,Mf,qLt,Mg,qLe,qGt,qGe,qIs,qEq,qNe,iq,jo,Gg,Lz,qIx,qSl,gL,dAsg,HD,iF,bw,iG,dZip,nN,Dd,iK,BC,kh,HR,dGIn,HU,uQ,nL,iB,LF,wj,Io,xI,nK,qG,at0,at1,at2,tyD,dst,cQ,LE,AAL,ACh,AC5,AAr,ABa,ABB,AAA,AAW,ACF,List.replicate_succ,ADf,List.set_cons_succ,ABz,Nat.reduceAdd,Nat.reduceSub,ACQ,if_true,if_false,AAF])
def top(i:Nat):Stmt:=PySem.Challenge.pw_talkmarks_k12_deeds.main.body.getD i (.Pass ⟨0,0,0,0⟩)
abbrev kN:Stmt:=top 1
abbrev dH:Stmt:=top 2
abbrev fN:Stmt:=top 3
abbrev jh:Stmt:=top 4
abbrev jk:Stmt:=top 10
abbrev nC:Stmt:=top 11
abbrev nF:Stmt:=top 12
abbrev jg:Stmt:=top 13
abbrev jm:Stmt:=top 15
abbrev nA:Stmt:=top 16
abbrev ji:Stmt:=top 17
abbrev nD:Stmt:=top 18
abbrev nG:Stmt:=top 19
abbrev kO:Stmt:=top 22
abbrev dI:Stmt:=top 23
abbrev jf:Stmt:=top 24
abbrev nB:Stmt:=top 25
abbrev nE:Stmt:=top 26
abbrev rG:Stmt:=top 27
abbrev nH:Stmt:=top 28
abbrev kL:Stmt:=top 29
abbrev je:Stmt:=top 30
abbrev nI:Stmt:=top 32
abbrev CS:Stmt:=top 33
abbrev Jq:Stmt:=top 34
abbrev CT:Stmt:=top 35
abbrev CQ:Stmt:=top 36
abbrev xz:Stmt:=top 37
abbrev CO:Stmt:=top 38
abbrev xy:Stmt:=top 39
abbrev xD:Stmt:=top 40
abbrev xE:Stmt:=top 41
abbrev rF:Stmt:=top 42
abbrev xC:Stmt:=top 43
abbrev rE:Stmt:=top 44
abbrev CP:Stmt:=top 45
abbrev Jr:Stmt:=top 46
abbrev xB:Stmt:=top 47
abbrev CV:Stmt:=top 48
abbrev gI:Stmt:=top 49
abbrev jc:Stmt:=top 50
abbrev gJ:Stmt:=top 51
abbrev fL:Stmt:=top 52
abbrev jb:Stmt:=top 53
abbrev fM:Stmt:=top 54
abbrev ja:Stmt:=top 55
abbrev iZ:Stmt:=top 56
abbrev kM:Stmt:=top 57
abbrev jd:Stmt:=top 58
abbrev xA:Stmt:=top 59
abbrev xF:Stmt:=top 60
abbrev CU:Stmt:=top 61
abbrev ny:Stmt:=top 62
abbrev s_law:Stmt:=top 63
def aT:List (Str×List Str):=[(AA1 "say",[AA1 "room",AA1 "under",AA1 "saying"]),(AA1 "change",[AA1 "message",AA1 "saying"]),(AA1 "back",[AA1 "message"]),(AA1 "like",[AA1 "message",AA1 "sort",AA1 "on"]),(AA1 "read",[AA1 "room",AA1 "vector"]),(AA1 "seen",[AA1 "message"]),(AA1 "hush",[AA1 "what",AA1 "on"]),(AA1 "rung",[AA1 "message"])]
abbrev eY:List Str:=["thing"]
abbrev qL:List Str:=["thing"]
abbrev bX:List Str:=["least","thing"]
abbrev ij:List Str:=["least","thing"]
abbrev cF:List Str:=["many","thing"]
abbrev kC:List Str:=["many","thing"]
abbrev dS:List Str:=["things"]
abbrev pB:List Str:=["things"]
abbrev dW:List Str:=["sign"]
abbrev pE:List Str:=["sign"]
abbrev gR:List Str:=["sign"]
abbrev wH:List Str:=["sign"]
abbrev gU:List Str:=["thing"]
abbrev wK:List Str:=["thing"]
abbrev dR:List Str:=["thing"]
abbrev pA:List Str:=["thing"]
abbrev dY:List Str:=["pairs"]
abbrev pF:List Str:=["pairs"]
abbrev gP:List Str:=["house","name"]
abbrev wF:List Str:=["house","name","person","many"]
abbrev dU:List Str:=["house","thing"]
abbrev pD:List Str:=["house","thing"]
abbrev gS:List Str:=["house","thing"]
abbrev wI:List Str:=["house","thing"]
abbrev gW:List Str:=["house","thing"]
abbrev wL:List Str:=["house","thing"]
abbrev eZ:List Str:=["house","thing"]
abbrev qN:List Str:=["house","thing"]
abbrev bY:List Str:=["house","thing"]
abbrev ik:List Str:=["house","thing"]
abbrev dQ:List Str:=["house","thing"]
abbrev pz:List Str:=["house","thing"]
abbrev gQ:List Str:=["house","thing"]
abbrev wG:List Str:=["house","thing"]
abbrev gT:List Str:=["house","part","thing"]
abbrev wJ:List Str:=["house","part","thing"]
abbrev jR:List Str:=["house","thing"]
abbrev Am:List Str:=["house","thing","parts"]
abbrev gX:List Str:=["house","thing"]
abbrev wM:List Str:=["house","thing"]
abbrev eW:List Str:=["deed"]
abbrev qJ:List Str:=["deed"]
abbrev dP:List Str:=["deed","vector"]
abbrev pq:List Str:=["deed","vector","hand","count"]
abbrev gY:List Str:=["_law_script","_law_k"]
abbrev wN:List Str:=["_law_script","_law_k"]
abbrev uW:List Str:=["_law_well_here","_law_many"]
abbrev IS:List Str:=["_law_well_here","_law_many","_law_found"]
abbrev Du:List Str:=["_law_cell","_law_k"]
abbrev OA:List Str:=["_law_cell","_law_k","_law_number"]
abbrev uX:List Str:=["_law_cell","_law_k"]
abbrev IT:List Str:=["_law_cell","_law_k","_law_found","_law_j"]
abbrev uV:List Str:=["_law_cell","_law_k"]
abbrev IR:List Str:=["_law_cell","_law_k"]
abbrev nT:List Str:=["_law_script","_law_start","_law_most"]
abbrev Fw:List Str:=["_law_script","_law_start","_law_most","_law_head"]
abbrev uT:List Str:=["_law_well_here"]
abbrev IN:List Str:=["_law_well_here","_law_letters"]
abbrev nS:List Str:=["_law_well_here","_law_many"]
abbrev Fv:List Str:=["_law_well_here","_law_many","_law_letters","_law_way","_law_base","_law_at","_law_words_here","_law_k","_law_sign"]
abbrev nX:List Str:=["_law_well_here"]
abbrev FA:List Str:=["_law_well_here","_law_people","_law_name","_law_rooms","_law_room","_law_members"]
abbrev nY:List Str:=["_law_house_here"]
abbrev FB:List Str:=["_law_house_here","_law_hands_here","_law_name","_law_many"]
abbrev jQ:List Str:=["_law_well_here","_law_house_here"]
abbrev Al:List Str:=["_law_well_here","_law_house_here","_law_signs","_law_every","_law_some","_law_parts"]
abbrev nW:List Str:=["_law_well_here","_law_house_here","_law_stamps"]
abbrev Fz:List Str:=["_law_well_here","_law_house_here","_law_stamps","_law_hands_here"]
abbrev jP:List Str:=["_law_well_here","_law_house_here"]
abbrev Ak:List Str:=["_law_well_here","_law_house_here","_law_vector_here","_law_hand"]
abbrev uU:List Str:=["_law_well_here","_law_house_here","_law_stamps"]
abbrev IP:List Str:=["_law_well_here","_law_house_here","_law_stamps","_law_way"]
abbrev Dv:List Str:=["_law_well_here","_law_house_here","_law_stamps"]
abbrev OC:List Str:=["_law_well_here","_law_house_here","_law_stamps","_law_way","_law_room","_law_under","_law_message"]
abbrev nV:List Str:=["_law_well_here","_law_depth"]
abbrev Fy:List Str:=["_law_well_here","_law_depth","_law_way","_law_some"]
abbrev uZ:List Str:=["_law_thing_here","_law_well_here","_law_depth"]
abbrev IV:List Str:=["_law_thing_here","_law_well_here","_law_depth","_law_at","_law_way"]
abbrev cY:List Str:=["_law_thing_here","_law_low"]
abbrev lT:List Str:=["_law_thing_here","_law_low"]
abbrev dN:List Str:=["_law_house_here","_law_thing_here"]
abbrev pj:List Str:=["_law_house_here","_law_thing_here"]
abbrev cZ:List Str:=["_law_house_here","_law_thing_here"]
abbrev lU:List Str:=["_law_house_here","_law_thing_here"]
abbrev cD:List Str:=["_law_house_here","_law_thing_here"]
abbrev kz:List Str:=["_law_house_here","_law_thing_here","_law_hands_here","_law_pair"]
abbrev dM:List Str:=["_law_thing_here"]
abbrev pi:List Str:=["_law_thing_here"]
abbrev cE:List Str:=["_law_thing_here"]
abbrev kA:List Str:=["_law_thing_here"]
abbrev dL:List Str:=["_law_house_here","_law_thing_here"]
abbrev ph:List Str:=["_law_house_here","_law_thing_here"]
abbrev dJ:List Str:=["_law_house_here","_law_thing_here"]
abbrev pf:List Str:=["_law_house_here","_law_thing_here"]
abbrev eX:List Str:=["_law_house_here","_law_thing_here"]
abbrev qK:List Str:=["_law_house_here","_law_thing_here","_law_parts","_law_kind","_law_under"]
abbrev dO:List Str:=["_law_house_here","_law_thing_here"]
abbrev pk:List Str:=["_law_house_here","_law_thing_here"]
abbrev nU:List Str:=["_law_found","_law_due"]
abbrev Fx:List Str:=["_law_found","_law_due"]
abbrev nZ:List Str:=["_law_well_here","_law_house_here"]
abbrev FC:List Str:=["_law_well_here","_law_house_here","_law_stamp_here","_law_number","_law_deed"]
abbrev uY:List Str:=["_law_well_here","_law_house_here","_law_deed"]
abbrev IU:List Str:=["_law_well_here","_law_house_here","_law_deed","_law_near_here","_law_count"]
abbrev gO:List Str:=["_law_well_here","_law_house_here","_law_deed"]
abbrev wE:List Str:=["_law_well_here","_law_house_here","_law_deed","_law_found","_law_vector_here","_law_due"]
abbrev Gu:List Str:=["_law_script"]
abbrev OB:List Str:=["_law_script","_law_house_here","_law_well_here","_law_thing_here"]
structure Tops(w:World)(K:AA5)(mg:Str->Option Value):Prop where
 f_is_whole:cM K mg "is_whole" kN eY
 f_is_whole_from:cM K mg "is_whole_from" dH bX
 f_is_tuple_of:cM K mg "is_tuple_of" fN cF
 f_is_rising:cM K mg "is_rising" jh dS
 f_is_letter:cM K mg "is_letter" jk dW
 f_is_sign:cM K mg "is_sign" nC gR
 f_is_name:cM K mg "is_name" nF gU
 f_is_saying:cM K mg "is_saying" jg dR
 f_firsts_of:cM K mg "firsts_of" jm dY
 f_many_of:cM K mg "many_of" nA gP
 f_is_person:cM K mg "is_person" ji dU
 f_is_room:cM K mg "is_room" nD gS
 f_is_hand:cM K mg "is_hand" nG gW
 f_is_stamp:cM K mg "is_stamp" kO eZ
 f_is_hand_count:cM K mg "is_hand_count" dI bY
 f_is_vector:cM K mg "is_vector" jf dQ
 f_is_what:cM K mg "is_what" nB gQ
 f_is_part:cM K mg "is_part" nE gT
 f_is_act:cM K mg "is_act" rG jR
 f_is_deed:cM K mg "is_deed" nH gX
 f_stamp_of:cM K mg "stamp_of" kL eW
 f_is_within:cM K mg "is_within" je dP
 f_cell_at:cM K mg "_law_cell_at" nI gY
 f_take:cM K mg "_law_take" CS uW
 f_mix:cM K mg "_law_mix" Jq Du
 f_rich:cM K mg "_law_rich" CT uX
 f_well:cM K mg "_law_well" CQ uV
 f_wells:cM K mg "_law_wells" xz nT
 f_word:cM K mg "_law_word" CO uT
 f_words:cM K mg "_law_words" xy nS
 f_house:cM K mg "_law_house" xD nX
 f_hands:cM K mg "_law_hands" xE nY
 f_saying:cM K mg "_law_saying" rF jQ
 f_stamp:cM K mg "_law_stamp" xC nW
 f_vector:cM K mg "_law_vector" rE jP
 f_what:cM K mg "_law_what" CP uU
 f_act:cM K mg "_law_act" Jr Dv
 f_thing:cM K mg "_law_thing" xB nV
 f_bent:cM K mg "_law_bent" CV uZ
 f_l_is_whole:cM K mg "_law_is_whole" gI cY
 f_l_is_hand:cM K mg "_law_is_hand" jc dN
 f_l_is_stamp:cM K mg "_law_is_stamp" gJ cZ
 f_l_is_vector:cM K mg "_law_is_vector" fL cD
 f_l_is_name:cM K mg "_law_is_name" jb dM
 f_l_is_saying:cM K mg "_law_is_saying" fM cE
 f_l_is_room:cM K mg "_law_is_room" ja dL
 f_l_is_what:cM K mg "_law_is_what" iZ dJ
 f_l_is_act:cM K mg "_law_is_act" kM eX
 f_l_is_deed:cM K mg "_law_is_deed" jd dO
 f_truth:cM K mg "_law_truth" xA nU
 f_drawn:cM K mg "_law_drawn" xF nZ
 f_near:cM K mg "_law_near" CU uY
 f_of_deed:cM K mg "_law_of_deed" ny gO
 f_law:cM K mg "law" s_law Gu
 c_LONGEST_NAME:∃t,mg "LONGEST_NAME" = some (.int 8 t)
 c_LONGEST_SAYING:∃t,mg "LONGEST_SAYING" = some (.int 60 t)
 c_FIRST_SIGN:∃t,mg "FIRST_SIGN" = some (.int 32 t)
 c_LAST_SIGN:∃t,mg "LAST_SIGN" = some (.int 126 t)
 g_ACT_PARTS:Ij w K mg "ACT_PARTS" aT
 b_int:mg "int" = none
 b_isinstance:mg "isinstance" = none
 b_bool:mg "bool" = none
 b_tuple:mg "tuple" = none
 b_len:mg "len" = none
 b_range:mg "range" = none
 b_all:mg "all" = none
 b_ord:mg "ord" = none
 b_str:mg "str" = none
 b_zip:mg "zip" = none
 b_sorted:mg "sorted" = none
 b_list:mg "list" = none
 b_set:mg "set" = none
 b_dict:mg "dict" = none
section
variable{P:Program}{w:World}{K:AA5}{mg:Str->Option Value}{base:Heap}
variable(T:Tops w K mg)
local macro_rules | `(tactic| walk_at "ifs")=>`(tactic| simp only[va,AAF,↓reduceIte,AC8,Bool.not_false])
def gdD(M:Mem):Nat->D->Bool
 | _,.str x=>decide (x.length<=1000)
 | _,.ty _=>false
 | n+1,.tup xs=>decide (xs.length<=40)&&xs.all (gdD M n)
 | n+1,.ref i=>match M[i]? with
  | some a=>a.isL&&a.items.all (gdD M n)
  | none=>false
 | 0,.tup _=>false
 | 0,.ref _=>false
 | _,_=>true
¶gd_ok{M:Mem}:∀(n m:Nat) (d:D),n<=m->gdD M n d=true->okD M m d=true:=by
 intro n
 induction n with
 | zero =>
  intro m d _ h
  cases d with
  | tup xs=>cases h
  | ref i=>cases h
  | ty t=>cases h
  | non=>~rQ
  | bl b=>~qx
  | int i=>~aw
  | str x=>~aM
 | succ n ih =>
  intro m d hm h
  cases m with
  | zero=>&
  | succ m =>
   cases d with
   | tup xs =>
    have h':(decide (xs.length<=40)&&xs.all (gdD M n))=true:=h
    rw[AAD,AAK]at h'
    ~DF λx hx=>ih m x ¤ (h'.2 x hx)
   | ref i =>
    simp only[gdD]at h
    cases e:M[i]? with
    | none=>rw[e]at h;cases h
    | some a =>
     rw[e]at h
     simp only[AAD,AAK]at h
     show (match M[i]? with | some a=>a.isL&&a.items.all (okD M m) | none=>false)=true
     rw[e]
     simp only[AAD,AAK]
     ~⟨h.1,λx hx=>ih m x ¤ (h.2 x hx)⟩
   | ty t=>cases h
   | non=>~rQ
   | bl b=>~qx
   | int i=>~aw
   | str x=>~aM
¶KF{M:Mem}:∀(n m:Nat) (d:D),n<=m->gdD M n d=true->gdD M m d=true:=by
 intro n
 induction n with
 | zero =>
  intro m d _ h
  cases d with
  | tup xs=>cases h
  | ref i=>cases h
  | ty t=>cases h
  | non=>cases m<;>rfl
  | bl b=>cases m<;>rfl
  | int i=>cases m<;>rfl
  | str x=>cases m<;>~h
 | succ n ih =>
  intro m d hm h
  cases m with
  | zero=>&
  | succ m =>
   cases d with
   | tup xs =>
    have h':(decide (xs.length<=40)&&xs.all (gdD M n))=true:=h
    rw[AAD,AAK]at h'
    show (decide (xs.length<=40)&&xs.all (gdD M m))=true
    rw[AAD,AAK]
    ~⟨h'.1,λx hx=>ih m x ¤ (h'.2 x hx)⟩
   | ref i =>
    simp only[gdD]at h ⊢
    cases e:M[i]? with
    | none=>rw[e]at h;cases h
    | some a =>
     rw[e]at h
     simp only[AAD,AAK]at h ⊢
     ~⟨h.1,λx hx=>ih m x ¤ (h.2 x hx)⟩
   | ty t=>cases h
   | non=>rfl
   | bl b=>rfl
   | int i=>rfl
   | str x=>~h
¶ED{M M':Mem}(p:M <+: M'):∀(n:Nat) (d:D),gdD M n d=true->gdD M' n d=true:=by
 intro n
 induction n with
 | zero =>
  intro d h
  cases d<;>first | ~h | cases h
 | succ n ih =>
  intro d h
  cases d with
  | tup xs =>
   have h':(decide (xs.length<=40)&&xs.all (gdD M n))=true:=h
   rw[AAD,AAK]at h'
   show (decide (xs.length<=40)&&xs.all (gdD M' n))=true
   rw[AAD,AAK]
   ~⟨h'.1,λx hx=>ih x (h'.2 x hx)⟩
  | ref i =>
   simp only[gdD]at h ⊢
   cases e:M[i]? with
   | none=>rw[e]at h;cases h
   | some a =>
    rw[e]at h
    #⟨t,rfl⟩:=p
    rw[AAJ (AA2.mp e).1,e]
    simp only[AAD,AAK]at h ⊢
    ~⟨h.1,λx hx=>ih x (h.2 x hx)⟩
  | _=>~h
def Gdn(M:Mem)(n:Nat)(d:D):Prop:=n<=30/\gdD M n d=true
¶Gdn.ok{M:Mem}{n:Nat}{d:D}(h:Gdn M n d):okD M eqN d=true:=gd_ok n eqN d h.1 h.2
¶Gdn.grow{M M':Mem}{n:Nat}{d:D}(h:Gdn M n d)(p:M <+: M'):Gdn M' n d:=⟨h.1,ED p n d h.2⟩
¶Gdn.mono{M:Mem}{n m:Nat}{d:D}(h:Gdn M n d)(p:n<=m)(q:m<=30):Gdn M m d:=⟨q,KF n m d p h.2⟩
¶Gdn.tup{M:Mem}{n:Nat}{xs:List D}(h:Gdn M n (.tup xs)):xs.length<=40/\∃m,n=m+1/\∀x∈xs,Gdn M m x:=by
 #⟨h0,h⟩:=h
 cases n with
 | zero=>cases h
 | succ n =>
  have h':(decide (xs.length<=40)&&xs.all (gdD M n))=true:=h
  rw[AAD,AAK,decide_eq_true_eq]at h'
  ~⟨h'.1,n,rfl,λx hx=>⟨¤,h'.2 x hx⟩⟩
¶Gdn.mk{M:Mem}{n:Nat}{xs:List D}(h:xs.length<=40)(hn:n+1<=30)(hx:∀x∈xs,Gdn M n x):Gdn M (n+1) (.tup xs):=by
 !⟨hn,?_⟩
 show (decide (xs.length<=40)&&xs.all (gdD M n))=true
 rw[AAD,AAK,decide_eq_true_eq]
 ~⟨h,λx m=>(hx x m).2⟩
¶Gdn.mkr{M:Mem}{n i:Nat}{xs:List D}(h:aA M i xs)(hn:n+1<=30)(hx:∀x∈xs,Gdn M n x):Gdn M (n+1) (.ref i):=by
 !⟨hn,?_⟩
 #⟨a,ha,rfl,hl⟩:=h.get
 simp only[gdD,ha,AAD,AAK]
 ~⟨hl,λx m=>(hx x m).2⟩
¶Gdn.thing{M:Mem}{n:Nat}{d:D}(h:Gdn M n d):oZ M d:=by
 #⟨h0,h⟩:=h
 cases d with
 | non=>~Ca
 | bl b=>~FX
 | int i=>~Cb
 | str x=>~BY (by cases n<;>simpa [gdD]using h)
 | ty t=>cases n<;>cases h
 | tup xs=>~BX
 | ref i =>
  cases n with
  | zero=>cases h
  | succ n =>
   simp only[gdD]at h
   cases e:M[i]? with
   | none=>rw[e]at h;cases h
   | some a =>
    rw[e]at h
    simp only[AAD]at h
    ~BZ (oq e h.1)
¶qF{M:Mem}{n:Nat}{x:Str}(h:x.length<=1000)(hn:n<=30):Gdn M n (.str x):=⟨hn,by cases n<;>simp[gdD,h]⟩
¶vU{M:Mem}{n:Nat}{x:Int}(hn:n<=30):Gdn M n (.int x):=⟨hn,by cases n<;>rfl⟩
¶KG{M:Mem}{n:Nat}{x:Bool}(hn:n<=30):Gdn M n (.bl x):=⟨hn,by cases n<;>rfl⟩
¶IE{M:Mem}{n:Nat}(hn:n<=30):Gdn M n .non:=⟨hn,by cases n<;>rfl⟩
¶gd_t1{M:Mem}{n:Nat}{a:D}(h:n+1<=30)(ha:Gdn M n a):Gdn M (n+1) (.tup [a]):=Gdn.mk (by simp) h λx hx=>by rw[AAY.mp hx];~ha
¶gd_t2{M:Mem}{n:Nat}{a b:D}(h:n+1<=30)(ha:Gdn M n a)(hb:Gdn M n b):Gdn M (n+1) (.tup [a,b]):=Gdn.mk (by simp) h λx hx=>by
 rcases AAH.mp hx with rfl | hx
 ·~ha
 ·rw[AAY.mp hx];~hb
¶gd_t3{M:Mem}{n:Nat}{a b c:D}(h:n+1<=30)(ha:Gdn M n a)(hb:Gdn M n b)(hc:Gdn M n c):Gdn M (n+1) (.tup [a,b,c]):=Gdn.mk (by simp) h λx hx=>by
 rcases AAH.mp hx with rfl | hx
 ·~ha
 ·rcases AAH.mp hx with rfl | hx
  ·~hb
  ·rw[AAY.mp hx];~hc
¶Ll{xs:List D}{lo hi:Option Int}{x:D}(h:x∈cutD xs lo hi):x∈xs:=AD8 (AD9 h)
¶Lm{xs:List D}{lo hi:Option Int}:(cutD xs lo hi).length<=xs.length:=by
 unfold cutD
 rw[AAh,ABd];&
¶aW{B:Mem}{q:Nat}{x a:MO}(h:B[q]?=some x):(B++[a])[q]?=some x:=by
 rw[AAJ (AA2.mp h).1];~h
¶gd_strs{M:Mem}{n:Nat}{xs:List Str}(hn:n<=30)(h:∀x∈xs,x.length<=1000):∀x∈xs.map D.str,Gdn M n x:=λx hx=>by
 #⟨y,hy,rfl⟩:=AAN.mp hx
 ~qF (h y hy) hn
¶gd_all{M:Mem}{n:Nat}{x:D}{xs:List D}(h:Gdn M n x)(t:∀y∈xs,Gdn M n y):∀y∈x::xs,Gdn M n y:=λy hy=>by
 rcases AAH.mp hy with rfl | hy
 ·~h
 ·~t y hy
¶gd_none{M:Mem}{n:Nat}:∀y∈([]:List D),Gdn M n y:=λ_ z=>nomatch z
¶oK{M:Mem}{n:Nat}{xs ys:List D}(h:∀y∈xs,Gdn M n y)(t:∀y∈ys,Gdn M n y):∀y∈xs++ys,Gdn M n y:=λy hy=>(AAk.mp hy).elim (h y) (t y)
¶gd_grow'{M B:Mem}{n:Nat}{xs:List D}(h:∀y∈xs,Gdn M n y)(p:M <+: B):∀y∈xs,Gdn B n y:=λy hy=>(h y hy).grow p
def aK(p:Str×Int):D:=.tup [.str p.1,.int p.2]
def Hd(d:D):Prop:=∃(x:Str) (k:Int),d=.tup [.str x,.int k]
¶EA{M:Mem}{n:Nat}{a b:D}(ha:Hd a)(hb:Hd b):eqD M (n+1) a b=true↔a=b:=by
 #⟨x,k,rfl⟩:=ha
 #⟨y,l,rfl⟩:=hb
 show (eqD M n (.str x) (.str y)&&(eqD M n (.int k) (.int l)&&true))=true↔_
 rw[cx,bU]
 simp
¶Hm{M:Mem}{a:D}(ha:Hd a):okD M eqN a=true:=by
 #⟨x,k,rfl⟩:=ha
 rfl
¶NA{a:D}(ha:Hd a):eU 8 a=true:=by
 #⟨x,k,rfl⟩:=ha
 rfl
def BL(hs:List (D×Int)):List D:=hs.map λp=>.tup [p.1,.int p.2]
noncomputable def gj(hs:List (D×Int))(hd:D)(num:Int):Bool:=match hs.find? λp=>decide (p.1=hd) with
 | some p=>decide (num<p.2)
 | none=>false
def plD:Nat->D->Bool
 | n+1,.tup xs=>xs.all (plD n)
 | 0,.tup _=>false
 | _,.ref _=>false
 | _,.ty _=>false
 | _,_=>true
def Pln(n:Nat)(d:D):Prop:=plD n d=true
def Ii(n:Nat)(ds:List D):Prop:=ds.all (plD n)=true
¶Pln.non{n:Nat}:Pln n .non:=by cases n<;>rfl
¶Pln.bl{n:Nat}(b:Bool):Pln n (.bl b):=by cases n<;>rfl
¶Pln.int{n:Nat}(i:Int):Pln n (.int i):=by cases n<;>rfl
¶Pln.str{n:Nat}(x:Str):Pln n (.str x):=by cases n<;>rfl
¶Ii.nil{n:Nat}:Ii n []:=rfl
¶Ii.cons{n:Nat}{d:D}{ds:List D}(h:Pln n d)(t:Ii n ds):Ii n (d::ds):=by
 unfold Ii Pln at *
 rw[ABF,h,t];rfl
¶Pln.tup{n:Nat}{ds:List D}(h:Ii n ds):Pln (n+1) (.tup ds):=h
¶Ii.of{n:Nat}{ds:List D}(h:∀d∈ds,Pln n d):Ii n ds:=AAK.mpr h
¶Dj{k:Nat}:∀(n:Nat) (d:D),Pln n d->Bel k d:=by
 intro n
 induction n with
 | zero =>
  intro d h
  cases d with
  | tup xs=>cases h
  | ref i=>cases h
  | ty t=>cases h
  | non=>~.non
  | bl b=>~.bl b
  | int i=>~.int i
  | str x=>~.str x
 | succ n ih =>
  intro d h
  cases d with
  | tup xs=>~.tup (Bels.of λx hx=>ih x (AAK.mp h x hx))
  | ref i=>cases h
  | ty t=>cases h
  | non=>~.non
  | bl b=>~.bl b
  | int i=>~.int i
  | str x=>~.str x
¶zY{f:D->D->Bool}:∀{xs:List D},(∀x∈xs,f x x=true)->eqL f xs xs=true
 | [],_=>rfl
 | x::xs,h=>by
  show (f x x&&eqL f xs xs)=true
  rw[h x (by simp),zY λy hy=>h y (AA9 _ hy)];rfl
¶Di{M:Mem}:∀(n m:Nat) (d:D),n<=m->Pln n d->okD M m d=true/\eqD M m d d=true:=by
 intro n
 induction n with
 | zero =>
  intro m d _ h
  cases d with
  | tup xs=>cases h
  | ref i=>cases h
  | ty t=>cases h
  | non=>~⟨rQ,by cases m<;>rfl⟩
  | bl b=>~⟨qx,by cases m<;>cases b<;>rfl⟩
  | int i=>~⟨aw,by rw[bU];~beq_self_eq_true i⟩
  | str x=>~⟨aM,by rw[cx];~beq_self_eq_true x⟩
 | succ n ih =>
  intro m d hm h
  cases m with
  | zero=>&
  | succ m =>
   cases d with
   | tup xs=>~⟨DF λx hx=>(ih m x ¤ (AAK.mp h x hx)).1,zY λx hx=>(ih m x ¤ (AAK.mp h x hx)).2⟩
   | ref i=>cases h
   | ty t=>cases h
   | non=>~⟨rQ,rfl⟩
   | bl b=>~⟨qx,by cases b<;>rfl⟩
   | int i=>~⟨aw,by rw[bU];~beq_self_eq_true i⟩
   | str x=>~⟨aM,by rw[cx];~beq_self_eq_true x⟩
¶KC{n:Nat}{d:D}(h:Hd d):Pln (n+1) d:=by
 #⟨x,i,rfl⟩:=h
 ~.tup (.cons (.str _) (.cons (.int _) .nil))
¶NC{k:Nat}{d:D}(h:Hd d):Bel k d:=Dj 1 d (KC h)
def Deed(d:D):Prop:=∃(t:Int) (hd:D) (num:Int) (act:D),d=.tup [.int t,hd,.int num,act]/\Hd hd/\Pln 5 act
¶Lb{d:D}(h:Deed d):Pln 6 d:=by
 #⟨t,hd,num,act,rfl,hh,ha⟩:=h
 ~.tup (.cons (.int _) (.cons (KC hh) (.cons (.int _) (.cons ha .nil))))
¶HP{k:Nat}{d:D}(h:Deed d):Bel k d:=Dj 6 d (Lb h)
¶Oe{k:Nat}{ds:List D}(h:∀d∈ds,Deed d):Bels k ds:=Bels.of λd hd=>HP (h d hd)
def handD:D->D
 | .tup (_::h::_)=>h
 | _=>.non
def numD:D->Int
 | .tup (_::_::.int n::_)=>n
 | _=>0
noncomputable def many(log:List D)(hd:D):Nat:=(log.filter λd=>decide (handD d=hd)).length
def HKv(kvs:List (D×D)):Prop:=∀p∈kvs,Hd p.1/\∃i:Int,p.2=.int i
¶Ey{kvs:List (D×D)}{k:D}{i:Int}(h:HKv kvs)(hk:Hd k):HKv (xJ kvs k (.int i)):=by
 unfold xJ
 split
 ·intro p hp
  #⟨q,hq,rfl⟩:=AAN.mp hp
  split
  ·~⟨(h q hq).1,i,rfl⟩
  ·~h q hq
 ·intro p hp
  rcases AAk.mp hp with hp | hp
  ·~h p hp
  ·rw[AAY.mp hp];~⟨hk,i,rfl⟩
¶KA{M:Mem}{kvs:List (D×D)}(h:HKv kvs)(l:kvs.length<64):SrtOk M (cX kvs):=by
 have at_:∀x∈cX kvs,∃z i j,x=.tup [.tup [.str z,.int i],.int j]:=λx hx=>by
  #⟨p,hp,rfl⟩:=AAN.mp hx
  #⟨⟨z,i,e1⟩,j,e2⟩:=h p hp
  rw[e1,e2]
  ~⟨z,i,j,rfl⟩
 !⟨by unfold cX;rw[AA6];~l,λx hx=>?_,λx hx y hy=>?_,.inr (.inr (.inr (.inr λx hx=>?_)))⟩
 ·#⟨z,i,j,rfl⟩:=at_ x hx;rfl
 ·#⟨z,i,j,rfl⟩:=at_ x hx
  #⟨z',i',j',rfl⟩:=at_ y hy
  show (if eqD M 29 (.tup [.str z,.int i]) (.tup [.str z',.int i'])=true then(if eqD M 29 (.int j) (.int j')=true then true else true)else(if eqD M 28 (.str z) (.str z')=true then(if eqD M 28 (.int i) (.int i')=true then true else true)else true))=true
  repeat' split
  all_goals rfl
 ·#⟨z,i,j,rfl⟩:=at_ x hx;~⟨_,_,rfl⟩
¶hkv_lt{M M':Mem}{kvs:List (D×D)}(h:HKv kvs){x y:D}(hx:x∈cX kvs)(hy:y∈cX kvs):ltD M eqN x y=ltD M' eqN x y:=by
 #⟨p,hp,rfl⟩:=AAN.mp hx
 #⟨q,hq,rfl⟩:=AAN.mp hy
 #⟨⟨z,i,e1⟩,j,e2⟩:=h p hp
 #⟨⟨z',i',e3⟩,j',e4⟩:=h q hq
 rw[e1,e2,e3,e4]
 rfl
¶hkv_bel{k:Nat}{kvs:List (D×D)}(h:HKv kvs){ys:List D}(p:ys.Perm (cX kvs)):Bels k ys:=Bels.of λd hd=>by
 #⟨q,hq,rfl⟩:=AAN.mp (p.mem_iff.mp hd)
 #⟨e1,j,e2⟩:=h q hq
 rw[e2]
 ~.tup (.cons (NC e1) (.cons (.int _) .nil))
def tK:D->Bool
 | .int _=>true
 | _=>false
def cT:DSp:=λds M R=>∃d,ds=[d]/\tyD M d∈pG/\R (.bl (tK d)) M
¶vI:du cT eY:=by rintro ds M R ⟨d,rfl,_⟩;rfl
¶xv:FnScope qL eY (ak kN):=by @"sc"
def kG:DTS:=aU (bV (dCB iq (ab (af 0) (ab (dC (.ty "int")) ao))) (Fa (dCB iq (ab (af 0) (ab (dC (.ty "bool")) ao)))))
include T in
¶we:cW P w K mg base 0 "is_whole" qL kN kG:=λ_ _ _ _ _ _ _ hr =>
  al (am (cB (av br T.b_isinstance aq (aa ac (aa (bq T.b_int IM) ad))) (da (Nm (av br T.b_isinstance aq (aa ac (aa (bq T.b_bool jw) ad)))))))
¶wT:WpT cT 1 kG:=by
 rintro ds M R ⟨d,rfl,ht,h⟩
 unfold kG
 cases d with
 | ref n =>
  have e:=bW ht
  simp only[tyD]at e
  @"dl"
  simp only[e]
  ~⟨by decide,bH (aG.now h)⟩
 | ty n=>simp only[tyD]at ht;~absurd ht (by decide)
 | int i=>@"dl";~⟨by decide,bb ⟨by decide,aG.now h⟩⟩
 | bl i=>@"dl";~⟨by decide,bb ⟨by decide,aG.now h⟩⟩
 | _=>@"dl";~⟨by decide,bH (aG.now h)⟩
include T in
¶xP:Cal P w K mg base 1 "is_whole" eY cT :=
 Cal.byH T.f_is_whole xv vI (we T) wT
variable(C_is_whole:Cal P w K mg base 1 "is_whole" eY cT)
def aV(k:Int):D->Bool
 | .int i=>decide (k<=i)
 | _=>false
def bh:DSp:=λds M R=>∃(k:Int) (d:D),ds=[.int k,d]/\tyD M d∈pG/\R (.bl (aV k d)) M
¶kR:du bh bX:=by rintro ds M R ⟨k,d,rfl,_⟩;rfl
¶lX:FnScope ij bX (ak dH):=by @"sc"
def dF:DTS:=aU (bV (dCB cT (ab (af 1) ao)) (dOp qGe (af 1) (af 0)))
include T C_is_whole in
¶kZ:cW P w K mg base 1 "is_whole_from" ij dH dF:=λ_ _ _ _ _ _ _ hr =>
  al (am (cB (ar C_is_whole hr (aa ac ad)) (da (er Nw ac ac))))
¶lV:WpT bh 2 dF:=by
 rintro ds M R ⟨k,d,rfl,ht,h⟩
 unfold dF
 @"dl"
 !⟨d,rfl,ht,?_⟩
 cases d with
 | int i=>simp only[tK,↓reduceIte];~aG.now h
 | _=>simp only[tK,AAF,↓reduceIte];~aG.now h
include T C_is_whole in
¶lZ:Cal P w K mg base 2 "is_whole_from" bX bh :=
 Cal.byH T.f_is_whole_from lX kR (kZ T C_is_whole) lV
variable(C_is_whole_from:Cal P w K mg base 2 "is_whole_from" bX bh)
def qV(k:Int):D->Bool
 | .tup xs=>(xs.length:Int)==k
 | _=>false
def ba:DSp:=λds M R=>∃(k:Int) (d:D),ds=[.int k,d]/\tyD M d∈pG/\R (.bl (qV k d)) M
¶oy:du ba cF:=by rintro ds M R ⟨k,d,rfl,_⟩;rfl
¶pL:FnScope kC cF (ak fN):=by @"sc"
def fH:DTS:=aU (bV (dCB iq (ab (af 1) (ab (dC (.ty "tuple")) ao))) (dOp qEq (dCB jo (ab (af 1) ao)) (af 0)))
include T in
¶oU:cW P w K mg base 0 "is_tuple_of" kC fN fH:=λ_ _ _ _ _ _ _ hr =>
  al (am (cB (av br T.b_isinstance aq (aa ac (aa (bq T.b_tuple bp) ad))) (da (er (bc hr) (av bJ T.b_len bL (aa ac ad)) ac))))
¶pJ:WpT ba 2 fH:=by
 rintro ds M R ⟨k,d,rfl,ht,h⟩
 unfold fH
 cases d with
 | ref n =>
  have e:=bW ht
  simp only[tyD]at e
  @"dl"
  simp only[e]
  ~⟨by decide,bH (aG.now h)⟩
 | ty n=>simp only[tyD]at ht;~absurd ht (by decide)
 | tup xs=>@"dl";~⟨by decide,bb ⟨⟨rfl,rfl⟩,aG.now h⟩⟩
 | _=>@"dl";~⟨by decide,bH (aG.now h)⟩
include T in
¶pO:Cal P w K mg base 1 "is_tuple_of" cF ba :=
 Cal.byH T.f_is_tuple_of pL oy (oU T) pJ
variable(C_is_tuple_of:Cal P w K mg base 1 "is_tuple_of" cF ba)
def dw(M:Mem):List D->Bool
 | a::b::r=>ltD M eqN a b&&dw M (b::r)
 | _=>true
¶zF(M:Mem):∀xs:List D,((AAe (xs.length-1)).map λi=>ltD M eqN (xs.getD i .non) (xs.getD (i+1) .non)).all id=dw M xs
 | []=>rfl
 | [a]=>rfl
 | a::b::r=>by
  have ih:=zF M (b::r)
  have e:(a::b::r).length-1=(b::r).length-1+1:=by simp
  rw[e,List.range_succ_eq_map,AAL,AAi,ABF]
  show (ltD M eqN a b&&_)=(ltD M eqN a b&&dw M (b::r))
  rw[←ih]
  rfl
¶LT{M:Mem}{d:D}{xs:List D}(h:LF M d xs){Q:DK}(q:Q (.int (xs.length:Int)) M):jo [d] M Q:=by
 rcases h with⟨n,rfl,hL⟩ | rfl
 ·~⟨_,hL,q⟩
 ·~q
¶LV{M:Mem}{d:D}{xs:List D}(h:LF M d xs){Q:DK}{i:Int}(h0:0<=i)(h1:i<xs.length)(q:Q (xs.getD i.toNat .non) M):qIx d (.int i) M Q:=by
 have hj:i.toNat<xs.length:=¤
 have e:atI xs i=some (xs.getD i.toNat .non):=by
  have e0:i=((i.toNat:Nat):Int):=¤
  have:=bG (j:=i.toNat) (show xs[i.toNat]?=some (xs.getD i.toNat .non) by simp[hj,AAP])
  rwa [←e0]at this
 rcases h with⟨n,rfl,hL⟩ | rfl
 ·!⟨_,hL,?_⟩
  rw[e];~q
 ·show match atI xs i with | some d=>Q d M | none=>False
  rw[e];~q
¶IB{M:Mem}{a b:D}(ha:Hd a)(hb:Hd b):okD M eqN a=true/\okD M eqN b=true/\lP M eqN a b=true:=by
 #⟨x,k,rfl⟩:=ha
 #⟨y,l,rfl⟩:=hb
 !⟨rfl,rfl,?_⟩
 show (if eqD M 29 (.str x) (.str y)=true then(if eqD M 29 (.int k) (.int l)=true then true else true)else true)=true
 split
 ·split<;>rfl
 ·rfl
def dk:DSp:=λds M R=>∃(d:D) (xs:List D),ds=[d]/\LF M d xs/\(∀x∈xs,Hd x)/\xs.length<=1000/\R (.bl (dw M xs)) M
¶sf:du dk dS:=by rintro ds M R ⟨d,xs,rfl,_⟩;rfl
¶uI:FnScope pB dS (ak jh):=by @"sc"
def iV:DTS:=aU (dCB Gg (ab (dLC 1 [0] (lg (ab (dC (.int 1)) (ab (dCB jo (ab (af 0) ao)) ao))) (aH 0) oV (dOp Mg (dOp qIx (af 1) (dOp FE (af 0) (dC (.int 1)))) (dOp qIx (af 1) (af 0)))) ao))
include T in
¶sP:cW P w K mg base 0 "is_rising" pB jh iV:=λ_ _ _ _ _ _ _ hr =>
  al (am (av vQ T.b_all wz (aa (sv (N':=["k","things"]) (nt:=1) (js:=[0]) (vK T.b_range (aa ae (aa (av bJ T.b_len bL (aa ac ad)) ad))) (λ_ _ _ _=>bv (show AB4 (["k","things"]:List Str) by decide +kernel)) (λ_ _ _ _=>bZ) (λ_ _ _ _=>er (Nu hr) (aX ac (bO vO ac ae)) (aX ac ac))) ad)))
¶tG:WpT dk 1 iV:=by
 rintro ds M R ⟨d,xs,rfl,tx,hx,hl,h⟩
 simp only[iV,aU,dCB,ab,ao,dLC,lg,dC,af,cQ,LE,AAL,ACh,AC5,AAr,ABa,ABB,AAA,AAW,ACF,List.replicate_succ,ABz,ACQ]
 !LT tx ⟨⟨¤,¤,¤,¤⟩,?_⟩
 have en:(((xs.length:Int)-1).toNat)=xs.length-1:=¤
 rw[en]
 have hgd:∀i,i<xs.length->Hd (xs.getD i .non):=λi hi=>by
  rw[AAP,AA7 hi]
  ~hx _ (AAn hi)
 !cv (λk=>match k with | .int i=>.bl (ltD M eqN (xs.getD (i-1).toNat .non) (xs.getD i.toNat .non)) | _=>.non) (λS=>∃a,S=[a,some d]) trivial _ _ _ ?_ ⟨_,rfl⟩ ?_ ?_
 ·rintro y hy S ⟨a,rfl⟩
  #⟨i,hi⟩:=AAv hy
  #⟨h1,rfl⟩:=jJ.mp hi
  !⟨[some (.int (1+(i:Int))),some d],⟨_,rfl⟩,λY hY=>?_⟩
  simp only[aH,dOp,af,dC,FE,ADf,ABa,ABB,ACQ]
  !LV tx ¤ ¤ (LV tx ¤ ¤ ?_)
  have ha:=hgd ((1+(i:Int)-1).toNat) ¤
  have hb:=hgd ((1+(i:Int)).toNat) ¤
  have cm:=IB (M:=M) ha hb
  #⟨xa,ka,ea⟩:=ha
  #⟨xb,kb,eb⟩:=hb
  have hY':Y (.bl (ltD M eqN (xs.getD (1+(i:Int)-1).toNat .non) (xs.getD (1+(i:Int)).toNat .non))) [some (.int (1+(i:Int))),some d] M:=hY
  rw[ea,eb]at cm hY' ⊢
  ~⟨cm,hY'⟩
 ·simp only[AAW,eJ]
  ~aC ¤
 ·!⟨(AAe (xs.length-1)).map λi=>ltD M eqN (xs.getD i .non) (xs.getD (i+1) .non),?_,?_⟩
  ·rw[AAr]
   have:(tj 1 (xs.length-1)).map (λk=>match k with | .int i=>D.bl (ltD M eqN (xs.getD (i-1).toNat .non) (xs.getD i.toNat .non)) | _=>.non)=bls ((AAe (xs.length-1)).map λi=>ltD M eqN (xs.getD i .non) (xs.getD (i+1) .non)):=by
    unfold tj bls
    rw[AAi,AAi]
    !ACl λi _=>?_
    show D.bl _=D.bl _
    rw[show ((1:Int)+(i:Int)-1).toNat=i by &,show ((1:Int)+(i:Int)).toNat=i+1 by &]
   rw[this]
   ~ax
  ·rw[zF]
   ~aG.bl h rM
include T in
¶vn:Cal P w K mg base 1 "is_rising" dS dk :=
 Cal.byH T.f_is_rising uI sf (sP T) tG
variable(C_is_rising:Cal P w K mg base 1 "is_rising" dS dk)
def fT(x:Str):Bool:=!cr x "a" && !cr "z" x
def dn:DSp:=λds M R=>∃x:Str,ds=[.str x]/\R (.bl (fT x)) M
¶sj:du dn dW:=by rintro ds M R ⟨x,rfl,_⟩;rfl
¶uK:FnScope pE dW (ak jk):=by @"sc"
def iX:DTS:=aU (eN qLe qLe (dC (.str "a")) (af 0) (dC (.str "z")))
include T in
¶sR:cW P w K mg base 0 "is_letter" pE jk iX:=λ_ _ _ _ _ _ _ hr =>
  al (am (oB kW kW aY ac aY))
¶tI:WpT dn 1 iX:=by
 rintro ds M R ⟨x,rfl,h⟩
 unfold iX
 @"dl"
 unfold fT at h
 cases e:cr x "a" with
 | true=>rw[e]at h;~bH (aG.now h)
 | false=>rw[e]at h;~bb (aG.now h)
include T in
¶vq:Cal P w K mg base 1 "is_letter" dW dn :=
 Cal.byH T.f_is_letter uK sj (sR T) tI
variable(C_is_letter:Cal P w K mg base 1 "is_letter" dW dn)
def kJ(c:Nat):Bool:=decide (32<=c)&&decide (c<=126)
def fu:DSp:=λds M R=>∃c:Nat,ds=[.str ⟨#[c]⟩]/\R (.bl (kJ c)) M
¶ya:du fu gR:=by rintro ds M R ⟨x,rfl,_⟩;rfl
¶AK:FnScope wH gR (ak nC):=by @"sc"
def mN:DTS:=aU (eN qLe qLe (dC (.int 32)) (dCB Lz (ab (af 0) ao)) (dC (.int 126)))
include T in
¶yH:cW P w K mg base 0 "is_sign" wH nC mN:=λ_ _ _ _ _ _ _ hr =>
  al (am (oB kW kW (sw T.c_FIRST_SIGN) (av IC T.b_ord IL (aa ac ad)) (sw T.c_LAST_SIGN)))
¶Ar:WpT fu 1 mN:=by
 rintro ds M R ⟨c,rfl,h⟩
 unfold mN
 @"dl"
 !⟨rfl,?_⟩
 rw[show (#[c]:Array Nat).getD 0 0=c from rfl]
 unfold kJ at h
 by_cases h1:32<=c
 ·rw[decide_eq_true h1]at h
  rw[decide_eq_true (show (32:Int)<=(c:Int) by &)]
  !bb (aG.now ?_)
  rw[show decide ((c:Int)<=126)=decide (c<=126) by rw[ABn];simp;&]
  simpa using h
 ·rw[decide_eq_false h1]at h
  rw[decide_eq_false (show ¬(32:Int)<=(c:Int) by &)]
  ~bH (aG.now (by simpa using h))
include T in
¶Ba:Cal P w K mg base 1 "is_sign" gR fu :=
 Cal.byH T.f_is_sign AK ya (yH T) Ar
variable(C_is_sign:Cal P w K mg base 1 "is_sign" gR fu)
def cG(c:Nat):Bool:=decide (97<=c)&&decide (c<=122)
def oE:D->Bool
 | .str x=>decide (1<=x.length)&&decide (x.length<=8)&&x.cps.toList.all cG
 | _=>false
¶vN(c:Nat):fT ⟨#[c]⟩=cG c:=by
 have e1:cr ⟨#[c]⟩ "a" = decide (c<97):=by
  unfold cr
  rw[show (AA1 "a").cps.toList=[97]from by decide +kernel,ABn]
  simp[AB0]
 have e2:cr "z" ⟨#[c]⟩=decide (122<c):=by
  unfold cr
  rw[show (AA1 "z").cps.toList=[122]from by decide +kernel,ABn]
  simp[AB0]
 unfold fT cG
 rw[e1,e2,ABn]
 simp
def fx:DSp:=λds M R=>∃d,ds=[d]/\oZ M d/\R (.bl (oE d)) M
¶yd:du fx gU:=by rintro ds M R ⟨x,rfl,_⟩;rfl
¶CG(x:Str):((signs x).map λd=>match d with | .str y=>D.bl (fT y) | _=>.bl false)=bls (x.cps.toList.map cG):=by
 unfold signs bls
 rw[AAi,AAi]
 !ACl λc _=>?_
 show D.bl (fT ⟨#[c]⟩)=D.bl (cG c)
 rw[vN]
¶AN:FnScope wK gU (ak nF):=by @"sc"
def mX:DTS:=aU (bV (eN qLe qLe (dC (.int 1)) (dCB jo (ab (af 0) ao)) (dC (.int 8))) (dCB Gg (ab (dLC 1 [] (cN (af 0)) (aH 0) oV (dCB dn (ab (af 0) ao))) ao)))
def mY:DTS:=aR (dIf (gi (az (dCB iq (ab (af 0) (ab (dC (.ty "str")) ao))))) (aU (dC (.bl false))) aO) (mX)
include T C_is_letter in
¶yK:cW P w K mg base 1 "is_name" wK nF mY:=λ_ _ _ _ _ _ _ hr =>
  ah (aP (bj (bm (av br T.b_isinstance aq (aa ac (aa (bq T.b_str ko) ad))))) (al (am jr)) aB)
  (al (am (cB (oB kW kW ae (av bJ T.b_len bL (aa ac ad)) (sw T.c_LONGEST_NAME)) (da (av vQ T.b_all wz (aa (sv (N':=["sign"]) (nt:=1) (js:=[]) (ca ac) (λ_ _ _ _=>bv (show AB4 (["sign"]:List Str) by decide +kernel)) (λ_ _ _ _=>bZ) (λ_ _ _ _=>ar C_is_letter hr (aa ac ad))) ad))))))
¶Au:WpT fx 1 mY:=by
 rintro ds M R ⟨d,rfl,⟨hty,hl⟩,h⟩
 simp only[mY,mX]
 cases d with
 | str x =>
  have hx:=hl x rfl
  @"dl"
  !⟨by decide,?_⟩
  rw[show iw "str" "str" = true from rfl]
  !bH ⟨hx,?_⟩
  simp only[oE]at h
  by_cases h1:1<=x.length
  ·rw[decide_eq_true h1]at h
   rw[decide_eq_true (show (1:Int)<=(x.length:Int) by &)]
   !bb ?_
   by_cases h8:x.length<=8
   ·rw[decide_eq_true h8]at h
    rw[decide_eq_true (show (x.length:Int)<=8 by &)]
    !bb ?_
    !cv (λd=>match d with | .str y=>D.bl (fT y) | _=>.bl false) (λS=>∃a,S=[a]) trivial _ _ _ ?_ ⟨_,rfl⟩ ?_ ?_
    ·rintro y hy S ⟨a,rfl⟩
     #⟨c,_,rfl⟩:=AAN.mp hy
     ~⟨_,⟨_,rfl⟩,λY hY=>⟨_,rfl,hY⟩⟩
    ·simp only[signs,AA6,AAW,Nat.zero_add,←aQ]
     ~aC ¤
    ·!⟨x.cps.toList.map cG,?_,?_⟩
     ·rw[AAr,CG]
      ~ax
     ·!aG.bl ?_ rM
      simpa using h
   ·rw[decide_eq_false h8]at h
    rw[decide_eq_false (show ¬(x.length:Int)<=8 by &)]
    !bH (aG.now ?_)
    simpa using h
  ·rw[decide_eq_false h1]at h
   rw[decide_eq_false (show ¬(1:Int)<=(x.length:Int) by &)]
   ~bH (aG.now (by simpa using h))
 | non=>@"dl";~⟨by decide,bb (aG.now h)⟩
 | bl b=>@"dl";~⟨by decide,bb (aG.now h)⟩
 | int b=>@"dl";~⟨by decide,bb (aG.now h)⟩
 | tup b=>@"dl";~⟨by decide,bb (aG.now h)⟩
 | ty b=>~absurd hty (by simp only[tyD];decide)
 | ref n =>
  have e:=bW hty
  simp only[tyD]at e
  @"dl"
  rw[e]
  ~⟨by decide,bb (aG.now h)⟩
include T C_is_letter in
¶Be:Cal P w K mg base 2 "is_name" gU fx :=
 Cal.byH T.f_is_name AN yd (yK T C_is_letter) Au
variable(C_is_name:Cal P w K mg base 2 "is_name" gU fx)
def iz:D->Bool
 | .str x=>decide (1<=x.length)&&decide (x.length<=60)&&x.cps.toList.all kJ
 | _=>false
def dj:DSp:=λds M R=>∃d,ds=[d]/\oZ M d/\R (.bl (iz d)) M
¶se:du dj dR:=by rintro ds M R ⟨x,rfl,_⟩;rfl
def LZ(d:D):D:=.bl (kJ (chD d))
¶CF(x:Str):(L2.signs x).map LZ=bls (x.cps.toList.map kJ):=by
 unfold L2.signs bls
 rw[AAi,AAi]
 rfl
¶uH:FnScope pA dR (ak jg):=by @"sc"
def jH:DTS:=aU (bV (eN qLe qLe (dC (.int 1)) (dCB jo (ab (af 0) ao)) (dC (.int 60))) (dCB Gg (ab (dLC 1 [] (cN (af 0)) (aH 0) oV (dCB fu (ab (af 0) ao))) ao)))
def iU:DTS:=aR (dIf (gi (az (dCB iq (ab (af 0) (ab (dC (.ty "str")) ao))))) (aU (dC (.bl false))) aO) (jH)
include T C_is_sign in
¶sO:cW P w K mg base 1 "is_saying" pA jg iU:=λ_ _ _ _ _ _ _ hr =>
  ah (aP (bj (bm (av br T.b_isinstance aq (aa ac (aa (bq T.b_str ko) ad))))) (al (am jr)) aB)
  (al (am (cB (oB kW kW ae (av bJ T.b_len bL (aa ac ad)) (sw T.c_LONGEST_SAYING)) (da (av vQ T.b_all wz (aa (sv (N':=["sign"]) (nt:=1) (js:=[]) (ca ac) (λ_ _ _ _=>bv (show AB4 (["sign"]:List Str) by decide +kernel)) (λ_ _ _ _=>bZ) (λ_ _ _ _=>ar C_is_sign hr (aa ac ad))) ad))))))
¶tF:WpT dj 1 iU:=by
 rintro ds M R ⟨d,rfl,⟨hty,hl⟩,h⟩
 simp only[iU,jH]
 cases d with
 | str x =>
  have hx:=hl x rfl
  @"dl"
  !⟨by decide,bH ⟨hx,?_⟩⟩
  simp only[iz]at h
  by_cases h1:1<=x.length
  ·rw[decide_eq_true h1]at h
   rw[decide_eq_true (show (1:Int)<=(x.length:Int) by &)]
   !bb ?_
   by_cases h8:x.length<=60
   ·rw[decide_eq_true h8]at h
    rw[decide_eq_true (show (x.length:Int)<=60 by &)]
    !bb ?_
    !cv LZ (λS=>∃a,S=[a]) trivial _ _ _ ?_ ⟨_,rfl⟩ ?_ ?_
    ·rintro y hy S ⟨a,rfl⟩
     #⟨c,_,rfl⟩:=AAN.mp hy
     ~⟨_,⟨_,rfl⟩,λY hY=>⟨c,rfl,hY⟩⟩
    ·simp only[L2.signs,AA6,AAW,Nat.zero_add,←aQ]
     ~aC ¤
    ·!⟨x.cps.toList.map kJ,?_,?_⟩
     ·rw[AAr,CF]
      ~ax
     ·!aG.bl ?_ rM
      simpa using h
   ·rw[decide_eq_false h8]at h
    rw[decide_eq_false (show ¬(x.length:Int)<=60 by &)]
    !bH (aG.now ?_)
    simpa using h
  ·rw[decide_eq_false h1]at h
   rw[decide_eq_false (show ¬(1:Int)<=(x.length:Int) by &)]
   ~bH (aG.now (by simpa using h))
 | non=>@"dl";~⟨by decide,bb (aG.now h)⟩
 | bl b=>@"dl";~⟨by decide,bb (aG.now h)⟩
 | int b=>@"dl";~⟨by decide,bb (aG.now h)⟩
 | tup b=>@"dl";~⟨by decide,bb (aG.now h)⟩
 | ty b=>~absurd hty (by simp only[tyD];decide)
 | ref n =>
  have e:=bW hty
  simp only[tyD]at e
  @"dl"
  rw[e]
  ~⟨by decide,bb (aG.now h)⟩
include T C_is_sign in
¶vm:Cal P w K mg base 2 "is_saying" dR dj :=
 Cal.byH T.f_is_saying uH se (sO T C_is_sign) tF
variable(C_is_saying:Cal P w K mg base 2 "is_saying" dR dj)
def cu:D->D
 | .tup (a::_)=>a
 | _=>.non
def cA:DSp:=λds M R=>∃xs:List D,ds=[.tup xs]/\(∀x∈xs,∃a r,x=.tup (a::r))/\R (.ref M.length) (M++[.lst (xs.map cu)])
¶sk:du cA dY:=by rintro ds M R ⟨xs,rfl,_⟩;rfl
¶uM:FnScope pF dY (ak jm):=by @"sc"
def iY:DTS:=aU (dLC 1 [] (cN (af 0)) (aH 0) oV (dOp qIx (af 0) (dC (.int 0))))
include T in
¶sS:cW P w K mg base 0 "firsts_of" pF jm iY:=λ_ _ _ _ _ _ _ hr =>
  al (am (sv (N':=["pair"]) (nt:=1) (js:=[]) (ca ac) (λ_ _ _ _=>bv (show AB4 (["pair"]:List Str) by decide +kernel)) (λ_ _ _ _=>bZ) (λ_ _ _ _=>aX ac ae)))
¶tJ:WpT cA 1 iY:=by
 rintro ds M R ⟨xs,rfl,hx,h⟩
 simp only[iY]
 @"dl"
 intro hl
 !cv cu (λS=>∃a,S=[a]) trivial _ _ _ ?_ ⟨_,rfl⟩ ?_ ?_
 ·rintro y hy S ⟨a,rfl⟩
  #⟨b,r,rfl⟩:=hx y hy
  !⟨[some (.tup (b::r))],⟨_,rfl⟩,λY hY=>?_⟩
  @"dl"
  ~hY
 ·simpa using hl
 ·~.inl h
include T in
¶vt:Cal P w K mg base 1 "firsts_of" dY cA :=
 Cal.byH T.f_firsts_of uM sk (sS T) tJ
variable(C_firsts_of:Cal P w K mg base 1 "firsts_of" dY cA)
def gZ(ps:List (Str×Int)):D->Int
 | .str x=>((ps.find? λp=>decide (p.1=x)).map (·.2)).getD 0
 | _=>0
def fj:DSp:=λds M R=>∃(ps:List (Str×Int)) (r:List D) (d:D),ds=[.tup (.tup (ps.map aK)::r),d]/\okD M eqN d=true/\R (.int (gZ ps d)) M
¶xY:du fj gP:=by rintro ds M R ⟨ps,r,d,rfl,_⟩;rfl
¶om(p:Str×Int)(ps:List (Str×Int))(d:D)(M:Mem):gZ (p::ps) d=if eqD M eqN (.str p.1) d=true then p.2 else gZ ps d:=by
 cases d with
 | str x =>
  show ((List.find? _ (p::ps)).map _).getD 0=if (p.1==x)=true then _ else _
  by_cases h:p.1=x
  ·subst h;simp
  ·rw[if_neg (by simpa using h)]
   simp[gZ,AB7,h]
 | _=>rfl
¶kK:FnScope wF gP (ak nA):=by @"sc"
def mH:DTS:=aU (dC (.int 0))
def mI:DTS:=aR (yP (cN (dOp qIx (af 0) (dC (.int 0)))) (iF 2 (bw (aH 2) (bw (aH 3) iG))) (dIf (az (dOp qEq (af 2) (af 1))) (aU (af 3)) aO)) (mH)
include T in
¶yF:cW P w K mg base 0 "many_of" wF nA mI:=λ_ _ _ _ _ _ _ hr =>
  ah (hV (ca (aX ac ae)) (iL (bg (cH kK.nd) (bg (cH kK.nd) eT))) (al (aP (aE (bc hr) ac ac) (al (am ac)) aB)))
  (al (am ae))
¶Ap:WpT fj 4 mI:=by
 rintro ds M R ⟨ps,r,d,rfl,ok,h⟩
 simp only[mI,mH]
 @"dl"
 intro _
 !ki (λys S M'=>∃qs a b,ys=qs.map aK/\M'=M/\S=[some (.tup (.tup (ps.map aK)::r)),some d,a,b]/\gZ ps d=gZ qs d) ?_ ?_ _ _ _ ⟨ps,_,_,rfl,rfl,rfl,rfl⟩
 ·rintro S M' ⟨qs,a,b,hq,rfl,rfl,e⟩
  have:qs=[]:=by cases qs<;>simp_all
  subst this
  rw[e]at h
  ~⟨trivial,aG.now (by cases d<;>~h)⟩
 ·rintro x xs S M' ⟨qs,a,b,hq,rfl,rfl,e⟩ L hL
  cases qs with
  | nil=>cases hq
  | cons p qs =>
   rw[AAL]at hq
   injection hq with h1 h2
   subst h1
   !⟨trivial,?_⟩
   unfold aK
   @"dl"
   !⟨trivial,⟨rfl,ok⟩,?_⟩
   rw[om p qs d M']at e
   by_cases hq:eqD M' eqN (.str p.1) d=true
   ·rw[if_pos hq]at e
    rw[hq]
    !bb (aG.now ?_)
    rw[←e];~h
   ·rw[if_neg hq]at e
    rw[ABs.mpr hq]
    ~bH (Fgt.now (hL _ _ ⟨qs,_,_,h2,rfl,rfl,e⟩))
include T in
¶AY:Cal P w K mg base 1 "many_of" gP fj :=
 Cal.byH T.f_many_of kK xY (yF T) Ap
variable(C_many_of:Cal P w K mg base 1 "many_of" gP fj)
def Bl(xs:List Str):D->Bool
 | .str x=>xs.any λy=>y==x
 | _=>false
¶DP{xs:List Str}{d:D}(h:∀x,d≠.str x):Bl xs d=false:=by
 cases d with
 | str x=>~absurd rfl (h x)
 | _=>rfl
¶Ot{α:Type}(xs:List α):(xs.any λ_=>false)=false:=by
 induction xs with
 | nil=>rfl
 | cons a l ih=>rw[ABe,ih];rfl
¶Kz{M:Mem}{d:D}(xs:List Str):inD M d (xs.map D.str)=Bl xs d:=by
 unfold inD
 rw[List.any_map]
 cases d with
 | str x =>
  show (xs.any λy=>eqD M eqN (.str y) (.str x))=xs.any λy=>y==x
  congr 1
 | _=>~Ot xs
¶bne_f(b:Bool):(b != false)=b:=by cases b<;>rfl
¶Jl{M:Mem}{n:Nat}(xs:List Str):(xs.map D.str).all (okD M n)=true:=by
 rw[ADU,AAK]
 intro x _
 ~aM
¶yt{M B:Mem}{R:DK}{n:Nat}{d:D}{xs:List Str}(g:Gdn M n d)(p:M <+: B)(h:R (.bl (Bl xs d)) M):qIn d (.ref B.length) (B++[.lst (xs.map D.str)]) (aG M R):=by
 show ∃ys,aA (B++[MO.lst (xs.map D.str)]) B.length ys/\(okD (B++[MO.lst (xs.map D.str)]) eqN d=true/\ys.all (okD (B++[MO.lst (xs.map D.str)]) eqN)=true)/\aG M R (.bl (inD (B++[MO.lst (xs.map D.str)]) d ys != false)) (B++[MO.lst (xs.map D.str)])
 !⟨xs.map D.str,ax,⟨(g.grow (p.trans rM)).ok,Jl xs⟩,?_⟩
 rw[Kz,bne_f]
 ~aG.bl h (p.trans rM)
¶oN(ps:List (Str×Int)):(ps.map aK).map cu=(ps.map (·.1)).map D.str:=by rw[AAi,AAi];rfl
def dm:DSp:=λds M R=>∃(n:Nat) (ps:List (Str×Int)) (r:List D) (d:D),ds=[.tup (.tup (ps.map aK)::r),d]/\Gdn M n d/\R (.bl (Bl (ps.map (·.1)) d)) M
¶sh:du dm dU:=by rintro ds M R ⟨n,ps,r,d,rfl,_⟩;rfl
¶uJ:FnScope pD dU (ak ji):=by @"sc"
def iW:DTS:=aU (dOp qIn (af 1) (dCB cA (ab (dOp qIx (af 0) (dC (.int 0))) ao)))
include T C_firsts_of in
¶sQ:cW P w K mg base 1 "is_person" pD ji iW:=λ_ _ _ _ _ _ _ hr =>
  al (am (er (Ev hr) ac (ar C_firsts_of hr (aa (aX ac ae) ad))))
¶tH:WpT dm 2 iW:=by
 rintro ds M R ⟨n,ps,r,d,rfl,g,h⟩
 simp only[iW]
 @"dl"
 !⟨ps.map aK,rfl,λx hx=>?_,?_⟩
 ·#⟨p,_,rfl⟩:=AAN.mp hx
  ~⟨_,_,rfl⟩
 ·rw[oN]
  ~yt g (AE4 M) h
include T C_firsts_of in
¶vp:Cal P w K mg base 2 "is_person" dU dm :=
 Cal.byH T.f_is_person uJ sh (sQ T C_firsts_of) tH
variable(C_is_person:Cal P w K mg base 2 "is_person" dU dm)
def bP(p:Str×List Str):D:=.tup [.str p.1,.tup (p.2.map .str)]
¶oM(rs:List (Str×List Str)):(rs.map bP).map cu=(rs.map (·.1)).map D.str:=by rw[AAi,AAi];rfl
def dA:DSp:=λds M R=>∃(n:Nat) (p0:D) (rs:List (Str×List Str)) (r:List D) (d:D),ds=[.tup (p0::.tup (rs.map bP)::r),d]/\Gdn M n d/\R (.bl (Bl (rs.map (·.1)) d)) M
¶yb:du dA gS:=by rintro ds M R ⟨n,p0,rs,r,d,rfl,_⟩;rfl
¶AL:FnScope wI gS (ak nD):=by @"sc"
def mO:DTS:=aU (dOp qIn (af 1) (dCB cA (ab (dOp qIx (af 0) (dC (.int 1))) ao)))
include T C_firsts_of in
¶yI:cW P w K mg base 1 "is_room" wI nD mO:=λ_ _ _ _ _ _ _ hr =>
  al (am (er (Ev hr) ac (ar C_firsts_of hr (aa (aX ac ae) ad))))
¶As:WpT dA 2 mO:=by
 rintro ds M R ⟨n,p0,rs,r,d,rfl,g,h⟩
 simp only[mO]
 @"dl"
 !⟨rs.map bP,rfl,λx hx=>?_,?_⟩
 ·#⟨p,_,rfl⟩:=AAN.mp hx
  ~⟨_,_,rfl⟩
 ·rw[oM]
  ~yt g (AE4 M) h
include T C_firsts_of in
¶Bb:Cal P w K mg base 2 "is_room" gS dA :=
 Cal.byH T.f_is_room AL yb (yI T C_firsts_of) As
variable(C_is_room:Cal P w K mg base 2 "is_room" gS dA)
def bM(ps:List (Str×Int)):D->Bool
 | .tup [a,.int k]=>decide (0<=k)&&decide (k<gZ ps a)
 | _=>false
def dB:DSp:=λds M R=>∃(ps:List (Str×Int)) (r:List D) (d:D),ds=[.tup (.tup (ps.map aK)::r),d]/\tyD M d∈pG/\(∀a b,d=.tup [a,b]->okD M eqN a=true/\tyD M b∈pG)/\R (.bl (bM ps d)) M
¶ye:du dB gW:=by rintro ds M R ⟨ps,r,d,rfl,_⟩;rfl
¶AO:FnScope wL gW (ak nG):=by @"sc"
def mZ:DTS:=aU (bV (dCB ba (ab (dC (.int 2)) (ab (af 1) ao))) (bV (dCB cT (ab (dOp qIx (af 1) (dC (.int 1))) ao)) (eN qLe qLt (dC (.int 0)) (dOp qIx (af 1) (dC (.int 1))) (dCB fj (ab (af 0) (ab (dOp qIx (af 1) (dC (.int 0))) ao))))))
include T C_is_whole C_is_tuple_of C_many_of in
¶yL:cW P w K mg base 1 "is_hand" wL nG mZ:=λ_ _ _ _ _ _ _ hr =>
  al (am (cB (ar C_is_tuple_of hr (aa ae (aa ac ad))) (cB (ar C_is_whole hr (aa (aX ac ae) ad)) (da (oB kW sy ae (aX ac ae) (ar C_many_of hr (aa ac (aa (aX ac ae) ad))))))))
¶Av:WpT dB 2 mZ:=by
 rintro ds M R ⟨ps,r,d,rfl,ht,hab,h⟩
 simp only[mZ]
 simp only[aU,bV,dCB,ab,ao,dC,af,cQ,AAL,ACh,AC5,AAr,ABa,ABB,AAA,AAW,ACF,ABz,ACQ]
 !⟨2,d,rfl,ht,?_⟩
 by_cases ht2:∃a b,d=.tup [a,b]
 ·#⟨a,b,rfl⟩:=ht2
  #⟨oka,tyb⟩:=hab a b rfl
  @"dl"
  !bb ⟨b,rfl,tyb,?_⟩
  cases b with
  | int k =>
   simp only[tK,if_true]
   by_cases h0:0<=k
   ·rw[decide_eq_true h0]
    simp only[va,↓reduceIte]
    !⟨ps,r,a,rfl,oka,aG.now ?_⟩
    have e:bM ps (.tup [a,.int k])=decide (k<gZ ps a):=by simp[bM,h0]
    rw[e]at h
    ~h
   ·rw[decide_eq_false h0]
    have e:bM ps (.tup [a,.int k])=false:=by simp[bM,h0]
    rw[e]at h
    simp only[va,↓reduceIte,AAF]
    ~aG.now h
  | _=>simp only[tK,AAF,↓reduceIte];~aG.now h
 ·have e1:qV 2 d=false:=by
   cases d with
   | tup xs =>
    match xs with
    | []=>rfl
    | [_]=>rfl
    | [a,b]=>~absurd ⟨a,b,rfl⟩ ht2
    | _::_::_::_=>simp[qV];&
   | _=>rfl
  have e2:bM ps d=false:=by
   unfold bM
   split
   ·~absurd ⟨_,_,rfl⟩ ht2
   ·rfl
  rw[e1]
  rw[e2]at h
  simp only[va,AAF,↓reduceIte]
  ~aG.now h
include T C_is_whole C_is_tuple_of C_many_of in
¶Bf:Cal P w K mg base 2 "is_hand" gW dB :=
 Cal.byH T.f_is_hand AO ye (yL T C_is_whole C_is_tuple_of C_many_of) Av
variable(C_is_hand:Cal P w K mg base 2 "is_hand" gW dB)
¶lz(d:D):(∃a b,d=.tup [a,b])\/(qV 2 d=false/\∀a b,d≠.tup [a,b]):=by
 cases d with
 | tup xs =>
  match xs with
  | []=>~.inr ⟨rfl,λ_ _ z=>by simp at z⟩
  | [_]=>~.inr ⟨rfl,λ_ _ z=>by simp at z⟩
  | [a,b]=>~.inl ⟨a,b,rfl⟩
  | _::_::_::_=>~.inr ⟨by simp[qV];&,λ_ _ z=>by simp at z⟩
 | _=>~.inr ⟨rfl,λ_ _ z=>by cases z⟩
¶mw{M:Mem}{n:Nat}{d:D}(g:Gdn M n d):tyD M d∈pG/\∀a b,d=.tup [a,b]->okD M eqN a=true/\tyD M b∈pG:=by
 !⟨g.thing.1,λa b e=>?_⟩
 subst e
 #⟨_,m,rfl,gx⟩:=g.tup
 ~⟨(gx a (by simp)).ok,(gx b (by simp)).thing.1⟩
def cO(ps:List (Str×Int)):D->Bool
 | .tup [a,b]=>aV 1 a&&bM ps b
 | _=>false
¶nu{ps:List (Str×Int)}{d:D}(h:∀a b,d≠.tup [a,b]):cO ps d=false:=by
 unfold cO
 split
 ·~absurd rfl (h _ _)
 ·rfl
def bN:DSp:=λds M R=>∃(n:Nat) (ps:List (Str×Int)) (r:List D) (d:D),ds=[.tup (.tup (ps.map aK)::r),d]/\Gdn M n d/\R (.bl (cO ps d)) M
¶vJ:du bN eZ:=by rintro ds M R ⟨n,ps,r,d,rfl,_⟩;rfl
¶xw:FnScope qN eZ (ak kO):=by @"sc"
def kH:DTS:=aU (bV (dCB ba (ab (dC (.int 2)) (ab (af 1) ao))) (bV (dCB bh (ab (dC (.int 1)) (ab (dOp qIx (af 1) (dC (.int 0))) ao))) (dCB dB (ab (af 0) (ab (dOp qIx (af 1) (dC (.int 1))) ao)))))
include T C_is_whole_from C_is_tuple_of C_is_hand in
¶wf:cW P w K mg base 2 "is_stamp" qN kO kH:=λ_ _ _ _ _ _ _ hr =>
  al (am (cB (ar C_is_tuple_of hr (aa ae (aa ac ad))) (cB (ar C_is_whole_from hr (aa ae (aa (aX ac ae) ad))) (da (ar C_is_hand hr (aa ac (aa (aX ac ae) ad)))))))
¶wU:WpT bN 2 kH:=by
 rintro ds M R ⟨n,ps,r,d,rfl,g,h⟩
 simp only[kH]
 simp only[aU,bV,dCB,ab,ao,dC,af,cQ,AAL,ACh,AC5,AAr,ABa,ABB,AAA,AAW,ACF,ABz,ACQ]
 !⟨2,d,rfl,g.thing.1,?_⟩
 rcases lz d with⟨a,b,rfl⟩|⟨e1,e2⟩
 ·#⟨_,m,rfl,gx⟩:=g.tup
  have ga:=gx a (by simp)
  have gb:=gx b (by simp)
  @"dl"
  !bb ⟨1,a,rfl,ga.thing.1,?_⟩
  simp only[cO]at h
  cases ea:aV 1 a with
  | false =>
   rw[ea]at h
   @"ifs"
   ~aG.now h
  | true =>
   rw[ea]at h
   @"ifs"
   ~⟨ps,r,b,rfl,(mw gb).1,(mw gb).2,aG.now h⟩
 ·rw[nu e2]at h
  rw[e1]
  @"ifs"
  ~aG.now h
include T C_is_whole_from C_is_tuple_of C_is_hand in
¶xQ:Cal P w K mg base 3 "is_stamp" eZ bN :=
 Cal.byH T.f_is_stamp xw vJ (wf T C_is_whole_from C_is_tuple_of C_is_hand) wU
variable(C_is_stamp:Cal P w K mg base 3 "is_stamp" eZ bN)
def cJ(ps:List (Str×Int)):D->Bool
 | .tup [a,b]=>bM ps a&&aV 1 b
 | _=>false
¶kj{ps:List (Str×Int)}{d:D}(h:∀a b,d≠.tup [a,b]):cJ ps d=false:=by
 unfold cJ
 split
 ·~absurd rfl (h _ _)
 ·rfl
def bQ:DSp:=λds M R=>∃(n:Nat) (ps:List (Str×Int)) (r:List D) (d:D),ds=[.tup (.tup (ps.map aK)::r),d]/\Gdn M n d/\R (.bl (cJ ps d)) M
¶kS:du bQ bY:=by rintro ds M R ⟨n,ps,r,d,rfl,_⟩;rfl
¶lY:FnScope ik bY (ak dI):=by @"sc"
def dG:DTS:=aU (bV (dCB ba (ab (dC (.int 2)) (ab (af 1) ao))) (bV (dCB dB (ab (af 0) (ab (dOp qIx (af 1) (dC (.int 0))) ao))) (dCB bh (ab (dC (.int 1)) (ab (dOp qIx (af 1) (dC (.int 1))) ao)))))
include T C_is_whole_from C_is_tuple_of C_is_hand in
¶lc:cW P w K mg base 2 "is_hand_count" ik dI dG:=λ_ _ _ _ _ _ _ hr =>
  al (am (cB (ar C_is_tuple_of hr (aa ae (aa ac ad))) (cB (ar C_is_hand hr (aa ac (aa (aX ac ae) ad))) (da (ar C_is_whole_from hr (aa ae (aa (aX ac ae) ad)))))))
¶lW:WpT bQ 2 dG:=by
 rintro ds M R ⟨n,ps,r,d,rfl,g,h⟩
 simp only[dG]
 simp only[aU,bV,dCB,ab,ao,dC,af,cQ,AAL,ACh,AC5,AAr,ABa,ABB,AAA,AAW,ACF,ABz,ACQ]
 !⟨2,d,rfl,g.thing.1,?_⟩
 rcases lz d with⟨a,b,rfl⟩|⟨e1,e2⟩
 ·#⟨_,m,rfl,gx⟩:=g.tup
  have ga:=gx a (by simp)
  have gb:=gx b (by simp)
  @"dl"
  !bb ⟨ps,r,a,rfl,(mw ga).1,(mw ga).2,?_⟩
  simp only[cJ]at h
  cases ea:bM ps a with
  | false =>
   rw[ea]at h
   @"ifs"
   ~aG.now h
  | true =>
   rw[ea]at h
   @"ifs"
   ~⟨1,b,rfl,gb.thing.1,aG.now h⟩
 ·rw[kj e2]at h
  rw[e1]
  @"ifs"
  ~aG.now h
include T C_is_whole_from C_is_tuple_of C_is_hand in
¶md:Cal P w K mg base 3 "is_hand_count" bY bQ :=
 Cal.byH T.f_is_hand_count lY kS (lc T C_is_whole_from C_is_tuple_of C_is_hand) lW
variable(C_is_hand_count:Cal P w K mg base 3 "is_hand_count" bY bQ)
¶iI(M:Mem){n:Nat}{d:D}(g:Gdn M n d):(∃xs,d=.tup xs)\/((iw (tyD M d) "tuple")=false/\∀xs,d≠.tup xs):=by
 cases d with
 | tup xs=>~.inl ⟨xs,rfl⟩
 | ref i=>~.inr ⟨by rw[bW g.thing.1];decide,λ_ z=>by cases z⟩
 | ty t=>~.inr ⟨by simp only[tyD];decide,λ_ z=>by cases z⟩
 | _=>~.inr ⟨by simp only[tyD];decide,λ_ z=>by cases z⟩
¶sA{ps:List (Str×Int)}{d:D}(h:bM ps d=true):Hd d:=by
 unfold bM at h
 split at h
 ·rename_i a k
  cases a with
  | str x=>~⟨x,k,rfl⟩
  | _ =>
   have h':(decide (0<=k)&&decide (k<0))=true:=h
   rw[AAD,decide_eq_true_eq,decide_eq_true_eq]at h'
   &
 ·cases h
¶Aa{ps:List (Str×Int)}{d:D}(h:cJ ps d=true):∃a b,d=.tup [a,b]/\bM ps a=true/\aV 1 b=true:=by
 rcases lz d with⟨a,b,rfl⟩|⟨_,e⟩
 ·simp only[cJ,AAD]at h
  ~⟨a,b,rfl,h.1,h.2⟩
 ·rw[kj e]at h;cases h
def dE(M:Mem)(ps:List (Str×Int)):D->Bool
 | .tup xs=>xs.all (cJ ps)&&dw M (xs.map cu)
 | _=>false
¶pY{M:Mem}{ps:List (Str×Int)}{d:D}(h:∀xs,d≠.tup xs):dE M ps d=false:=by
 unfold dE
 split
 ·~absurd rfl (h _)
 ·rfl
¶Nz{M M':Mem}{a b:D}(ha:Hd a)(hb:Hd b):ltD M eqN a b=ltD M' eqN a b:=by
 #⟨x,k,rfl⟩:=ha
 #⟨y,l,rfl⟩:=hb
 rfl
¶uN{M M':Mem}:∀{xs:List D},(∀x∈xs,Hd x)->dw M xs=dw M' xs
 | [],_=>rfl
 | [_],_=>rfl
 | a::b::r,h=>by
  show (ltD M eqN a b&&dw M (b::r))=(ltD M' eqN a b&&dw M' (b::r))
  rw[Nz (M':=M') (h a (by simp)) (h b (by simp)),uN (M':=M') λx hx=>h x (AA9 _ hx)]
¶Oq{C:Mem}{k:Nat}{xs:List D}{p:D->Bool}(h:aA C k (xs.map λd=>.bl (p d))):aA C k (bls (xs.map p)):=by unfold bls;rw[AAi];~h
def dh:DSp:=λds M R=>∃(n:Nat) (ps:List (Str×Int)) (r:List D) (d:D),ds=[.tup (.tup (ps.map aK)::r),d]/\Gdn M n d/\R (.bl (dE M ps d)) M
¶sd:du dh dQ:=by rintro ds M R ⟨n,ps,r,d,rfl,_⟩;rfl
¶uG:FnScope pz dQ (ak jf):=by @"sc"
def jG:DTS:=aU (dCB dk (ab (dLC 1 [] (cN (af 1)) (aH 0) oV (dOp qIx (af 0) (dC (.int 0)))) ao))
def iT:DTS:=aR (dIf (dOr (gi (az (dCB iq (ab (af 1) (ab (dC (.ty "tuple")) ao))))) (gi (az (dCB Gg (ab (dLC 1 [0] (cN (af 1)) (aH 0) oV (dCB bQ (ab (af 1) (ab (af 0) ao)))) ao))))) (aU (dC (.bl false))) aO) (jG)
include T C_is_rising C_is_hand_count in
¶sN:cW P w K mg base 3 "is_vector" pz jf iT:=λ_ _ _ _ _ _ _ hr =>
  ah (aP (pS (eS (bj (bm (av br T.b_isinstance aq (aa ac (aa (bq T.b_tuple bp) ad))))) (dZ (bj (bm (av vQ T.b_all wz (aa (sv (N':=["pair","house"]) (nt:=1) (js:=[0]) (ca ac) (λ_ _ _ _=>bv (show AB4 (["pair","house"]:List Str) by decide +kernel)) (λ_ _ _ _=>bZ) (λ_ _ _ _=>ar C_is_hand_count hr (aa ac (aa ac ad)))) ad))))))) (al (am jr)) aB)
  (al (am (ar C_is_rising hr (aa (sv (N':=["pair"]) (nt:=1) (js:=[]) (ca ac) (λ_ _ _ _=>bv (show AB4 (["pair"]:List Str) by decide +kernel)) (λ_ _ _ _=>bZ) (λ_ _ _ _=>aX ac ae)) ad))))
¶tE:WpT dh 2 iT:=by
 rintro ds M R ⟨n,ps,r,d,rfl,g,h⟩
 simp only[iT,jG]
 rcases iI M g with⟨xs,rfl⟩|⟨e1,e2⟩
 ·#⟨hl,m,rfl,gx⟩:=g.tup
  @"dl"
  !⟨by decide,?_⟩
  rw[show iw "tuple" "tuple" = true from rfl]
  @"ifs"
  intro hz
  !cv (λd=>.bl (cJ ps d)) (λS=>∃a,S=[a,some (.tup (.tup (ps.map aK)::r))]) trivial _ _ _ ?_ ⟨_,rfl⟩ (by simpa using hz) ?_
  ·rintro y hy S ⟨a,rfl⟩
   ~⟨[some y,some (.tup (.tup (ps.map aK)::r))],⟨_,rfl⟩,λY hY=>⟨m,ps,r,y,rfl,gx y hy,hY⟩⟩
  ·!⟨xs.map (cJ ps),Oq (by rw[AAr];~ax),?_⟩
   simp only[dE]at h
   cases ha:(xs.map (cJ ps)).all id with
   | false =>
    rw[ADU]at ha
    rw[show xs.all (cJ ps)=false from ha]at h
    @"ifs"
    ~aG.bl h rM
   | true =>
    @"ifs"
    rw[ADU]at ha
    rw[show xs.all (cJ ps)=true from ha,AAx]at h
    have hp:∀x∈xs,∃a b,x=.tup [a,b]/\Hd a:=λx hx=>by
     #⟨a,b,e,ha',_⟩:=Aa (AAK.mp ha x hx)
     ~⟨a,b,e,sA ha'⟩
    have hh:∀x∈xs.map cu,Hd x:=λx hx=>by
     #⟨y,hy,rfl⟩:=AAN.mp hx
     #⟨a,b,rfl,ha'⟩:=hp y hy
     ~ha'
    intro _
    !cv cu (λS=>∃a,S=[a]) trivial _ _ _ ?_ ⟨_,rfl⟩ (by simpa using hz) ?_
    ·rintro y hy S ⟨a,rfl⟩
     #⟨a,b,rfl,_⟩:=hp y hy
     !⟨[some (.tup [a,b])],⟨_,rfl⟩,λY hY=>?_⟩
     @"dl"
     ~hY
    ·rw[AAr]
     !⟨_,xs.map cu,rfl,.inl ⟨_,rfl,ax⟩,hh,by rw[AA6];&,?_⟩
     rw[uN (M':=M) hh]
     ~aG.bl h (by rw[ABT];~ABK _ _)
 ·rw[pY e2]at h
  @"dl"
  !⟨⟨g.thing.1,by decide⟩,?_⟩
  simp only[tyD]at e1
  rw[e1]
  @"ifs"
  ~aG.now h
include T C_is_rising C_is_hand_count in
¶vk:Cal P w K mg base 4 "is_vector" dQ dh :=
 Cal.byH T.f_is_vector uG sd (sN T C_is_rising C_is_hand_count) tE
variable(C_is_vector:Cal P w K mg base 4 "is_vector" dQ dh)
def isS(z:Str):D->Bool
 | .str x=>x==z
 | _=>false
¶ic{M:Mem}{d:D}{z:Str}:eqD M eqN d (.str z)=isS z d:=by
 cases d with
 | str x=>~cx
 | _=>rfl
def qR(ps:List (Str×Int))(rs:List (Str×List Str)):D->Bool
 | .tup [a,b]=>if isS (AA1 "room") a=true then Bl (rs.map (·.1)) b else if isS (AA1 "person") a=true then Bl (ps.map (·.1)) b else isS (AA1 "under") a&&cO ps b
 | _=>false
¶qQ{ps:List (Str×Int)}{rs:List (Str×List Str)}{d:D}(h:∀a b,d≠.tup [a,b]):qR ps rs d=false:=by
 unfold qR
 split
 ·~absurd rfl (h _ _)
 ·rfl
def fq:DSp:=λds M R=>∃(n:Nat) (ps:List (Str×Int)) (rs:List (Str×List Str)) (r:List D) (d:D),ds=[.tup (.tup (ps.map aK)::.tup (rs.map bP)::r),d]/\Gdn M n d/\R (.bl (qR ps rs d)) M
¶xZ:du fq gQ:=by rintro ds M R ⟨n,ps,rs,r,d,rfl,_⟩;rfl
¶AJ:FnScope wG gQ (ak nB):=by @"sc"
def mJ:DTS:=aU (bV (dOp qEq (dOp qIx (af 1) (dC (.int 0))) (dC (.str "under"))) (dCB bN (ab (af 0) (ab (dOp qIx (af 1) (dC (.int 1))) ao))))
def mK:DTS:=aR (dIf (az (dOp qEq (dOp qIx (af 1) (dC (.int 0))) (dC (.str "person")))) (aU (dCB dm (ab (af 0) (ab (dOp qIx (af 1) (dC (.int 1))) ao)))) aO) (mJ)
def mL:DTS:=aR (dIf (az (dOp qEq (dOp qIx (af 1) (dC (.int 0))) (dC (.str "room")))) (aU (dCB dA (ab (af 0) (ab (dOp qIx (af 1) (dC (.int 1))) ao)))) aO) (mK)
def mM:DTS:=aR (dIf (gi (az (dCB ba (ab (dC (.int 2)) (ab (af 1) ao))))) (aU (dC (.bl false))) aO) (mL)
include T C_is_tuple_of C_is_person C_is_room C_is_stamp in
¶yG:cW P w K mg base 3 "is_what" wG nB mM:=λ_ _ _ _ _ _ _ hr =>
  ah (aP (bj (bm (ar C_is_tuple_of hr (aa ae (aa ac ad))))) (al (am jr)) aB)
  (ah (aP (aE (bc hr) (aX ac ae) aY) (al (am (ar C_is_room hr (aa ac (aa (aX ac ae) ad))))) aB)
  (ah (aP (aE (bc hr) (aX ac ae) aY) (al (am (ar C_is_person hr (aa ac (aa (aX ac ae) ad))))) aB)
  (al (am (cB (er (bc hr) (aX ac ae) aY) (da (ar C_is_stamp hr (aa ac (aa (aX ac ae) ad)))))))))
¶Aq:WpT fq 2 mM:=by
 rintro ds M R ⟨n,ps,rs,r,d,rfl,g,h⟩
 simp only[mM]
 @"dl"
 !⟨2,d,rfl,g.thing.1,?_⟩
 rcases lz d with⟨a,b,rfl⟩|⟨e1,e2⟩
 ·#⟨_,m,rfl,gx⟩:=g.tup
  have ga:=gx a (by simp)
  have gb:=gx b (by simp)
  rw[show qV 2 (.tup [a,b])=true from rfl]
  @"ifs"
  simp only[mL]
  @"dl"
  !⟨⟨ga.ok,aM⟩,?_⟩
  rw[ic]
  simp only[qR]at h
  cases e1:isS (AA1 "room") a with
  | true =>
   rw[e1,if_pos rfl]at h
   ~bb ⟨m,_,rs,r,b,rfl,gb,aG.now h⟩
  | false =>
   rw[e1,if_neg AAb]at h
   !bH ?_
   simp only[mK]
   @"dl"
   !⟨⟨ga.ok,aM⟩,?_⟩
   rw[ic]
   cases e2:isS (AA1 "person") a with
   | true =>
    rw[e2,if_pos rfl]at h
    ~bb ⟨m,ps,_,b,rfl,gb,aG.now h⟩
   | false =>
    rw[e2,if_neg AAb]at h
    !bH ?_
    simp only[mJ]
    @"dl"
    !⟨⟨ga.ok,aM⟩,?_⟩
    rw[ic]
    cases e3:isS (AA1 "under") a with
    | true =>
     rw[e3,AAx]at h
     @"ifs"
     ~⟨m,ps,_,b,rfl,gb,aG.now h⟩
    | false =>
     rw[e3,AAw]at h
     @"ifs"
     ~aG.now h
 ·rw[e1]
  @"ifs"
  rw[qQ e2]at h
  ~aG.now h
include T C_is_tuple_of C_is_person C_is_room C_is_stamp in
¶AZ:Cal P w K mg base 4 "is_what" gQ fq :=
 Cal.byH T.f_is_what AJ xZ (yG T C_is_tuple_of C_is_person C_is_room C_is_stamp) Aq
variable(C_is_what:Cal P w K mg base 4 "is_what" gQ fq)
def Er:D->Bool
 | .non=>true
 | _=>false
def isBl:D->Bool
 | .bl _=>true
 | _=>false
¶Ep{M:Mem}{n:Nat}{d:D}(g:Gdn M n d):iw (tyD M d) "bool" = isBl d:=by
 cases d with
 | ref i=>rw[bW g.thing.1];rfl
 | _=>rfl
¶zu(M:Mem){n:Nat}{d:D}(g:Gdn M n d):(∃x,d=.str x)\/((iw (tyD M d) "str")=false/\∀x,d≠.str x):=by
 cases d with
 | str x=>~.inl ⟨x,rfl⟩
 | ref i=>~.inr ⟨by rw[bW g.thing.1];rfl,λ_ z=>by cases z⟩
 | _=>~.inr ⟨rfl,λ_ z=>by cases z⟩
def cc(M:Mem)(ps:List (Str×Int))(rs:List (Str×List Str))(part:Str)(d:D):Bool :=
 if (part==AA1 "room")=true then Bl (rs.map (·.1)) d
 else if (part==AA1 "under")=true then Er d||cO ps d
 else if (part==AA1 "message")=true then cO ps d
 else if (part==AA1 "saying")=true then iz d
 else if (part==AA1 "sort")=true then oE d
 else if (part==AA1 "vector")=true then dE M ps d
 else if (part==AA1 "what")=true then qR ps rs d
 else(part==AA1 "on")&&isBl d
def fv:DSp:=λds M R=>∃(n:Nat) (ps:List (Str×Int)) (rs:List (Str×List Str)) (r:List D) (part:Str) (d:D),ds=[.tup (.tup (ps.map aK)::.tup (rs.map bP)::r),.str part,d]/\Gdn M n d/\R (.bl (cc M ps rs part d)) M
¶yc:du fv gT:=by rintro ds M R ⟨n,ps,rs,r,part,d,rfl,_⟩;rfl
¶AM:FnScope wJ gT (ak nE):=by @"sc"
def mP:DTS:=aU (bV (dOp qEq (af 1) (dC (.str "on"))) (dCB iq (ab (af 2) (ab (dC (.ty "bool")) ao))))
def mQ:DTS:=aR (dIf (az (dOp qEq (af 1) (dC (.str "what")))) (aU (dCB fq (ab (af 0) (ab (af 2) ao)))) aO) (mP)
def mR:DTS:=aR (dIf (az (dOp qEq (af 1) (dC (.str "vector")))) (aU (dCB dh (ab (af 0) (ab (af 2) ao)))) aO) (mQ)
def mS:DTS:=aR (dIf (az (dOp qEq (af 1) (dC (.str "sort")))) (aU (dCB fx (ab (af 2) ao))) aO) (mR)
def mT:DTS:=aR (dIf (az (dOp qEq (af 1) (dC (.str "saying")))) (aU (dCB dj (ab (af 2) ao))) aO) (mS)
def mU:DTS:=aR (dIf (az (dOp qEq (af 1) (dC (.str "message")))) (aU (dCB bN (ab (af 0) (ab (af 2) ao)))) aO) (mT)
def mV:DTS:=aR (dIf (az (dOp qEq (af 1) (dC (.str "under")))) (aU (Oj (dOp qIs (af 2) (dC .non)) (dCB bN (ab (af 0) (ab (af 2) ao))))) aO) (mU)
def mW:DTS:=aR (dIf (az (dOp qEq (af 1) (dC (.str "room")))) (aU (dCB dA (ab (af 0) (ab (af 2) ao)))) aO) (mV)
include T C_is_name C_is_saying C_is_room C_is_stamp C_is_vector C_is_what in
¶yJ:cW P w K mg base 4 "is_part" wJ nE mW:=λ_ _ _ _ _ _ _ hr =>
  ah (aP (aE (bc hr) ac aY) (al (am (ar C_is_room hr (aa ac (aa ac ad))))) aB)
  (ah (aP (aE (bc hr) ac aY) (al (am (k_or (er Nv ac Hb) (da (ar C_is_stamp hr (aa ac (aa ac ad))))))) aB)
  (ah (aP (aE (bc hr) ac aY) (al (am (ar C_is_stamp hr (aa ac (aa ac ad))))) aB)
  (ah (aP (aE (bc hr) ac aY) (al (am (ar C_is_saying hr (aa ac ad)))) aB)
  (ah (aP (aE (bc hr) ac aY) (al (am (ar C_is_name hr (aa ac ad)))) aB)
  (ah (aP (aE (bc hr) ac aY) (al (am (ar C_is_vector hr (aa ac (aa ac ad))))) aB)
  (ah (aP (aE (bc hr) ac aY) (al (am (ar C_is_what hr (aa ac (aa ac ad))))) aB)
  (al (am (cB (er (bc hr) ac aY) (da (av br T.b_isinstance aq (aa ac (aa (bq T.b_bool jw) ad)))))))))))))
¶At:WpT fv 3 mW:=by
 rintro ds M R ⟨n,ps,rs,r,part,d,rfl,g,h⟩
 unfold cc at h
 simp only[mW]
 @"dl"
 !⟨⟨aM,aM⟩,?_⟩
 rw[cx]
 cases e1:(part==AA1 "room") with
 | true=>rw[e1,if_pos rfl]at h;~bb ⟨n,_,rs,r,d,rfl,g,aG.now h⟩
 | false =>
 rw[e1,if_neg AAb]at h
 !bH ?_
 simp only[mV]
 @"dl"
 !⟨⟨aM,aM⟩,?_⟩
 rw[cx]
 cases e2:(part==AA1 "under") with
 | true =>
  rw[e2,if_pos rfl]at h
  !bb ?_
  have h1:Er d=true->aG M R (.bl true) M:=λe=>by rw[e,Bool.true_or]at h;~aG.now h
  have h2:Er d=false->bN [.tup (.tup (ps.map aK)::.tup (rs.map bP)::r),d] M (aG M R):=λe=>by rw[e,Bool.false_or]at h;~⟨n,ps,_,d,rfl,g,aG.now h⟩
  cases d<;>first | ~h1 rfl | ~h2 rfl | ~bb (h1 rfl) | ~bH (h2 rfl)
 | false =>
 rw[e2,if_neg AAb]at h
 !bH ?_
 simp only[mU]
 @"dl"
 !⟨⟨aM,aM⟩,?_⟩
 rw[cx]
 cases e3:(part==AA1 "message") with
 | true=>rw[e3,if_pos rfl]at h;~bb ⟨n,ps,_,d,rfl,g,aG.now h⟩
 | false =>
 rw[e3,if_neg AAb]at h
 !bH ?_
 simp only[mT]
 @"dl"
 !⟨⟨aM,aM⟩,?_⟩
 rw[cx]
 cases e4:(part==AA1 "saying") with
 | true=>rw[e4,if_pos rfl]at h;~bb ⟨d,rfl,g.thing,aG.now h⟩
 | false =>
 rw[e4,if_neg AAb]at h
 !bH ?_
 simp only[mS]
 @"dl"
 !⟨⟨aM,aM⟩,?_⟩
 rw[cx]
 cases e5:(part==AA1 "sort") with
 | true=>rw[e5,if_pos rfl]at h;~bb ⟨d,rfl,g.thing,aG.now h⟩
 | false =>
 rw[e5,if_neg AAb]at h
 !bH ?_
 simp only[mR]
 @"dl"
 !⟨⟨aM,aM⟩,?_⟩
 rw[cx]
 cases e6:(part==AA1 "vector") with
 | true=>rw[e6,if_pos rfl]at h;~bb ⟨n,ps,_,d,rfl,g,aG.now h⟩
 | false =>
 rw[e6,if_neg AAb]at h
 !bH ?_
 simp only[mQ]
 @"dl"
 !⟨⟨aM,aM⟩,?_⟩
 rw[cx]
 cases e7:(part==AA1 "what") with
 | true=>rw[e7,if_pos rfl]at h;~bb ⟨n,ps,rs,r,d,rfl,g,aG.now h⟩
 | false =>
 rw[e7,if_neg AAb]at h
 !bH ?_
 simp only[mP]
 @"dl"
 !⟨⟨aM,aM⟩,?_⟩
 rw[cx]
 cases e8:(part==AA1 "on") with
 | true =>
  rw[e8,AAx]at h
  @"ifs"
  !⟨⟨g.thing.1,by decide⟩,?_⟩
  have e:=Ep g
  simp only[tyD]at e
  rw[e]
  ~aG.now h
 | false =>
  rw[e8,AAw]at h
  @"ifs"
  ~aG.now h
include T C_is_name C_is_saying C_is_room C_is_stamp C_is_vector C_is_what in
¶Bc:Cal P w K mg base 5 "is_part" gT fv :=
 Cal.byH T.f_is_part AM yc (yJ T C_is_name C_is_saying C_is_room C_is_stamp C_is_vector C_is_what) At
variable(C_is_part:Cal P w K mg base 5 "is_part" gT fv)
¶zZ{a:D}{xs:List D}:cutD (a::xs) (some 1) none=xs:=by
 unfold cutD
 rw[show (some (1:Int))=some ((1:Nat):Int)from rfl,HT.sIx_nat,HT.sIx_none,AAA,Nat.min_eq_left ¤,List.drop_one,List.tail_cons,Nat.add_sub_cancel,AC3]
def wB(M:Mem)(ps:List (Str×Int))(rs:List (Str×List Str)):D->Bool
 | .tup (.str z::xs)=>match aT.find? (λp=>p.1==z) with
  | some p=>(xs.length==p.2.length)&&(p.2.zip xs).all λq=>cc M ps rs q.1 q.2
  | none=>false
 | _=>false
section
variable{M:Mem}{ps:List (Str×Int)}{rs:List (Str×List Str)}{z:Str}{xs:List D}
¶ku{p:Str×List Str}(h:aT.find? (λp=>p.1==z)=some p):wB M ps rs (.tup (.str z::xs))=((xs.length==p.2.length)&&(p.2.zip xs).all λq=>cc M ps rs q.1 q.2):=by
 simp only[wB,h]
¶Ah(h:aT.find? (λp=>p.1==z)=none):wB M ps rs (.tup (.str z::xs))=false:=by
 simp only[wB,h]
¶Ai{a:D}(h:∀x,a≠.str x):wB M ps rs (.tup (a::xs))=false:=by
 cases a with
 | str x=>~absurd rfl (h x)
 | _=>rfl
¶Aj{d:D}(h:∀xs,d≠.tup xs):wB M ps rs d=false:=by
 cases d with
 | tup x=>~absurd rfl (h x)
 | _=>rfl
end
¶IW{ks:List Str}{xs:List D}{y:D}(h:y∈BK (ks.map .str) xs):∃q x,x∈xs/\y=.tup [.str q,x]:=by
 unfold BK at h
 #⟨p,hp,rfl⟩:=AAN.mp h
 have h1:=ADX hp
 #⟨q,_,e⟩:=AAN.mp h1.1
 ~⟨q,p.2,h1.2,by rw[←e]⟩
¶BR{f:Str->D->Bool}:∀(ks:List Str) (xs:List D),(BK (ks.map .str) xs).map (λd=>match d with | .tup [.str q,x]=>.bl (f q x) | _=>.bl false)=bls ((ks.zip xs).map λq=>f q.1 q.2)
 | [],_=>rfl
 | _::_,[]=>rfl
 | k::ks,x::xs=>by
  have:=BR (f:=f) ks xs
  unfold BK bls at this ⊢
  rw[AAL,ABL,ABL,AAL,AAL,AAL,AAL,this]
def ig:DSp:=λds M R=>∃(n:Nat) (ps:List (Str×Int)) (rs:List (Str×List Str)) (r:List D) (d:D),ds=[.tup (.tup (ps.map aK)::.tup (rs.map bP)::r),d]/\Gdn M n d/\R (.bl (wB M ps rs d)) M
¶Bp:du ig jR:=by rintro ds M R ⟨n,ps,rs,r,d,rfl,_⟩;rfl
¶uL:FnScope Am jR (ak rG):=by @"sc"
def qj:DTS:=aU (dCB Gg (ab (dLC 2 [0] (dZip (ab (af 2) (ab (dSl (af 1) (dq (dC (.int 1))) bA) ao))) (iF 2 (bw (aH 0) (bw (aH 1) iG))) oV (dCB fv (ab (af 2) (ab (af 0) (ab (af 1) ao))))) ao))
def qk:DTS:=aR (dIf (az (dOp qNe (dCB jo (ab (af 1) ao)) (dOp bf (dCB jo (ab (af 2) ao)) (dC (.int 1))))) (aU (dC (.bl false))) aO) (qj)
def ql:DTS:=aR (db (HU aT (dOp qIx (af 1) (dC (.int 0)))) 2) (qk)
def qm:DTS:=aR (dIf (dOr (gi (az (dCB iq (ab (dOp qIx (af 1) (dC (.int 0))) (ab (dC (.ty "str")) ao))))) (az (dGIn true aT (dOp qIx (af 1) (dC (.int 0)))))) (aU (dC (.bl false))) aO) (ql)
def rj:DTS:=aR (dIf (dOr (gi (az (dCB iq (ab (af 1) (ab (dC (.ty "tuple")) ao))))) (az (dOp qEq (dCB jo (ab (af 1) ao)) (dC (.int 0))))) (aU (dC (.bl false))) aO) (qm)
include T C_is_part in
¶BA:cW P w K mg base 5 "is_act" Am rG rj:=λ_ _ _ _ _ _ _ hr =>
  ah (aP (pS (eS (bj (bm (av br T.b_isinstance aq (aa ac (aa (bq T.b_tuple bp) ad))))) (dZ (aE (bc hr) (av bJ T.b_len bL (aa ac ad)) ae)))) (al (am jr)) aB)
  (ah (aP (pS (eS (bj (bm (av br T.b_isinstance aq (aa (aX ac ae) (aa (bq T.b_str ko) ad))))) (dZ (Nf T.g_ACT_PARTS (aX ac ae))))) (al (am jr)) aB)
  (ah (aN uL.nd (Nn T.g_ACT_PARTS (aX ac ae)))
  (ah (aP (aE (pT hr) (av bJ T.b_len bL (aa ac ad)) (bO aF (av bJ T.b_len bL (aa ac ad)) ae)) (al (am jr)) aB)
  (al (am (av vQ T.b_all wz (aa (sv (N':=["part","told","house"]) (nt:=2) (js:=[0]) (Nh T.b_zip (aa ac (aa (bF ac (bt ae) (bT)) ad))) (λ_ _ _ _=>iL (bg (bv (show AB4 (["part","told","house"]:List Str) by decide +kernel)) (bg (bv (show AB4 (["part","told","house"]:List Str) by decide +kernel)) eT))) (λ_ _ _ _=>bZ) (λ_ _ _ _=>ar C_is_part hr (aa ac (aa ac (aa ac ad))))) ad)))))))
¶BU:WpT ig 3 rj:=by
 rintro ds M R ⟨n,ps,rs,r,d,rfl,g,h⟩
 simp only[rj]
 rcases iI M g with⟨xs,rfl⟩|⟨e1,e2⟩
 ·#⟨hl,m,rfl,gx⟩:=g.tup
  @"dl"
  !⟨by decide,?_⟩
  rw[show iw "tuple" "tuple" = true from rfl]
  @"ifs"
  !⟨⟨aw,aw⟩,?_⟩
  rw[bU]
  cases xs with
  | nil=>~bb (aG.now h)
  | cons a xs =>
   rw[show ((((a::xs).length:Nat):Int)==0)=false from beq_eq_false_iff_ne.mpr (by rw[AAA];&)]
   !bH ?_
   have ga:=gx a (by simp)
   simp only[qm]
   rcases zu M ga with⟨z,rfl⟩|⟨f1,f2⟩
   ·@"dl"
    !⟨by decide,?_⟩
    rw[show iw "str" "str" = true from rfl]
    @"ifs"
    rw[sW]
    cases hf:aT.find? (λp=>p.1==z) with
    | none =>
     rw[Ah hf]at h
     ~bb (aG.now h)
    | some p =>
     !bH ?_
     rw[ku hf]at h
     simp only[ql]
     @"dl"
     !⟨p,hf,?_⟩
     simp only[qk]
     @"dl"
     !⟨⟨aw,aw⟩,?_⟩
     have el:eqD M eqN (D.int ((xs.length+1:Nat):Int)) (D.int (((p.2.map D.str).length:Int)+1))=(xs.length==p.2.length):=by
      rw[bU,AA6,ABn,beq_iff_eq,beq_iff_eq];&
     simp only[el]
     cases hq:(xs.length==p.2.length) with
     | false =>
      rw[hq,AAw]at h
      ~bb (aG.now h)
     | true =>
      rw[hq,AAx]at h
      !bH ?_
      simp only[qj]
      @"dl"
      !⟨p.2.map D.str,xs,_,_,⟨rfl,rfl⟩,⟨zZ.symm,rfl⟩,?_⟩
      !cv (λd=>match d with | .tup [.str q,x]=>.bl (cc M ps rs q x) | _=>.bl false) (λS=>∃a b,S=[a,b,some (.tup (.tup (ps.map aK)::.tup (rs.map bP)::r))]) ⟨trivial,trivial⟩ _ _ _ (λy hy S hS=>?_) ⟨_,_,rfl⟩ ?_ ?_
      ·#⟨a,b,rfl⟩:=hS
       #⟨q,x,hx,rfl⟩:=IW hy
       !⟨[some (.str q),some x,some (.tup (.tup (ps.map aK)::.tup (rs.map bP)::r))],⟨_,_,rfl⟩,λY hY=>?_⟩
       @"dl"
       ~⟨trivial,m,ps,rs,r,q,x,rfl,gx x (AA9 _ hx),hY⟩
      ·rw[AAW]
       unfold BK
       rw[AA6,List.length_zip]
       rw[AAA]at hl
       ~aC ¤
      ·rw[AAr,BR]
       !⟨(p.2.zip xs).map λq=>cc M ps rs q.1 q.2,ax,?_⟩
       rw[ADU]
       ~aG.bl h rM
   ·@"dl"
    !⟨⟨ga.thing.1,by decide⟩,?_⟩
    simp only[tyD]at f1
    rw[f1]
    @"ifs"
    rw[Ai f2]at h
    ~aG.now h
 ·rw[Aj e2]at h
  @"dl"
  !⟨⟨g.thing.1,by decide⟩,?_⟩
  simp only[tyD]at e1
  rw[e1]
  @"ifs"
  ~aG.now h
include T C_is_part in
¶DB:Cal P w K mg base 6 "is_act" jR ig :=
 Cal.byH T.f_is_act uL Bp (BA T C_is_part) BU
variable(C_is_act:Cal P w K mg base 6 "is_act" jR ig)
def sT(M:Mem)(ps:List (Str×Int))(rs:List (Str×List Str)):D->Bool
 | .tup [a,b,c,e]=>cO ps (.tup [a,b])&&(aV 0 c&&wB M ps rs e)
 | _=>false
¶yA(d:D):(∃a b c e,d=.tup [a,b,c,e])\/(qV 4 d=false/\∀a b c e,d≠.tup [a,b,c,e]):=by
 cases d with
 | tup xs =>
  match xs with
  | []=>~.inr ⟨rfl,λ_ _ _ _ z=>by simp at z⟩
  | [_]=>~.inr ⟨rfl,λ_ _ _ _ z=>by simp at z⟩
  | [_,_]=>~.inr ⟨rfl,λ_ _ _ _ z=>by simp at z⟩
  | [_,_,_]=>~.inr ⟨rfl,λ_ _ _ _ z=>by simp at z⟩
  | [a,b,c,e]=>~.inl ⟨a,b,c,e,rfl⟩
  | _::_::_::_::_::_=>~.inr ⟨by simp[qV];&,λ_ _ _ _ z=>by simp at z⟩
 | _=>~.inr ⟨rfl,λ_ _ _ _ z=>by cases z⟩
¶my{M:Mem}{ps:List (Str×Int)}{rs:List (Str×List Str)}{d:D}(h:∀a b c e,d≠.tup [a,b,c,e]):sT M ps rs d=false:=by
 unfold sT
 split
 ·~absurd rfl (h _ _ _ _)
 ·rfl
¶ID{M:Mem}{m:Nat}{xs:List D}{a b:D}(g:Gdn M (m+1) (.tup xs))(ga:Gdn M m a)(gb:Gdn M m b):Gdn M (m+1) (.tup [a,b]) :=
 Gdn.mk (by simp) g.1 λx hx=>by
  simp only[AAH,AAf,or_false]at hx
  rcases hx with rfl | rfl
  ·~ga
  ·~gb
def fy:DSp:=λds M R=>∃(n:Nat) (ps:List (Str×Int)) (rs:List (Str×List Str)) (r:List D) (d:D),ds=[.tup (.tup (ps.map aK)::.tup (rs.map bP)::r),d]/\Gdn M n d/\R (.bl (sT M ps rs d)) M
¶yf:du fy gX:=by rintro ds M R ⟨n,ps,rs,r,d,rfl,_⟩;rfl
¶AR:FnScope wM gX (ak nH):=by @"sc"
def na:DTS:=aU (bV (dCB bh (ab (dC (.int 0)) (ab (dOp qIx (af 1) (dC (.int 2))) ao))) (dCB ig (ab (af 0) (ab (dOp qIx (af 1) (dC (.int 3))) ao))))
def nb:DTS:=aR (dIf (dOr (gi (az (dCB ba (ab (dC (.int 4)) (ab (af 1) ao))))) (gi (az (dCB bN (ab (af 0) (ab (dSl (af 1) bA (dq (dC (.int 2)))) ao)))))) (aU (dC (.bl false))) aO) (na)
include T C_is_whole_from C_is_tuple_of C_is_stamp C_is_act in
¶yM:cW P w K mg base 6 "is_deed" wM nH nb:=λ_ _ _ _ _ _ _ hr =>
  ah (aP (pS (eS (bj (bm (ar C_is_tuple_of hr (aa ae (aa ac ad))))) (dZ (bj (bm (ar C_is_stamp hr (aa ac (aa (bF ac (bT) (bt ae)) ad)))))))) (al (am jr)) aB)
  (al (am (cB (ar C_is_whole_from hr (aa ae (aa (aX ac ae) ad))) (da (ar C_is_act hr (aa ac (aa (aX ac ae) ad)))))))
¶Aw:WpT fy 2 nb:=by
 rintro ds M R ⟨n,ps,rs,r,d,rfl,g,h⟩
 simp only[nb]
 rcases yA d with⟨a,b,c,e,rfl⟩|⟨e1,e2⟩
 ·#⟨hl,m,rfl,gx⟩:=g.tup
  have ga:=gx a (by simp)
  have gb:=gx b (by simp)
  have gc:=gx c (by simp)
  have ge:=gx e (by simp)
  @"dl"
  !⟨4,_,rfl,g.thing.1,?_⟩
  rw[show qV 4 (.tup [a,b,c,e])=true from rfl]
  @"ifs"
  !⟨m+1,ps,_,_,rfl,ID g ga gb,?_⟩
  simp only[sT]at h
  simp only[show cutD [a,b,c,e] none (some 2)=[a,b]from rfl]
  cases es:cO ps (.tup [a,b]) with
  | false =>
   rw[es]at h
   @"ifs"
   ~aG.now h
  | true =>
   rw[es]at h
   @"ifs"
   simp only[na]
   @"dl"
   !⟨0,c,rfl,gc.thing.1,?_⟩
   cases ec:aV 0 c with
   | false =>
    rw[ec]at h
    @"ifs"
    ~aG.now h
   | true =>
    rw[ec]at h
    @"ifs"
    ~⟨m,ps,rs,r,e,rfl,ge,aG.now h⟩
 ·rw[my e2]at h
  simp only[aR,dIf,gi,dOr,az,dCB,ab,ao,dC,af,EE,dst,cQ,AAL,ACh,AC5,AAr,ABa,ABB,AAA,AAW,ACF,ABz,ACQ]
  !⟨4,d,rfl,g.thing.1,?_⟩
  rw[e1]
  @"dl"
  ~aG.now h
include T C_is_whole_from C_is_tuple_of C_is_stamp C_is_act in
¶Bg:Cal P w K mg base 7 "is_deed" gX fy :=
 Cal.byH T.f_is_deed AR yf (yM T C_is_whole_from C_is_tuple_of C_is_stamp C_is_act) Aw
variable(C_is_deed:Cal P w K mg base 7 "is_deed" gX fy)
def eF:DSp:=λds M R=>∃(a b:D) (r:List D),ds=[.tup (a::b::r)]/\R (.tup [a,b]) M
¶vG:du eF eW:=by rintro ds M R ⟨a,b,r,rfl,_⟩;rfl
¶xt:FnScope qJ eW (ak kL):=by @"sc"
def kD:DTS:=aU (gh (ab (dOp qIx (af 0) (dC (.int 0))) (ab (dOp qIx (af 0) (dC (.int 1))) ao)))
include T in
¶wc:cW P w K mg base 0 "stamp_of" qJ kL kD:=λ_ _ _ _ _ _ _ hr =>
  al (am (ck (aa (aX ac ae) (aa (aX ac ae) ad))))
¶wR:WpT eF 1 kD:=by
 rintro ds M R ⟨a,b,r,rfl,h⟩
 simp only[kD]
 @"dl"
 ~⟨aC ¤,aG.now h⟩
include T in
¶xN:Cal P w K mg base 1 "stamp_of" eW eF :=
 Cal.byH T.f_stamp_of xt vG (wc T) wR
variable(C_stamp_of:Cal P w K mg base 1 "stamp_of" eW eF)
def dg:DSp:=λds M R=>∃(t hd:D) (num:Int) (r:List D) (hs:List (D×Int)),ds=[.tup (t::hd::.int num::r),.tup (BL hs)]/\Hd hd/\(∀p∈hs,Hd p.1)/\hs.length<=1000/\R (.bl (gj hs hd num)) M
¶rZ:du dg dP:=by rintro ds M R ⟨t,hd,num,r,hs,rfl,_⟩;rfl
¶gH:FnScope pq dP (ak je):=by @"sc"
def jF:DTS:=aU (dC (.bl false))
def iS:DTS:=aR (yP (cN (af 1)) (iF 2 (bw (aH 2) (bw (aH 3) iG))) (dIf (az (dOp qEq (af 2) (dOp qIx (af 0) (dC (.int 1))))) (aU (dOp qLt (dOp qIx (af 0) (dC (.int 2))) (af 3))) aO)) (jF)
include T in
¶sM:cW P w K mg base 0 "is_within" pq je iS:=λ_ _ _ _ _ _ _ hr =>
  ah (hV (ca ac) (iL (bg (cH gH.nd) (bg (cH gH.nd) eT))) (al (aP (aE (bc hr) ac (aX ac ae)) (al (am (er sy (aX ac ae) ac))) aB)))
  (al (am jr))
¶tD:WpT dg 4 iS:=by
 rintro ds M R ⟨t,hd,num,r,hs,rfl,hh,hv,hl,h⟩
 simp only[iS]
 @"dl"
 !λ_=>?_
 !ki (λys S M'=>M'=M/\∃qs a b,ys=BL qs/\(∀p∈qs,Hd p.1)/\gj qs hd num=gj hs hd num/\S=[some (.tup (t::hd::.int num::r)),some (.tup (BL hs)),a,b]) ?_ ?_ _ _ _ ⟨rfl,hs,_,_,rfl,hv,rfl,rfl⟩
 ·rintro S M' ⟨rfl,qs,a,b,e,_,w,rfl⟩
  obtain rfl:qs=[]:=by
   cases qs with
   | nil=>rfl
   | cons q qs=>cases e
  rw[←w]at h
  !⟨trivial,?_⟩
  simp only[jF]
  @"dl"
  ~aG.now h
 ·rintro x xs S M' ⟨rfl,qs,a,b,e,hq,w,rfl⟩ G hG
  cases qs with
  | nil=>cases e
  | cons q qs =>
   have e':x=.tup [q.1,.int q.2]/\xs=BL qs:=by
    unfold BL at e ⊢
    rw[AAL]at e
    injection e with e1 e2
    ~⟨e1,e2⟩
   #⟨rfl,rfl⟩:=e'
   !⟨trivial,?_⟩
   have hq1:=hq q (by simp)
   @"dl"
   !⟨trivial,⟨Hm hq1,Hm hh⟩,?_⟩
   cases hb:eqD M' eqN q.1 hd with
   | true =>
    have e:=(EA (n:=29) hq1 hh).mp hb
    have ew:gj (q::qs) hd num=decide (num<q.2):=by
     unfold gj
     rw[AB7,decide_eq_true e]
    rw[←w,ew]at h
    ~bb (aG.now h)
   | false =>
    have e:q.1≠hd:=λz=>by
     have:=(EA (M:=M') (n:=29) hq1 hh).mpr z
     rw[show eqD M' (29+1) q.1 hd=eqD M' eqN q.1 hd from rfl,hb]at this
     cases this
    !bH (Fgt.now (hG _ _ ⟨rfl,qs,_,_,rfl,λp hp=>hq p (AA9 _ hp),?_,rfl⟩))
    rw[←w]
    unfold gj
    rw[AB7,decide_eq_false e]
include T in
¶vj:Cal P w K mg base 1 "is_within" dP dg :=
 Cal.byH T.f_is_within gH rZ (sM T) tD
variable(C_is_within:Cal P w K mg base 1 "is_within" dP dg)
def qH(ns:List Int)(k:Nat):Int:=ns.getD k 0
def dD:DSp:=λds M R=>∃(n:Nat) (ns:List Int) (k:Nat),ds=[.ref n,.int k]/\aA M n (ns.map D.int)/\R (.int (qH ns k)) M
¶yg:du dD gY:=by rintro ds M R ⟨n,ns,k,rfl,_⟩;rfl
¶AS:FnScope wN gY (ak nI):=by @"sc"
def np:DTS:=aU (dC (.int 0))
def nq:DTS:=aR (dIf (az (dOp qLt (af 1) (dCB jo (ab (af 0) ao)))) (aU (dOp qIx (af 0) (af 1))) aO) (np)
include T in
¶yN:cW P w K mg base 0 "_law_cell_at" wN nI nq:=λ_ _ _ _ _ _ _ hr =>
  ah (aP (aE sy ac (av bJ T.b_len bL (aa ac ad))) (al (am (aX ac ac))) aB)
  (al (am ae))
¶Ax:WpT dD 2 nq:=by
 rintro ds M R ⟨n,ns,k,rfl,hL,h⟩
 simp only[nq,np]
 @"dl"
 !⟨_,hL,?_⟩
 unfold qH at h
 by_cases hk:k<ns.length
 ·rw[decide_eq_true (by simpa using hk)]
  !bb ⟨_,hL,?_⟩
  rw[bG (v:=.int ns[k]) (by rw[AAU,AA7 hk];rfl)]
  rw[AAP,AA7 hk]at h
  ~aG.now h
 ·rw[decide_eq_false (by simpa using hk)]
  rw[AAP,ABV ¤]at h
  ~bH (aG.now h)
include T in
¶Bh:Cal P w K mg base 1 "_law_cell_at" gY dD :=
 Cal.byH T.f_cell_at AS yg (yN T) Ax
variable(C_cell_at:Cal P w K mg base 1 "_law_cell_at" gY dD)
def ay(c:Int):MO:=.lst [.int c]
def aD:DSp:=λds M R=>∃(n:Nat) (c m:Int),ds=[.ref n,.int m]/\M[n]?=some (ay c)/\0<m/\m<1000000000000000/\∀i c':Int,0<=i->i<m->R (.int i) (M.set n (ay c'))
¶GQ:du aD uW:=by rintro ds M R ⟨n,c,m,rfl,_⟩;rfl
¶set_set{M:Mem}{n:Nat}{a b:MO}:(M.set n a).set n b=M.set n b:=List.set_set ..
¶hZ{M:Mem}{n:Nat}{a b:MO}(h:M[n]?=some b):(M.set n a)[n]?=some a:=ABD (AA2.mp h).1
def WM(M:Mem)(n:Nat)(B:Mem):Prop:=∃c L,B=M.set n (ay c)++L
section
variable{M B C:Mem}{n:Nat}{c0:Int}
¶WM.drawn{c:Int}:WM M n (M.set n (ay c)):=⟨c,[],by simp⟩
¶WM.now(h:M[n]?=some (ay c0)):WM M n M:=⟨c0,[],by
 rw[ACa]
 !(List.ext_getElem? λi=>?_).symm
 by_cases e:n=i
 ·subst e;rw[hZ h,h]
 ·rw[AAt e]⟩
¶WM.get(w:WM M n B)(h:M[n]?=some (ay c0)):∃c,B[n]?=some (ay c):=by
 #⟨c,L,rfl⟩:=w
 have hl:=(AA2.mp h).1
 ~⟨c,by rw[AAJ (by rw[ABQ];~hl),hZ h]⟩
¶WM.set(w:WM M n B)(h:M[n]?=some (ay c0))(c:Int):WM M n (B.set n (ay c)):=by
 #⟨c',L,rfl⟩:=w
 have hl:=(AA2.mp h).1
 !⟨c,L,?_⟩
 rw[List.set_append_left _ _ (by rw[ABQ];~hl),set_set]
¶WM.app(w:WM M n B)(L:Mem):WM M n (B++L):=by
 #⟨c',L',rfl⟩:=w
 ~⟨c',L'++L,by rw[ABT]⟩
¶WM.trans(w:WM M n B)(h:M[n]?=some (ay c0))(v:WM B n C):WM M n C:=by
 #⟨c,L,rfl⟩:=v
 ~(w.set h c).app L
¶WM.len(w:WM M n B):M.length<=B.length:=by
 #⟨c,L,rfl⟩:=w
 rw[AA8,ABQ];&
¶WM.other(w:WM M n B){m:Nat}{x:MO}(hm:m≠n)(h:M[m]?=some x):B[m]?=some x:=by
 #⟨c,L,rfl⟩:=w
 rw[AAJ (by rw[ABQ];~(AA2.mp h).1),AAt (AAz hm)]
 ~h
end
¶CM:FnScope IS uW (ak CS):=by @"sc"
def ze:DTS:=aU (af 2)
def zf:DTS:=aR (dAsg (dOp rJ (dOp qIx (af 0) (dC (.int 0))) (af 1)) (HD (af 0) (dC (.int 0)))) (ze)
def Cg:DTS:=aR (db (dOp AT (dOp qIx (af 0) (dC (.int 0))) (af 1)) 2) (zf)
include T in
¶HK:cW P w K mg base 0 "_law_take" IS CS Cg:=λ_ _ _ _ _ _ _ hr =>
  ah (aN CM.nd (bO jY (aX ac ae) ac))
  (ah (Ng (bO oH (aX ac ae) ac) (Ni ac ae))
  (al (am ac)))
¶Ja:WpT aD 3 Cg:=by
 rintro ds M R ⟨n,c,m,rfl,hn,h0,h1,h⟩
 simp only[Cg,zf,ze]
 @"dl"
 !⟨_,.inl hn,?_⟩
 rw[at0]
 !⟨h0,_,.inl hn,?_⟩
 rw[at0]
 ~⟨⟨h0,¤⟩,_,0,hn,rfl,.inl (h _ _ (ADb _ ¤) (ACv _ h0))⟩
include T in
¶JT:Cal P w K mg base 1 "_law_take" uW aD :=
 Cal.byH T.f_take CM GQ (HK T) Ja
variable(C_take:Cal P w K mg base 1 "_law_take" uW aD)
def wC:DSp:=λds M R=>∃(c:Int) (k:Int),ds=[.int c,.int k]/\0<=k/\k<100000/\∀i:Int,R (.int i) M
¶Kh:du wC Du:=by rintro ds M R ⟨c,k,rfl,_⟩;rfl
¶CN:FnScope OA Du (ak Jq):=by @"sc"
def Cj:DTS:=aU (dOp AT (dOp bf (dOp bf (dOp nJ (af 2) (af 2)) (dOp nJ (dC (.int 69621)) (af 2))) (dC (.int 7))) (dC (.int 2147483629)))
def Ck:DTS:=aR (db (dOp AT (dOp bf (dOp bf (dOp bf (dOp nJ (af 2) (af 2)) (dOp nJ (dC (.int 48271)) (af 2))) (dC (.int 13))) (af 1)) (dC (.int 2147483647))) 2) (Cj)
def Jg:DTS:=aR (db (dOp AT (dOp bf (dOp bf (dOp AT (af 0) (dC (.int 2147483647))) (dOp nJ (dC (.int 7919)) (af 1))) (dC (.int 11))) (dC (.int 2147483647))) 2) (Ck)
include T in
¶KY:cW P w K mg base 0 "_law_mix" OA Jq Jg:=λ_ _ _ _ _ _ _ hr =>
  ah (aN CN.nd (bO jY (bO aF (bO aF (bO jY ac ae) (bO oG ae ac)) ae) ae))
  (ah (aN CN.nd (bO jY (bO aF (bO aF (bO aF (bO oG ac ac) (bO oG ae ac)) ae) ac) ae))
  (al (am (bO jY (bO aF (bO aF (bO oG ac ac) (bO oG ae ac)) ae) ae))))
¶LJ:WpT wC 3 Jg:=by
 rintro ds M R ⟨c,k,rfl,h0,h1,h⟩
 simp only[Jg,Ck,Cj]
 @"dl"
 have p:∀z:Int,0<=z % 2147483647/\z % 2147483647<2147483647:=λz=>⟨ADb _ (by decide),ACv _ (by decide)⟩
 !⟨by decide,.inl ⟨by decide,by decide⟩,by decide,?_⟩
 have pa:=p (c % 2147483647+7919*k+11)
 generalize (c % 2147483647+7919*k+11) % 2147483647=a at pa
 !⟨.inl ⟨¤,¤⟩,.inl ⟨by decide,by decide⟩,by decide,?_⟩
 have pb:=p (a*a+48271*a+13+k)
 generalize (a*a+48271*a+13+k) % 2147483647=b at pb
 ~⟨.inl ⟨¤,¤⟩,.inl ⟨by decide,by decide⟩,by decide,aG.now (h _)⟩
include T in
¶MN:Cal P w K mg base 1 "_law_mix" Du wC :=
 Cal.byH T.f_mix CN Kh (KY T) LJ
variable(C_mix:Cal P w K mg base 1 "_law_mix" Du wC)
def lh:DSp:=λds M R=>∃(c:Int) (k:Int),ds=[.int c,.int k]/\0<=k/\k<1000/\∀i:Int,R (.int i) M
¶GR:du lh uX:=by rintro ds M R ⟨c,k,rfl,_⟩;rfl
¶rB:FnScope IT uX (ak CT):=by @"sc"
def zg:DTS:=aU (af 2)
def zh:DTS:=aR (yP (eV (ab (dC (.int 8)) ao)) (aH 3) (db (dOp bf (dOp nJ (af 2) (dC (.int 2147483629))) (dCB wC (ab (af 0) (ab (dOp bf (dOp nJ (dC (.int 8)) (af 1)) (af 3)) ao)))) 2)) (zg)
def Ch:DTS:=aR (db (dC (.int 0)) 2) (zh)
include T C_mix in
¶HL:cW P w K mg base 1 "_law_rich" IT CT Ch:=λ_ _ _ _ _ _ _ hr =>
  ah (aN rB.nd ae)
  (ah (hV (ef T.b_range (aa ae ad)) (cH rB.nd) (al (aN rB.nd (bO aF (bO oG ac ae) (ar C_mix hr (aa ac (aa (bO aF (bO oG ae ac) ac) ad)))))))
  (al (am ac)))
¶Jb:WpT lh 4 Ch:=by
 rintro ds M R ⟨c,k,rfl,h0,h1,h⟩
 simp only[Ch,zh]
 @"dl"
 !⟨⟨by decide,by decide⟩,?_⟩
 !eL (λi S M'=>M'=M/\∃(f:Int) (a:Option D),S=[some (.int c),some (.int k),some (.int f),a]) ?_ ?_ ⟨rfl,_,_,rfl⟩
 ·rintro S M' ⟨rfl,f,a,rfl⟩
  !⟨trivial,?_⟩
  simp only[zg]
  @"dl"
  ~aG.now (h _)
 ·rintro i y S M' hy ⟨rfl,f,a,rfl⟩ G hG
  #⟨hi,rfl⟩:=jJ.mp hy
  have hi8:i<8:=hi
  !⟨trivial,?_⟩
  @"dl"
  ~⟨.inr ⟨by decide,by decide⟩,.inl ⟨by decide,by decide⟩,c,_,rfl,¤,¤,λz=>Fgt.now (hG _ _ ⟨rfl,_,_,rfl⟩)⟩
include T C_mix in
¶JU:Cal P w K mg base 2 "_law_rich" uX lh :=
 Cal.byH T.f_rich rB GR (HL T C_mix) Jb
variable(C_rich:Cal P w K mg base 2 "_law_rich" uX lh)
def pe:DSp:=λds M R=>∃(c:Int) (k:Int),ds=[.int c,.int k]/\0<=k/\k<1000/\∀i:Int,R (.ref M.length) (M++[ay i])
¶GP:du pe uV:=by rintro ds M R ⟨c,k,rfl,_⟩;rfl
¶Jp:FnScope IR uV (ak CQ):=by @"sc"
def zd:DTS:=aU (gf (ab (dCB lh (ab (dOp rJ (af 0) (dC (.int 2))) (ab (af 1) ao))) ao))
def Cf:DTS:=aR (dIf (az (dOp qEq (dOp AT (af 0) (dC (.int 2))) (dC (.int 0)))) (aU (gf (ab (dOp rJ (af 0) (dC (.int 2))) ao))) aO) (zd)
include T C_rich in
¶HJ:cW P w K mg base 2 "_law_well" IR CQ Cf:=λ_ _ _ _ _ _ _ hr =>
  ah (aP (aE (bc hr) (bO jY ac ae) ae) (al (am (cq (aa (bO oH ac ae) ad)))) aB)
  (al (am (cq (aa (ar C_rich hr (aa (bO oH ac ae) (aa ac ad))) ad))))
¶IZ:WpT pe 2 Cf:=by
 rintro ds M R ⟨c,k,rfl,h0,h1,h⟩
 simp only[Cf,zd]
 @"dl"
 !⟨by decide,⟨rfl,rfl⟩,?_⟩
 cases eqD M eqN (.int (c % 2)) (.int 0) with
 | true=>~bb ⟨⟨by decide,by decide⟩,aC ¤,.inl (h _)⟩
 | false=>~bH ⟨⟨by decide,by decide⟩,_,k,rfl,h0,h1,λz=>⟨aC ¤,.inl (h _)⟩⟩
include T C_rich in
¶JS:Cal P w K mg base 3 "_law_well" uV pe :=
 Cal.byH T.f_well Jp GP (HJ T C_rich) IZ
variable(C_well:Cal P w K mg base 3 "_law_well" uV pe)
def kw:DSp:=λds M R=>∃(p:Nat) (ns:List Int) (s m:Nat),ds=[.ref p,.int s,.int m]/\aA M p (ns.map D.int)/\ns.length<=100/\m<=100/\s<=10 /\
 ∀(ws:List Nat) (B:Mem),M <+: B->ws.length<=m->(∀w∈ws,M.length<=w/\∃c,B[w]?=some (ay c))->R (.ref B.length) (B++[.lst (ws.map .ref)])
¶Eb:du kw nT:=by rintro ds M R ⟨p,ns,s,m,rfl,_⟩;rfl
¶Hf{ns:List Int}{lo hi:Option Int}:∃l:List Int,cutD (ns.map D.int) lo hi=l.map D.int:=by
 unfold cutD
 rw[←List.map_drop,←List.map_take]
 ~⟨_,rfl⟩
¶HV{xs:List D}{s m:Nat}:(cutD xs (some ((s:Int)+1)) (some ((s:Int)+1+(m:Int)))).length<=m:=by
 unfold cutD
 rw[AAh,show ((s:Int)+1)=((s+1:Nat):Int) by &,show (((s+1:Nat):Int)+(m:Int))=((s+1+m:Nat):Int) by &,HT.sIx_nat,HT.sIx_nat]
 &
def Ly(M M':Mem)(acc:List D):Prop:=∃ws:List Nat,acc=ws.map .ref/\M <+: M'/\∀w∈ws,M.length<=w/\∃c,M'[w]?=some (ay c)
¶Ly.nil{M:Mem}:Ly M M []:=⟨[],rfl,AE4 _,λ_ z=>nomatch z⟩
¶Ly.more{M M':Mem}{acc:List D}{c:Int}(h:Ly M M' acc):Ly M (M'++[ay c]) (acc++[.ref M'.length]):=by
 #⟨ws,rfl,p,hw⟩:=h
 !⟨ws++[M'.length],by simp,p.trans rM,λw m=>?_⟩
 rcases AAk.mp m with m | m
 ·#⟨h1,c',h2⟩:=hw w m
  ~⟨h1,c',aW h2⟩
 ·rw[AAY.mp m]
  ~⟨p.length_le,c,bo⟩
¶zy:FnScope Fw nT (ak xz):=by @"sc"
def tX:DTS:=aU (dLC 1 [] (cN (dSl (af 0) (dq (dOp bf (af 1) (dC (.int 1)))) (dq (dOp bf (dOp bf (af 1) (dC (.int 1))) (af 2))))) (aH 0) oV (gf (ab (af 0) ao)))
def tY:DTS:=aR (dIf (az (dOp qEq (dOp AT (af 3) (dC (.int 2))) (dC (.int 1)))) (aU (dLC 1 [3] (eV (ab (dOp AT (dOp rJ (af 3) (dC (.int 2))) (dOp bf (af 2) (dC (.int 1)))) ao)) (aH 0) oV (gf (ab (dCB lh (ab (dOp rJ (af 1) (dC (.int 2))) (ab (af 0) ao))) ao)))) aO) (tX)
def wZ:DTS:=aR (db (dCB dD (ab (af 0) (ab (af 1) ao))) 3) (tY)
include T C_cell_at C_rich in
¶ES:cW P w K mg base 2 "_law_wells" Fw xz wZ:=λ_ _ _ _ _ _ _ hr =>
  ah (aN zy.nd (ar C_cell_at hr (aa ac (aa ac ad))))
  (ah (aP (aE (bc hr) (bO jY ac ae) ae) (al (am (sv (N':=["_law_k","_law_head"]) (nt:=1) (js:=[3]) (ef T.b_range (aa (bO jY (bO oH ac ae) (bO aF ac ae)) ad)) (λ_ _ _ _=>bv (show AB4 (["_law_k","_law_head"]:List Str) by decide +kernel)) (λ_ _ _ _=>bZ) (λ_ _ _ _=>cq (aa (ar C_rich hr (aa (bO oH ac ae) (aa ac ad))) ad))))) aB)
  (al (am (sv (N':=["_law_cell"]) (nt:=1) (js:=[]) (ca (bF ac (bt (bO aF ac ae)) (bt (bO aF (bO aF ac ae) ac)))) (λ_ _ _ _=>bv (show AB4 (["_law_cell"]:List Str) by decide +kernel)) (λ_ _ _ _=>bZ) (λ_ _ _ _=>cq (aa ac ad))))))
¶FM:WpT kw 4 wZ:=by
 rintro ds M R ⟨p,ns,s,m,rfl,hL,n100,m100,s10,h⟩
 simp only[wZ,tY]
 @"dl"
 !⟨p,ns,s,rfl,hL,by decide,⟨aw,aw⟩,?_⟩
 cases eqD M eqN (.int (qH ns s % 2)) (.int 1) with
 | true =>
  have e0:0<=qH ns s / 2 % ((m:Int)+1):=ADb _ ¤
  have e1:qH ns s / 2 % ((m:Int)+1)<(m:Int)+1:=ACv _ ¤
  !bb ⟨⟨by decide,by decide⟩,¤,⟨¤,¤⟩,?_⟩
  !eM (λxs acc S M'=>∃a,S=[a,some (.int (qH ns s))]/\Ly M M' acc/\acc.length+xs.length<=m/\∀x∈xs,∃i:Int,x=.int i/\0<=i/\i<1000) ?_ ?_ _ _ _ _ ⟨_,rfl,.nil,?_,?_⟩
  ·rintro acc S M' ⟨a,rfl,⟨ws,rfl,p,hw⟩,hl,_⟩
   ~⟨trivial,.inl (h ws M' p (by simpa using hl) hw)⟩
  ·rintro y xs acc S M' ⟨a,rfl,hw,hl,hx'⟩ K hK
   #⟨i,rfl,i0,i1⟩:=hx' y (by simp)
   !⟨trivial,?_⟩
   @"dl"
   rw[AAA]at hl
   !⟨⟨by decide,by decide⟩,_,i,rfl,i0,i1,λz=>⟨aC ¤,small1000 ¤,hK _ _ _ ⟨_,rfl,hw.more,?_,λx hx=>hx' x (AA9 _ hx)⟩⟩⟩
   rw[AA8,AAX];&
  ·rw[eJ,AAW];&
  ·intro x hx
   #⟨i,hi⟩:=AAv hx
   #⟨h1,rfl⟩:=jJ.mp hi
   ~⟨_,rfl,¤,¤⟩
 | false =>
  !bH ?_
  simp only[tX]
  @"dl"
  #⟨cs,hcs⟩:=Hf (ns:=ns) (lo:=some ((s:Int)+1)) (hi:=some ((s:Int)+1+(m:Int)))
  have cl:cs.length<=m:=by
   have:=HV (xs:=ns.map D.int) (s:=s) (m:=m)
   rw[hcs,AA6]at this
   ~this
  !⟨_,hL,?_⟩
  rw[hcs]
  !⟨_,ax,λ_=>?_⟩
  !eM (λxs acc S M'=>∃a,S=[a]/\Ly M M' acc/\aA M' M.length (cs.map D.int)/\acc.length+xs.length<=m/\∀x∈xs,∃i:Int,x=.int i) ?_ ?_ _ _ _ _ ⟨_,rfl,⟨[],rfl,rM,λ_ z=>nomatch z⟩,ax,?_,?_⟩
  ·rintro acc S M' ⟨a,rfl,⟨ws,rfl,p,hw⟩,l,hl,_⟩
   ~⟨l,.inl (h ws M' p (by simpa using hl) hw)⟩
  ·rintro y xs acc S M' ⟨a,rfl,hw,l,hl,hx⟩ K hK
   #⟨i,rfl⟩:=hx y (by simp)
   !⟨l,?_⟩
   @"dl"
   rw[AAA]at hl
   !⟨aC ¤,small1000 ¤,hK _ _ _ ⟨_,rfl,hw.more,l.more _,?_,λx hx'=>hx x (AA9 _ hx')⟩⟩
   rw[AA8,AAX];&
  ·rw[AA6,AAW];&
  ·intro x hx
   #⟨i,_,rfl⟩:=AAN.mp hx
   ~⟨i,rfl⟩
include T C_cell_at C_rich in
¶Gy:Cal P w K mg base 3 "_law_wells" nT kw :=
 Cal.byH T.f_wells zy Eb (ES T C_cell_at C_rich) FM
variable(C_wells:Cal P w K mg base 3 "_law_wells" nT kw)
def Small(x:Str):Prop:=∀c∈x.cps.toList,97<=c/\c<=122
def sY(x:Str):Prop:=1<=x.length/\x.length<=8/\Small x
def jx:DSp:=λds M R=>∃(n:Nat) (c:Int),ds=[.ref n]/\M[n]?=some (ay c)/\∀(x:Str) (B:Mem),sY x->WM M n B->R (.str x) B
¶GN:du jx uT:=by rintro ds M R ⟨n,c,rfl,_⟩;rfl
def one(c:Nat):Str:=⟨#[c]⟩
¶qr:∀cs:List Nat,(Str.join (AA1 "") (cs.map one)).cps.toList=cs
 | []=>by decide +kernel
 | [c]=>rfl
 | c::d::r=>by
  have ih:=qr (d::r)
  show ((one c++AA1 "")++Str.join (AA1 "") ((d::r).map one)).cps.toList=_
  rw[eD,eD,ih]
  rfl
¶jW(cs:List Nat):(Txt.join (AA1 "") (cs.map one)).cps.toList=cs:=by
 unfold Txt.join
 rw[StrLaws.glued_eq_join]
 ~qr cs
¶rz:∀cs:List Nat,((cs.map one).map (λx=>x.length)).sum=cs.length
 | []=>rfl
 | c::r=>by
  rw[AAL,AAL,List.sum_cons,rz r,AAA]
  show 1+r.length=r.length+1
  &
¶Ag{i:Int}(h0:0<=i)(h1:i<26):∃c:Nat,atI (AA1 "abcdefghijklmnopqrstuvwxyz").cps.toList i=some c/\97<=c/\c<=122:=by
 have hl:(AA1 "abcdefghijklmnopqrstuvwxyz").cps.toList=(AAe 26).map (· + 97):=by decide +kernel
 #⟨j,hj,e,ej⟩:=gg (xs:=(AA1 "abcdefghijklmnopqrstuvwxyz").cps.toList) h0 (by rw[hl];simpa using h1)
 have hm:=AAn hj
 !⟨_,e,?_⟩
 generalize (AA1 "abcdefghijklmnopqrstuvwxyz").cps.toList[j]=c at hm
 rw[hl]at hm
 #⟨k,hk,rfl⟩:=AAN.mp hm
 have:=AAo.mp hk
 &
¶CK:FnScope IN uT (ak CO):=by @"sc"
def yZ:DTS:=aU (dMs xI (dC (.str "")) (ab (dLC 1 [1,0] (eV (ab (dOp bf (dC (.int 1)) (dCB aD (ab (af 0) (ab (dC (.int 8)) ao)))) ao)) (aH 0) oV (dOp qIx (af 1) (dCB aD (ab (af 2) (ab (dC (.int 26)) ao))))) ao))
def Cd:DTS:=aR (db (dC (.str "abcdefghijklmnopqrstuvwxyz")) 1) (yZ)
include T C_take in
¶HF:cW P w K mg base 1 "_law_word" IN CO Cd:=λ_ _ _ _ _ _ _ hr =>
  ah (aN CK.nd aY)
  (al (am (k_ms yw aY (aa (sv (N':=["_law_k","_law_letters","_law_well_here"]) (nt:=1) (js:=[1,0]) (ef T.b_range (aa (bO aF ae (ar C_take hr (aa ac (aa ae ad)))) ad)) (λ_ _ _ _=>bv (show AB4 (["_law_k","_law_letters","_law_well_here"]:List Str) by decide +kernel)) (λ_ _ _ _=>bZ) (λ_ _ _ _=>aX ac (ar C_take hr (aa ac (aa ae ad))))) ad))))
¶IX:WpT jx 2 Cd:=by
 rintro ds M R ⟨n,c,rfl,hn,h⟩
 simp only[Cd,yZ]
 @"dl"
 !⟨n,c,8,rfl,hn,by decide,by decide,λi c' i0 i8=>⟨⟨¤,¤⟩,?_⟩⟩
 !eM (λxs acc S M'=>∃(cs:List Nat) (a:Option D),acc=(cs.map one).map .str/\(∀c∈cs,97<=c/\c<=122)/\cs.length+xs.length=(1+i).toNat/\WM M n M'/\S=[a,some (.str (AA1 "abcdefghijklmnopqrstuvwxyz")),some (.ref n)]) ?_ ?_ _ _ _ _ ⟨[],_,rfl,(λ_ z=>nomatch z),by rw[eJ];simp,WM.drawn,rfl⟩
 ·rintro acc S M' ⟨cs,a,rfl,hc,hl,wm,rfl⟩
  simp only[AAW,Nat.add_zero]at hl
  !⟨trivial,cs.map one,ax,?_,.inl (h _ _ ⟨?_,?_,?_⟩ (wm.app _))⟩
  ·rw[rz,AA6,show (AA1 "").length=0 by decide +kernel];&
  ·rw[aQ,jW];&
  ·rw[aQ,jW];&
  ·intro c hcm
   rw[jW]at hcm
   ~hc c hcm
 ·rintro y xs acc S M' ⟨cs,a,rfl,hc,hl,wm,rfl⟩ K hK
  !⟨trivial,?_⟩
  #⟨w,hw⟩:=wm.get hn
  @"dl"
  !⟨n,w,26,rfl,hw,by decide,by decide,λj c2 j0 j26=>⟨by decide +kernel,?_⟩⟩
  #⟨ch,ech,hch⟩:=Ag j0 j26
  rw[ech]
  rw[AAA]at hl
  !⟨by rw[AA6,AA6];~small1000 ¤,hK _ _ _ ⟨cs++[ch],_,by simp[one],λc hcm=>?_,by rw[AA8,AAX];&,wm.set hn _,rfl⟩⟩
  rcases AAk.mp hcm with hcm | hcm
  ·~hc c hcm
  ·rw[AAY.mp hcm];~hch
include T C_take in
¶JQ:Cal P w K mg base 2 "_law_word" uT jx :=
 Cal.byH T.f_word CK GN (HF T C_take) IX
variable(C_word:Cal P w K mg base 2 "_law_word" uT jx)
¶Hg(u:Option Int)(n:Nat):ABX none u 1 n=ABX (some ((0:Nat):Int)) u 1 n:=by
 unfold ABX
 simp only[show (1:Int) > 0 by decide,if_true]
 congr 1
¶Nr(l:Option Int)(n:Nat):ABX l none 1 n=ABX l (some ((n:Nat):Int)) 1 n:=by
 unfold ABX
 simp only[show (1:Int) > 0 by decide,if_true]
 congr 1
 rw[if_neg ¤]
 &
¶zw(x:Str)(b:Nat):(ABo x none (some (b:Int))).cps.toList=x.cps.toList.take b:=by
 have e:=uy x (a:=0) (b:=b) (AAT _)
 rw[fI]at e ⊢
 rw[Hg]
 rw[e];simp
¶AI(x:Str)(a:Nat)(h:a<=x.length):(ABo x (some (a:Int)) none).cps.toList=x.cps.toList.drop a:=by
 have e:=uy x (a:=a) (b:=x.length) h
 rw[fI]at e ⊢
 rw[Nr]
 rw[e]
 rw[ACH]
 rw[ABd,aQ];&
¶lM{x:Str}{l:List Nat}(e:x.cps.toList=l)(h1:1<=l.length)(h8:l.length<=8)(h:∀c∈l,97<=c/\c<=122):sY x:=by
 subst e
 !⟨by rw[aQ];~h1,by rw[aQ];~h8,h⟩
¶WM.hi{M B:Mem}{n q:Nat}{x:MO}(w:WM M n B)(h:M.length<=q):WM M n (B.set q x):=by
 #⟨c,L,rfl⟩:=w
 !⟨c,L.set (q-M.length) x,?_⟩
 rw[List.set_append_right _ _ (by rw[ABQ];~h),ABQ]
¶CW{M:Mem}{xs:List Str}(h:BN M (xs.map .str)):xs.Pairwise (λa b=>cr b a=false):=by
 unfold BN at h
 ~List.pairwise_map.mp h
def eO:DSp:=λds M R=>∃(n m:Nat) (c:Int),ds=[.ref n,.int m]/\1<=m/\m<=4/\M[n]?=some (ay c)/\∀(xs:List Str) (B:Mem),1<=xs.length->xs.length<=4->(∀x∈xs,sY x)->(xs.Nodup/\xs.Pairwise λa b=>cr b a=false)->WM M n B->R (.ref B.length) (B++[.lst (xs.map .str)])
¶Ea:du eO nS:=by rintro ds M R ⟨n,m,c,rfl,_⟩;rfl
structure WdOk(kvs:List (Str×D)):Prop where
 nd:(kvs.map (·.1)).Nodup
 ok:∀p∈kvs,sY p.1
¶eI:FnScope Fv nS (ak xy):=by @"sc"
def tP:DTS:=aU (dCB jL (ab (af 6) ao))
def tQ:DTS:=dIf (az (dOp qEq (af 3) (dC (.int 0)))) (BC (af 6) (dCB jx (ab (af 0) ao)) (dC (.bl true))) (dIf (Fb (az (dOp qEq (af 3) (dC (.int 1)))) (az (dOp qLt (dOp bf (dCB jo (ab (af 4) ao)) (af 7)) (dC (.int 9))))) (BC (af 6) (dOp bf (af 4) (dSl (dC (.str "abc")) bA (dq (af 7)))) (dC (.bl true))) (BC (af 6) (dOp bf (dOp bf (dSl (af 4) bA (dq (af 5))) (af 8)) (dSl (af 4) (dq (dOp bf (af 5) (dC (.int 1)))) bA)) (dC (.bl true))))
def tR:DTS:=aR (yP (lg (ab (dC (.int 1)) (ab (af 1) ao))) (aH 7) (aR (db (dOp qIx (af 2) (dOp AT (dOp bf (dMs nK (af 2) (ab (dOp qIx (af 4) (af 5)) ao)) (af 7)) (dC (.int 26)))) 8) (tQ))) (tP)
def tS:DTS:=aR (db (wj 4 true) 6) (tR)
def tU:DTS:=aR (db (dCB aD (ab (af 0) (ab (dCB jo (ab (af 4) ao)) ao))) 5) (tS)
def tV:DTS:=aR (db (dCB jx (ab (af 0) ao)) 4) (tU)
def tW:DTS:=aR (db (dCB aD (ab (af 0) (ab (dC (.int 3)) ao))) 3) (tV)
def wY:DTS:=aR (db (dC (.str "abcdefghijklmnopqrstuvwxyz")) 2) (tW)
include T C_take C_word in
¶ER:cW P w K mg base 2 "_law_words" Fv xy wY:=λ_ _ _ _ _ _ _ hr =>
  ah (aN eI.nd aY)
  (ah (aN eI.nd (ar C_take hr (aa ac (aa ae ad))))
  (ah (aN eI.nd (ar C_word hr (aa ac ad)))
  (ah (aN eI.nd (ar C_take hr (aa ac (aa (av bJ T.b_len bL (aa ac ad)) ad))))
  (ah (aN eI.nd (Kq (i:=4)))
  (ah (hV (vK T.b_range (aa ae (aa ac ad))) (cH eI.nd) (ah (aN eI.nd (aX ac (bO jY (bO aF (k_ms Hi ac (aa (aX ac ac) ad)) ac) ae)))
  (al (aP (aE (bc hr) ac ae) (al (yi hr ac (ar C_word hr (aa ac ad)) jr)) (al (aP (pS (qD (aE (bc hr) ac ae) (kT (aE sy (bO aF (av bJ T.b_len bL (aa ac ad)) ac) ae)))) (al (yi hr ac (bO aF ac (bF aY (bT) (bt ac))) jr)) (al (yi hr ac (bO aF (bO aF (bF ac (bT) (bt ac)) ac) (bF ac (bt (bO aF ac ae)) (bT))) jr))))))))
  (al (am (av (EB hr) T.b_sorted Fm (aa ac ad)))))))))
¶FL:WpT eO 9 wY:=by
 rintro ds M R ⟨n,m,c,rfl,m1,m4,hn,h⟩
 have nM:n<M.length:=(AA2.mp hn).1
 have hz:(AA1 "abcdefghijklmnopqrstuvwxyz").length<=sizeLine:=by decide +kernel
 simp only[wY,tW,tV,tU,tS]
 @"dl"
 !⟨n,c,3,rfl,hn,by decide,by decide,λway c1 w0 w3=>?_⟩
 !⟨n,c1,rfl,hZ hn,λbase B1 hbase wm1=>?_⟩
 #⟨b1,b8,bs⟩:=id hbase
 have wm1:WM M n B1:=WM.drawn.trans hn wm1
 #⟨c2,hc2⟩:=wm1.get hn
 !⟨aC ¤,n,c2,base.length,rfl,hc2,¤,¤,λat_ c3 a0 a1=>?_⟩
 have wm2:WM M n (B1.set n (ay c3)):=wm1.set hn _
 generalize B1.set n (ay c3)=B2 at wm2
 have q0:M.length<=B2.length:=wm2.len
 obtain⟨at',rfl⟩:∃k:Nat,at_=(k:Int):=⟨at_.toNat,¤⟩
 have ha:at' < base.length:=¤
 have hac:at' < base.cps.toList.length:=by rw[←aQ];~ha
 simp only[tR]
 @"dl"
 !⟨⟨¤,¤,¤,¤⟩,?_⟩
 generalize hq:B2.length=q at q0
 !eL (λi S M'=>∃(kvs:List (Str×D)) (a b:Option D),WdOk kvs/\1<=kvs.length/\kvs.length<=i+1/\WM M n M'/\M'[q]?=some (.dct kvs)/\S=[some (.ref n),some (.int m),some (.str (AA1 "abcdefghijklmnopqrstuvwxyz")),some (.int way),some (.str base),some (.int (at':Int)),some (.ref q),a,b]) ?_ ?_ ⟨[(base,.bl true)],_,_,⟨by simp,by simp[hbase]⟩,by simp,by simp,wm2.app _,by rw[←hq];simp,rfl⟩
 ·rintro S M' ⟨kvs,a,b,ok,k1,k4,wm,hk,rfl⟩
  rw[eJ]at k4
  !⟨trivial,?_⟩
  simp only[tP]
  @"dl"
  unfold jL
  !⟨(kvs.map (·.1)).map .str,.inr ⟨kvs,hk,by rw[AAi];rfl⟩,AF (by rw[AA6];&),λys hys hrise=>?_⟩
  #⟨xs,rfl,hxs⟩:=Dm hys
  have xl:xs.length=kvs.length:=by rw[hxs.length_eq,AA6]
  !.inl (h xs M' ¤ ¤ (λx hx=>?_) ⟨hxs.nodup_iff.mpr ok.nd,CW hrise⟩ wm)
  #⟨p,hp,rfl⟩:=AAN.mp (hxs.mem_iff.mp hx)
  ~ok.ok p hp
 ·rintro i y S M' hy ⟨kvs,a,b,ok,k1,k4,wm,hk,rfl⟩ G hG
  #⟨hi,rfl⟩:=jJ.mp hy
  have hi3:i<3:=¤
  !⟨trivial,?_⟩
  @"dl"
  have hch:=bs _ (AAn hac)
  have e1:atI base.cps.toList (at':Int)=some base.cps.toList[at']:=bG (AA7 hac)
  !⟨aC ¤,?_⟩
  rw[e1]
  generalize base.cps.toList[at']=ch at hch
  obtain⟨oi,orest,ho⟩:∃(i:Nat) (bn:List Nat),AC7 (AA1 "abcdefghijklmnopqrstuvwxyz") ⟨#[ch]⟩ 0 (AA1 "abcdefghijklmnopqrstuvwxyz").length 1=i::bn:=by
   have f:=StrLaws.found_one (AA1 "abcdefghijklmnopqrstuvwxyz") ch
   have hl:(AA1 "abcdefghijklmnopqrstuvwxyz").cps.toList=(AAe 26).map (· + 97):=by decide +kernel
   have hm:ch∈(AA1 "abcdefghijklmnopqrstuvwxyz").cps.toList:=by
    rw[hl]
    ~AAN.mpr ⟨ch-97,AAo.mpr ¤,¤⟩
   rw[decide_eq_true hm]at f
   cases e:AC7 (AA1 "abcdefghijklmnopqrstuvwxyz") ⟨#[ch]⟩ 0 (AA1 "abcdefghijklmnopqrstuvwxyz").length 1 with
   | nil=>rw[e]at f;cases f
   | cons i r=>~⟨i,r,rfl⟩
  !⟨oi,orest,ho,by decide,hz,?_⟩
  #⟨c4,e4,hc4⟩:=Ag (i:=((oi:Int)+(1+(i:Int))) % 26) (ADb _ (by decide)) (ACv _ (by decide))
  rw[e4]
  have put:∀(x:Str) (B:Mem) (a b:Option D),sY x->WM M n B->B[q]?=some (.dct kvs)->G [some (.ref n),some (.int m),some (.str (AA1 "abcdefghijklmnopqrstuvwxyz")),some (.int way),some (.str base),some (.int (at':Int)),some (.ref q),a,b] (B.set q (.dct (zI kvs x (.bl true)))):=λx B a b hx w hk=>by
   have pl:=Gh (kvs:=kvs) (k:=x) (d:=.bl true)
   ~hG _ _ ⟨zI kvs x (.bl true),a,b,⟨Df ok.nd,Gi ok.ok hx⟩,pl.2,¤,w.hi q0,ABD (AA2.mp hk).1,rfl⟩
  simp only[tQ]
  @"dl"
  !⟨⟨aw,aw⟩,?_⟩
  cases eqD M' eqN (.int way) (.int 0) with
  | true =>
   !bb ?_
   #⟨c5,hc5⟩:=wm.get hn
   !⟨n,c5,rfl,hc5,λx B hx w=>?_⟩
   have hkB:B[q]?=some (.dct kvs):=w.other ¤ hk
   ~⟨kvs,hkB,small1000 ¤,Fgt.now (put x B _ _ hx (wm.trans hn w) hkB)⟩
  | false =>
   !bH ⟨⟨aw,aw⟩,?_⟩
   have s1:(ABo base none (some (at':Int))).length<=8:=by have:=Txt.slice_le base none (some (at':Int));&
   have s2:(ABo base (some ((at':Int)+1)) none).length<=8:=by have:=Txt.slice_le base (some ((at':Int)+1)) none;&
   have hbl:=aQ (a:=base)
   have nm3:sY (ABo base none (some (at':Int))++⟨#[c4]⟩++ABo base (some ((at':Int)+1)) none):=by
    have e:(ABo base none (some (at':Int))++⟨#[c4]⟩++ABo base (some ((at':Int)+1)) none).cps.toList=base.cps.toList.take at'++[c4]++base.cps.toList.drop (at'+1):=by
     have e2:=AI base (at'+1) ¤
     rw[show ((at'+1:Nat):Int)=(at':Int)+1 by &]at e2
     rw[eD,eD,zw,e2]
    !lM e (by simp;&) (by rw[AA8,AA8,AAh,ABd,AAX];&) λc hc=>?_
    rcases AAk.mp hc with hc | hc
    ·rcases AAk.mp hc with hc | hc
     ·~bs c (AD9 hc)
     ·rw[AAY.mp hc];~hc4
    ·~bs c (AD8 hc)
   have third:base.length<=sizeLine/\(ABo base none (some (at':Int))).length+(⟨#[c4]⟩:Str).length<=sizeLine/\base.length<=sizeLine/\(ABo base none (some (at':Int))++⟨#[c4]⟩).length+(ABo base (some ((at':Int)+1)) none).length<=sizeLine /\
     ∃kvs,M'[q]?=some (MO.dct kvs)/\kvs.length<sizeLine/\Fgt (B2++[MO.dct [(base,D.bl true)]]) G [some (D.ref n),some (D.int m),some (D.str (AA1 "abcdefghijklmnopqrstuvwxyz")),some (D.int way),some (D.str base),some (D.int (at':Int)),some (D.ref q),some (D.int (1+(i:Int))),some (D.str ⟨#[c4]⟩)] (List.set M' q (MO.dct (zI kvs (ABo base none (some (at':Int))++⟨#[c4]⟩++ABo base (some ((at':Int)+1)) none) (D.bl true)))) :=
    ⟨aC ¤,by rw[Dx];~aC ¤,aC ¤,by rw[Lu,Dx];~aC ¤,kvs,hk,small1000 ¤,Fgt.now (put _ M' _ _ nm3 wm hk)⟩
   cases eqD M' eqN (.int way) (.int 1) with
   | false=>~bH third
   | true =>
    !bb ⟨aC ¤,?_⟩
    by_cases h9:(base.length:Int)+(1+(i:Int))<9
    ·rw[decide_eq_true h9]
     have e3:(ABo (AA1 "abc") none (some (1+(i:Int)))).cps.toList=(AA1 "abc").cps.toList.take (1+i):=by
      have:=zw (AA1 "abc") (1+i)
      rwa [show ((1+i:Nat):Int)=1+(i:Int) by &]at this
     have habc:(AA1 "abc").cps.toList=[97,98,99]:=by decide +kernel
     rw[habc]at e3
     have l3:(ABo (AA1 "abc") none (some (1+(i:Int)))).length=1+i:=by
      rw[aQ,e3,AAh];simp;&
     !bb ⟨by decide +kernel,aC ¤,kvs,hk,small1000 ¤,Fgt.now (put _ M' _ _ ?_ wm hk)⟩
     !lM (l:=base.cps.toList++[97,98,99].take (1+i)) (by rw[eD,e3]) (by rw[AA8];&) (by rw[AA8,AAh,←hbl];have:min (1+i) ([97,98,99]:List Nat).length<=1+i:=Nat.min_le_left ..;&) λc hc=>?_
     rcases AAk.mp hc with hc | hc
     ·~bs c hc
     ·have:=AD9 hc
      simp at this
      &
    ·rw[decide_eq_false h9]
     ~bH third
include T C_take C_word in
¶Gx:Cal P w K mg base 3 "_law_words" nS eO :=
 Cal.byH T.f_words eI Ea (ER T C_take C_word) FL
variable(C_words:Cal P w K mg base 3 "_law_words" nS eO)
structure HouseW(ps:List (Str×Int))(rs:List (Str×List Str)):Prop where
 nd:(ps.map (·.1)).Nodup
 len:1<=ps.length/\ps.length<=4
 many:∀p∈ps,1<=p.2/\p.2<=3
 nm:∀p∈ps,sY p.1
 up:(ps.map (·.1)).Pairwise λa b=>cr b a=false
 rl:1<=rs.length/\rs.length<=4
 rn:∀r∈rs,sY r.1
 rnd:(rs.map (·.1)).Nodup
 rup:(rs.map (·.1)).Pairwise λa b=>cr b a=false
 mem:∀r∈rs,r.2≠[]/\r.2.Sublist (ps.map (·.1))
def Iz(ps:List (Str×Int))(rs:List (Str×List Str)):D:=.tup [.tup (ps.map aK),.tup (rs.map bP)]
def kx:DSp:=λds M R=>∃(n:Nat) (c:Int),ds=[.ref n]/\M[n]?=some (ay c)/\∀ps rs B,HouseW ps rs->WM M n B->R (Iz ps rs) B
¶Ef:du kx nX:=by rintro ds M R ⟨n,c,rfl,_⟩;rfl
¶mt{M:Mem}{n:Nat}{xs:List D}(hL:aA M n xs)(ok:∀x∈xs,okD (M++[MO.lst []]) 29 x=true):(okD (M++[MO.lst []]) eqN (.ref n)=true/\okD (M++[MO.lst []]) eqN (.ref M.length)=true)/\eqD (M++[MO.lst []]) eqN (.ref n) (.ref M.length)=xs.isEmpty:=by
 have h1:aA (M++[MO.lst []]) n xs:=hL.more _
 have h2:aA (M++[MO.lst []]) M.length []:=ax
 !⟨⟨kP (n:=29) h1 ok,kP (n:=29) h2 λ_ z=>nomatch z⟩,?_⟩
 ~(sE (n:=29) h1 h2).trans EI
¶bI{M:Mem}{m n:Nat}{x:MO}{xs:List D}(h:m≠n)(l:aA M m xs):aA (M.set n x) m xs:=by
 rcases l with l | l | l
 ·~.inl (by rw[AAt (AAz h)];~l)
 ·~.inr (.inl (by rw[AAt (AAz h)];~l))
 ·~.inr (.inr (by rw[AAt (AAz h)];~l))
¶bK{M:Mem}{m n:Nat}{x y:MO}(h:m≠n)(l:M[m]?=some y):(M.set n x)[m]?=some y:=by rw[AAt (AAz h)];~l
¶oo{M:Mem}{m:Nat}{y:MO}(l:M[m]?=some y):m<M.length:=(AA2.mp l).1
¶LA(ps:List (Str×Int)):(ps.map aK).map (λd=>match d with | .tup (x::_)=>x | _=>.non)=(ps.map (·.1)).map .str:=by
 rw[AAi,AAi];rfl
¶cP{B:Mem}{q:Nat}{x a:MO}(h:B[q]?=some x):(B++[a])[q]?=some x:=by
 rw[AAJ (AA2.mp h).1];~h
¶fK:FnScope FA nX (ak xD):=by @"sc"
def uc:DTS:=aU (gh (ab (dCB iK (ab (af 1) ao)) (ab (dCB iK (ab (af 3) ao)) ao)))
def ng:DTS:=wg (dMl gL (af 3) (ab (gh (ab (af 4) (ab (dCB iK (ab (af 5) ao)) ao))) ao))
def ud:DTS:=aR (dIf (az (dOp qEq (af 5) (gf ao))) (db (gf (ab (dOp qIx (dOp qIx (af 1) (dCB aD (ab (af 0) (ab (dCB jo (ab (af 1) ao)) ao)))) (dC (.int 0))) ao)) 5) aO) (ng)
def ue:DTS:=aR (yP (cN (dCB eO (ab (af 0) (ab (dOp bf (dC (.int 1)) (dCB aD (ab (af 0) (ab (dC (.int 4)) ao)))) ao)))) (aH 4) (aR (qG 2 [0] (cN (af 1)) (iF 2 (bw (aH 0) (bw (aH 1) iG))) (az (dOp qGt (dCB aD (ab (af 2) (ab (dC (.int 4)) ao))) (dC (.int 0)))) (af 0) 5) (ud))) (uc)
def nh:DTS:=aR (db (gf ao) 3) (ue)
def uf:DTS:=aR (yP (cN (dCB eO (ab (af 0) (ab (dOp bf (dC (.int 1)) (dCB aD (ab (af 0) (ab (dC (.int 4)) ao)))) ao)))) (aH 2) (wg (dMl gL (af 1) (ab (gh (ab (af 2) (ab (dOp bf (dC (.int 1)) (dCB aD (ab (af 0) (ab (dC (.int 3)) ao)))) ao))) ao)))) (nh)
def xh:DTS:=aR (db (gf ao) 1) (uf)
include T C_take C_words in
¶EW:cW P w K mg base 3 "_law_house" FA xD xh:=λ_ _ _ _ _ _ _ hr =>
  ah (aN fK.nd (cq ad))
  (ah (hV (ca (ar C_words hr (aa ac (aa (bO aF ae (ar C_take hr (aa ac (aa ae ad)))) ad)))) (cH fK.nd) (al (oA (LB jZ ac (aa (ck (aa ac (aa (bO aF ae (ar C_take hr (aa ac (aa ae ad)))) ad))) ad)))))
  (ah (aN fK.nd (cq ad))
  (ah (hV (ca (ar C_words hr (aa ac (aa (bO aF ae (ar C_take hr (aa ac (aa ae ad)))) ad)))) (cH fK.nd) (ah (su fK.nd (N':=["_law_name","_law_many","_law_well_here"]) (nt:=2) (js:=[0]) (ca ac) (λ_ _ _ _=>iL (bg (bv (show AB4 (["_law_name","_law_many","_law_well_here"]:List Str) by decide +kernel)) (bg (bv (show AB4 (["_law_name","_law_many","_law_well_here"]:List Str) by decide +kernel)) eT))) (λ_ _ _ _=>oz (aE vP (ar C_take hr (aa ac (aa ae ad))) ae)) (λ_ _ _ _=>ac))
  (ah (aP (aE (bc hr) ac (cq ad)) (al (aN fK.nd (cq (aa (aX (aX ac (ar C_take hr (aa ac (aa (av bJ T.b_len bL (aa ac ad)) ad)))) ae) ad)))) aB)
  (al (oA (LB jZ ac (aa (ck (aa ac (aa (eK iA T.b_tuple bp (aa ac ad)) ad))) ad)))))))
  (al (am (ck (aa (eK iA T.b_tuple bp (aa ac ad)) (aa (eK iA T.b_tuple bp (aa ac ad)) ad))))))))
¶yu{M M':Mem}{R:DK}{n:Nat}{c:Int}{xs:List Str}{ps:List (Str×Int)}{a:Option D}(hn:M[n]?=some (ay c))(h:∀ps rs B,HouseW ps rs->WM M n B->R (Iz ps rs) B)(wm:WM M n M')(gp:M'[M.length]?=some (.lst (ps.map aK)))(hps:ps.map (·.1)=xs)(hmany:∀p∈ps,1<=p.2/\p.2<=3)(x1:1<=xs.length)(x4:xs.length<=4)(xn:∀x∈xs,sY x)(xnd:xs.Nodup)(xup:xs.Pairwise λa b=>cr b a=false) :
  nh (EE M R) [some (.ref n),some (.ref M.length),a,none,none,none] M':=by
 have nM:n<M.length:=(AA2.mp hn).1
 have pl:ps.length=xs.length:=by rw[←hps,AA6]
 have mq:=oo gp
 simp only[nh,ue]
 @"dl"
 #⟨c1,hc1⟩:=(wm.app [MO.lst []]).get hn
 !⟨AAT _,n,c1,4,rfl,hc1,by decide,by decide,λi c2 i0 i4=>?_⟩
 obtain⟨m,hm⟩:∃k:Nat,(k:Int)=1+i:=⟨(1+i).toNat,¤⟩
 have wm0:WM M n ((M'++[MO.lst []]).set n (ay c2)):=(wm.app _).set hn _
 have gr0:((M'++[MO.lst []]).set n (ay c2))[M'.length]?=some (.lst []):=bK ¤ bo
 have gp0:((M'++[MO.lst []]).set n (ay c2))[M.length]?=some (.lst (ps.map aK)):=bK ¤ (cP gp)
 generalize (M'++[MO.lst []]).set n (ay c2)=B0 at wm0 gr0 gp0
 generalize M'.length=rq at gr0 mq
 #⟨c3,hc3⟩:=wm0.get hn
 show eO [D.ref n,D.int (1+i)] B0 _
 rw[←hm]
 !⟨n,m,c3,rfl,¤,¤,hc3,λys B1 y1 y4 yn ⟨ynd,yup⟩ w1=>?_⟩
 have wm1:WM M n (B1++[.lst (ys.map .str)]):=(wm0.trans hn w1).app _
 have gr1:(B1++[.lst (ys.map .str)])[rq]?=some (.lst []):=cP (w1.other ¤ gr0)
 have gp1:(B1++[.lst (ys.map .str)])[M.length]?=some (.lst (ps.map aK)):=cP (w1.other ¤ gp0)
 have ly1:aA (B1++[.lst (ys.map .str)]) B1.length (ys.map .str):=ax
 have wl:rq<B1.length:=oo (w1.other ¤ gr0)
 generalize B1++[MO.lst (ys.map .str)]=C1 at wm1 gr1 gp1 ly1
 generalize B1.length=wq at ly1 wl
 !⟨_,ly1,λ_=>?_⟩
 !eL (λi S M'=>∃(rs:List (Str×List Str)) (a b d:Option D),rs.map (·.1)=ys.take i/\(∀r∈rs,r.2≠[]/\r.2.Sublist xs)/\WM M n M'/\M'[M.length]?=some (.lst (ps.map aK))/\M'[rq]?=some (.lst (rs.map bP))/\aA M' wq (ys.map .str)/\S=[some (.ref n),some (.ref M.length),a,some (.ref rq),b,d]) ?_ ?_ ⟨[],_,_,_,rfl,(λ_ z=>nomatch z),wm1,gp1,gr1,ly1,rfl⟩
 ·rintro S M2 ⟨rs,a,b,d,hrs,hmem,wm,gp,gr,ly,rfl⟩
  rw[AA6,AC3]at hrs
  have rl:rs.length=ys.length:=by rw[←hrs,AA6]
  !⟨ly,?_⟩
  simp only[uc]
  @"dl"
  !⟨_,.inl gp,_,.inl gr,aC ¤,.inl (h ps rs M2 ⟨by rw[hps];~xnd,¤,hmany,λp hp=>xn _ (by rw[←hps];~ACn hp),by rw[hps];~xup,¤,λr hr=>yn _ (by rw[←hrs];~ACn hr),by rw[hrs];~ynd,by rw[hrs];~yup,λr hr=>by rw[hps];~hmem r hr⟩ wm)⟩
 ·rintro i y S M2 hy ⟨rs,a,b,d,hrs,hmem,wm,gp,gr,ly,rfl⟩ G hG
  rw[AAU]at hy
  #⟨x,hx,rfl⟩:=ABp.mp hy
  !⟨ly,?_⟩
  have hil:i<ys.length:=(AA2.mp hx).1
  have rl:rs.length=i:=by
   have:=congrArg ACy hrs
   rw[AA6,AAh]at this
   &
  have fin:∀(E:DEnds) (B:Mem) (k:Nat) (ms:List Str) (a:Option D),E.nx=Fgt C1 G->ms≠[]->ms.Sublist xs->WM M n B->B[M.length]?=some (.lst (ps.map aK))->B[rq]?=some (.lst (rs.map bP))->aA B wq (ys.map .str)->aA B k (ms.map .str) ->
    ng E [some (.ref n),some (.ref M.length),a,some (.ref rq),some (.str x),some (.ref k)] B:=λE B k ms a hE m0 ms1 wm gp gr ly lm=>by
   simp only[ng]
   @"dl"
   !⟨⟨_,.inl gr⟩,_,lm,aC ¤,_,gr,by rw[AA6];~small1000 ¤,?_⟩
   rw[hE]
   !Fgt.now (hG _ _ ⟨rs++[(x,ms)],_,_,_,?_,λr hr=>?_,wm.hi ¤,bK ¤ gp,?_,bI ¤ ly,rfl⟩)
   ·rw[ABR,hrs,ABl,hx];rfl
   ·rcases AAk.mp hr with hr | hr
    ·~hmem r hr
    ·rw[AAY.mp hr];~⟨m0,ms1⟩
   ·rw[hZ gr]
    simp[bP]
  @"dl"
  !⟨_,.inl gp,λ_=>?_⟩
  !eM (λzs acc S M3=>∃(j:Nat) (ms:List Str) (a b:Option D),zs=(ps.map aK).drop j/\acc=ms.map .str/\ms.Sublist (xs.take j)/\WM M n M3/\M3[M.length]?=some (.lst (ps.map aK))/\M3[rq]?=some (.lst (rs.map bP))/\aA M3 wq (ys.map .str)/\S=[a,b,some (.ref n)]) ?_ ?_ _ _ _ _ ⟨0,[],_,_,rfl,rfl,List.nil_sublist _,wm,gp,gr,ly,rfl⟩
  ·rintro acc S M3 ⟨j,ms,a,b,_,rfl,hsub0,wm,gp,gr,ly,rfl⟩
   have hsub:ms.Sublist xs:=hsub0.trans (ADl _ _)
   !⟨.inl gp,?_⟩
   have l4:aA (M3++[MO.lst (ms.map .str)]) M3.length (ms.map .str):=ax
   have gp4:=cP (a:=MO.lst (ms.map .str)) gp
   have gr4:=cP (a:=MO.lst (ms.map .str)) gr
   have ly4:=ly.more [MO.lst (ms.map .str)]
   have wm4:=wm.app [MO.lst (ms.map .str)]
   generalize M3++[MO.lst (ms.map .str)]=M4 at l4 gp4 gr4 ly4 wm4
   generalize M3.length=k at l4
   simp only[ud]
   @"dl"
   #⟨okk,enil⟩:=mt (M:=M4) l4 λy hy=>by #⟨z,_,rfl⟩:=AAN.mp hy;~aM
   !⟨AAT _,okk,?_⟩
   rw[enil]
   cases hms:(ms.map D.str).isEmpty with
   | false =>
    !bH (fin _ _ k ms _ rfl (λz=>by rw[z]at hms;cases hms) hsub (wm4.app _) (cP gp4) (cP gr4) (ly4.more _) (l4.more _))
   | true =>
    !bb ?_
    #⟨c5,hc5⟩:=(wm4.app [MO.lst []]).get hn
    !⟨_,.inl (cP gp4),n,c5,_,rfl,hc5,by rw[AA6];&,by rw[AA6];&,λv c6 v0 v1=>⟨_,.inl (bK ¤ (cP gp4)),?_⟩⟩
    #⟨j,hj,ej,_⟩:=gg (xs:=ps.map aK) v0 v1
    rw[ej,ACN]
    rw[AA6]at hj
    simp only[aK]
    @"dl"
    have hxm:(ps[j]).1∈xs:=by rw[←hps];~ACn (AAn hj)
    !⟨aC ¤,?_⟩
    !fin _ _ _ [(ps[j]).1] _ rfl (by simp) (List.singleton_sublist.mpr hxm) (((wm4.app _).set hn _).app _) (cP (bK ¤ (cP gp4))) (cP (bK ¤ (cP gr4))) ((bI ¤ (ly4.more _)).more _) ax
  ·rintro y zs acc S M3 ⟨j,ms,a,b,hz,rfl,hsub,wm,gp,gr,ly,rfl⟩ K hK
   have hj:j<(ps.map aK).length:=by
    !AB5 λz=>?_
    rw[ADi ¤]at hz
    cases hz
   rw[List.drop_eq_getElem_cons hj]at hz
   injection hz with e1 e2
   subst e1
   !⟨.inl gp,?_⟩
   rw[ACN]
   have hj2:j<ps.length:=by rw[AA6]at hj;~hj
   have hjx:j<xs.length:=¤
   have ex:(ps[j]).1=xs[j]:=by
    have e:(ps.map (·.1))[j]?=xs[j]?:=by rw[hps]
    rw[AAU,AA7 hj2,AA7 hjx]at e
    ~AAR e
   simp only[aK]
   #⟨c5,hc5⟩:=wm.get hn
   @"dl"
   !⟨trivial,n,c5,4,rfl,hc5,by decide,by decide,λv c6 v0 v4=>?_⟩
   have ml:=hsub.length_le
   rw[AAh]at ml
   dsimp only
   by_cases hv:0<v
   ·rw[decide_eq_true hv]
    !bb ⟨by rw[AA6];~small1000 ¤,hK _ _ _ ⟨j+1,ms++[(ps[j]).1],_,_,e2,by simp,?_,wm.set hn _,bK ¤ gp,bK ¤ gr,bI ¤ ly,rfl⟩⟩
    rw[ex,ABl,AA7 hjx]
    ~hsub.append (List.Sublist.refl _)
   ·rw[decide_eq_false hv]
    !bH (hK _ _ _ ⟨j+1,ms,_,_,e2,rfl,?_,wm.set hn _,bK ¤ gp,bK ¤ gr,bI ¤ ly,rfl⟩)
    rw[ABl]
    ~hsub.trans (List.sublist_append_left _ _)
¶FQ:WpT kx 6 xh:=by
 rintro ds M R ⟨n,c,rfl,hn,h⟩
 have nM:n<M.length:=(AA2.mp hn).1
 simp only[xh,uf]
 @"dl"
 have hn1:(M++[MO.lst []])[n]?=some (ay c):=by rw[AAJ nM];~hn
 have wmA:WM M n (M++[MO.lst []]):=(WM.now hn).app _
 !⟨AAT _,n,c,4,rfl,hn1,by decide,by decide,λi c1 i0 i4=>?_⟩
 obtain⟨m,hm⟩:∃k:Nat,(k:Int)=1+i:=⟨(1+i).toNat,¤⟩
 have wm0:WM M n ((M++[MO.lst []]).set n (ay c1)):=wmA.set hn _
 have g0:((M++[MO.lst []]).set n (ay c1))[M.length]?=some (.lst []):=bK ¤ bo
 generalize (M++[MO.lst []]).set n (ay c1)=B0 at wm0 g0
 #⟨c2,hc2⟩:=wm0.get hn
 show eO [D.ref n,D.int (1+i)] B0 _
 rw[←hm]
 !⟨n,m,c2,rfl,¤,¤,hc2,λxs B1 x1 x4 xn ⟨xnd,xup⟩ w1=>?_⟩
 have wm1:WM M n (B1++[.lst (xs.map .str)]):=(wm0.trans hn w1).app _
 have g1:(B1++[.lst (xs.map .str)])[M.length]?=some (.lst []):=cP (w1.other ¤ g0)
 have l1:aA (B1++[.lst (xs.map .str)]) B1.length (xs.map .str):=ax
 have wl:M.length<B1.length:=oo (w1.other ¤ g0)
 generalize B1++[MO.lst (xs.map .str)]=C1 at wm1 g1 l1
 generalize B1.length=wq at l1 wl
 !⟨_,l1,λ_=>?_⟩
 !eL (λi S M'=>∃(ps:List (Str×Int)) (a:Option D),ps.map (·.1)=xs.take i/\(∀p∈ps,1<=p.2/\p.2<=3)/\WM M n M'/\M'[M.length]?=some (.lst (ps.map aK))/\aA M' wq (xs.map .str)/\S=[some (.ref n),some (.ref M.length),a,none,none,none]) ?_ ?_ ⟨[],_,rfl,(λ_ z=>nomatch z),wm1,g1,l1,rfl⟩
 ·rintro S M' ⟨ps,a,hps,hmany,wm,gp,lx,rfl⟩
  rw[AA6,AC3]at hps
  !⟨lx,?_⟩
  ~yu hn h wm gp hps hmany x1 x4 xn xnd xup
 ·rintro i y S M' hy ⟨ps,a,hps,hmany,wm,gp,lx,rfl⟩ G hG
  rw[AAU]at hy
  #⟨x,hx,rfl⟩:=ABp.mp hy
  !⟨lx,?_⟩
  #⟨c3,hc3⟩:=wm.get hn
  @"dl"
  !⟨⟨_,.inl gp⟩,n,c3,3,rfl,hc3,by decide,by decide,λv c4 v0 v3=>⟨aC ¤,_,bK ¤ gp,?_,?_⟩⟩
  ·have:=congrArg ACy hps
   rw[AA6,AAh]at this
   rw[AA6];~small1000 ¤
  ·!Fgt.now (hG _ _ ⟨ps++[(x,1+v)],_,?_,λp hp=>?_,(wm.set hn _).hi (AAC _),?_,bI ¤ (bI ¤ lx),rfl⟩)
   ·rw[ABR,hps,ABl,hx];rfl
   ·rcases AAk.mp hp with hp | hp
    ·~hmany p hp
    ·rw[AAY.mp hp];dsimp only;&
   ·rw[hZ (bK ¤ gp)]
    simp[aK]
include T C_take C_words in
¶GB:Cal P w K mg base 4 "_law_house" nX kx :=
 Cal.byH T.f_house fK Ef (EW T C_take C_words) FQ
variable(C_house:Cal P w K mg base 4 "_law_house" nX kx)
def eA(p:Str×Int):List D:=(tj 0 p.2.toNat).map λk=>.tup [.str p.1,k]
def aI(ps:List (Str×Int)):List D:=ps.flatMap eA
def Few(ps:List (Str×Int)):Prop:=ps.length<=4/\∀p∈ps,0<=p.2/\p.2<=3
def iE:DSp:=λds M R=>∃(ps:List (Str×Int)) (r:List D),ds=[.tup (.tup (ps.map aK)::r)]/\Few ps/\R (.ref M.length) (M++[.lst (aI ps)])
¶Eg:du iE nY:=by rintro ds M R ⟨ps,r,rfl,_⟩;rfl
¶jt{p:Str×Int}:(eA p).length=p.2.toNat:=by simp[eA,tj]
¶dz{ps:List (Str×Int)}(h:∀p∈ps,0<=p.2/\p.2<=3):(aI ps).length<=3*ps.length:=by
 induction ps with
 | nil=>simp[aI]
 | cons p ps ih =>
  have:=ih λq hq=>h q (AA9 _ hq)
  have h1:=h p AAI
  have e:(aI (p::ps)).length=p.2.toNat+(aI ps).length:=by
   rw[aI,List.flatMap_cons,AA8,jt];rfl
  rw[e,AAA]
  &
¶Bw{k:Nat}{ps:List (Str×Int)}:Bels k (aI ps):=Bels.of λd hd=>by
 unfold aI at hd
 #⟨p,_,hp⟩:=List.mem_flatMap.mp hd
 unfold eA tj at hp
 simp only[AAi,AAN]at hp
 #⟨i,_,rfl⟩:=hp
 ~.tup (.cons (.str _) (.cons (.int _) .nil))
¶zW{ps:List (Str×Int)}{d:D}(h:d∈aI ps):∃p∈ps,∃k:Nat,d=.tup [.str p.1,.int (k:Int)]/\k<p.2.toNat:=by
 unfold aI at h
 #⟨p,hp,hd⟩:=List.mem_flatMap.mp h
 unfold eA at hd
 #⟨q,hq,rfl⟩:=AAN.mp hd
 #⟨i,hi⟩:=AAv hq
 #⟨h1,rfl⟩:=jJ.mp hi
 ~⟨p,hp,i,by rw[Int.zero_add],h1⟩
¶mn:FnScope FB nY (ak xE):=by @"sc"
def ug:DTS:=aU (af 1)
def uh:DTS:=aR (yP (cN (dOp qIx (af 0) (dC (.int 0)))) (iF 2 (bw (aH 2) (bw (aH 3) iG))) (wg (dMl nN (af 1) (ab (dLC 1 [2] (eV (ab (af 3) ao)) (aH 0) oV (gh (ab (af 1) (ab (af 0) ao)))) ao)))) (ug)
def xi:DTS:=aR (db (gf ao) 1) (uh)
include T in
¶EX:cW P w K mg base 0 "_law_hands" FB xE xi:=λ_ _ _ _ _ _ _ hr =>
  ah (aN mn.nd (cq ad))
  (ah (hV (ca (aX ac ae)) (iL (bg (cH mn.nd) (bg (cH mn.nd) eT))) (al (oA (LB Ex ac (aa (sv (N':=["_law_k","_law_name"]) (nt:=1) (js:=[2]) (ef T.b_range (aa ac ad)) (λ_ _ _ _=>bv (show AB4 (["_law_k","_law_name"]:List Str) by decide +kernel)) (λ_ _ _ _=>bZ) (λ_ _ _ _=>ck (aa ac (aa ac ad)))) ad)))))
  (al (am ac)))
¶FR:WpT iE 4 xi:=by
 rintro ds M R ⟨ps,r,rfl,⟨h4,h3⟩,h⟩
 simp only[xi,uh]
 @"dl"
 !⟨AAT _,λ_=>?_⟩
 have hb:∀qs:List (Str×Int),(∀p∈qs,p∈ps)->qs.length<=4->(aI qs).length<=12:=λqs h1 h2=>by
  have:=dz (ps:=qs) λp hp=>h3 p (h1 p hp)
  &
 !ki (λys S M'=>∃qs rs a b L,ps=qs++rs/\ys=rs.map aK/\M'=M++(.lst (aI qs)::L)/\S=[some (.tup (.tup (ps.map aK)::r)),some (.ref M.length),a,b]) ?_ ?_ _ _ _ ⟨[],ps,_,_,[],rfl,rfl,rfl,rfl⟩
 ·rintro S M' ⟨qs,rs,a,b,L,e,hq,rfl,rfl⟩
  have:rs=[]:=by cases rs<;>simp_all
  subst this
  rw[ACa]at e
  subst e
  !⟨trivial,?_⟩
  simp only[ug]
  @"dl"
  ~aG.lst h (AAC _) (by simp) Bw
 ·rintro x xs S M' ⟨qs,rs,a,b,L,e,hq,rfl,rfl⟩ G hG
  cases rs with
  | nil=>cases hq
  | cons p rs =>
   rw[AAL]at hq
   injection hq with e1 e2
   subst e1
   have hp:=h3 p (by rw[e];simp)
   !⟨trivial,?_⟩
   unfold aK
   @"dl"
   !⟨trivial,⟨aI qs,.inl (by simp)⟩,⟨¤,¤⟩,?_⟩
   !cv (λk=>.tup [.str p.1,k]) (λS=>∃a,S=[a,some (.str p.1)]) trivial _ _ _ (λk hk S hS=>?_) ⟨_,rfl⟩ ?_ ?_
   ·#⟨a,rfl⟩:=hS
    !⟨[some k,some (.str p.1)],⟨_,rfl⟩,λY hY=>?_⟩
    @"dl"
    ~⟨aC ¤,hY⟩
   ·simp only[AAW,eJ]
    ~aC ¤
   ·have l0:ps.length=qs.length+(rs.length+1):=by rw[e];simp
    have l1:=hb qs (λq hq=>by rw[e];simp[hq]) ¤
    !⟨aI qs,eA p,by simp,by simp[eA],by simp,?_,?_⟩
    ·rw[jt];~aC ¤
    ·!Fgt.now (hG _ _ ⟨qs++[p],rs,_,_,L++[.lst (eA p)],by rw[e];simp,e2,?_,rfl⟩)
     have:aI (qs++[p])=aI qs++eA p:=by simp[aI]
     rw[this,ABT,AC5,CI]
     rfl
include T in
¶GC:Cal P w K mg base 1 "_law_hands" nY iE :=
 Cal.byH T.f_hands mn Eg (EX T) FR
variable(C_hands:Cal P w K mg base 1 "_law_hands" nY iE)
def fh:DSp:=λds M R=>∃(n:Nat) (c:Int) (p:Str×Int) (ps:List (Str×Int)) (r:List D),ds=[.ref n,.tup (.tup ((p::ps).map aK)::r)]/\M[n]?=some (ay c)/\Few (p::ps)/\(∀q∈p::ps,q.1.length<=8)/\∀(x:Str) (B:Mem),x.length<=100->WM M n B->R (.str x) B
¶Bo:du fh jQ:=by rintro ds M R ⟨n,c,p,ps,r,rfl,_⟩;rfl
¶Il{k:Nat}:∀xs:List Str,(∀x∈xs,x.length<=k)->(xs.map (λx=>x.length)).sum<=k*xs.length
 | [],_=>AAT _
 | x::r,h=>by
  have ih:=Il r λy hy=>h y (AA9 _ hy)
  have h0:=h x (by simp)
  rw[AAL,List.sum_cons,AAA,Nat.mul_succ]
  &
¶zx(z:Str):∀xs:List Str,(Str.join z xs).length<=(xs.map (λx=>x.length)).sum+xs.length*z.length
 | []=>AAT _
 | [x]=>by
  show x.length<=x.length+0+1*z.length
  &
 | x::y::r=>by
  have ih:=zx z (y::r)
  show ((x++z)++Str.join z (y::r)).length<=_
  rw[aQ,eD,eD,AA8,AA8,←aQ,←aQ,←aQ,AAL,List.sum_cons,AAA,Nat.succ_mul]
  &
¶Ks(z:Str)(xs:List Str):(Txt.join z xs).length<=(xs.map (λx=>x.length)).sum+xs.length*z.length:=by
 unfold Txt.join
 rw[StrLaws.glued_eq_join]
 ~zx z xs
¶gG:FnScope Al jQ (ak rF):=by @"sc"
def qf:DTS:=aU (dSl (dMs xI (dOp qIx (af 2) (dCB aD (ab (af 0) (ab (dC (.int 12)) ao)))) (ab (af 5) ao)) bA (dq (dC (.int 60))))
def qg:DTS:=aR (qG 1 [4,0] (eV (ab (dOp bf (dC (.int 1)) (dCB aD (ab (af 0) (ab (dC (.int 4)) ao)))) ao)) (aH 0) oV (dOp qIx (af 1) (dCB aD (ab (af 2) (ab (dCB jo (ab (af 1) ao)) ao)))) 5) (qf)
def kE:DTS:=aR (dIf (az (dOp qEq (dCB aD (ab (af 0) (ab (dC (.int 3)) ao))) (dC (.int 0)))) (aU (dMs xI (dC (.str "")) (ab (dLC 1 [3,0] (eV (ab (dOp bf (dC (.int 1)) (dCB aD (ab (af 0) (ab (dC (.int 60)) ao)))) ao)) (aH 0) oV (dOp qIx (af 1) (dCB aD (ab (af 2) (ab (dC (.int 94)) ao))))) ao))) aO) (qg)
def qh:DTS:=aR (db (dOp bf (dLC 2 [] (cN (dOp qIx (af 1) (dC (.int 0)))) (iF 2 (bw (aH 0) (bw (aH 1) iG))) oV (dOp bf (dC (.str "@")) (af 0))) (gf (ab (dC (.str "hi")) (ab (dC (.str "a")) (ab (dOp bf (dOp bf (dC (.str "@")) (dOp qIx (dOp qIx (dOp qIx (af 1) (dC (.int 0))) (dC (.int 0))) (dC (.int 0)))) (dC (.str "x"))) ao))))) 4) (kE)
def qi:DTS:=aR (db (dC (.str " !\"#$&'()*+,-./0123456789:;<=>?@ABCDEFGHIJKLMNOPQRSTUVWXYZ[\\]^_`abcdefghijklmnopqrstuvwxyz{|}~")) 3) (qh)
def qY:DTS:=aR (db (dC (.str " @abz.,Z0~!-")) 2) (qi)
include T C_take in
¶Bz:cW P w K mg base 1 "_law_saying" Al rF qY:=λ_ _ _ _ _ _ _ hr =>
  ah (aN gG.nd aY)
  (ah (aN gG.nd aY)
  (ah (aN gG.nd (bO aF (sv (N':=["_law_name","_law_many"]) (nt:=2) (js:=[]) (ca (aX ac ae)) (λ_ _ _ _=>iL (bg (bv (show AB4 (["_law_name","_law_many"]:List Str) by decide +kernel)) (bg (bv (show AB4 (["_law_name","_law_many"]:List Str) by decide +kernel)) eT))) (λ_ _ _ _=>bZ) (λ_ _ _ _=>bO aF aY ac)) (cq (aa aY (aa aY (aa (bO aF (bO aF aY (aX (aX (aX ac ae) ae) ae)) aY) ad))))))
  (ah (aP (aE (bc hr) (ar C_take hr (aa ac (aa ae ad))) ae) (al (am (k_ms yw aY (aa (sv (N':=["_law_k","_law_every","_law_well_here"]) (nt:=1) (js:=[3,0]) (ef T.b_range (aa (bO aF ae (ar C_take hr (aa ac (aa ae ad)))) ad)) (λ_ _ _ _=>bv (show AB4 (["_law_k","_law_every","_law_well_here"]:List Str) by decide +kernel)) (λ_ _ _ _=>bZ) (λ_ _ _ _=>aX ac (ar C_take hr (aa ac (aa ae ad))))) ad)))) aB)
  (ah (su gG.nd (N':=["_law_k","_law_some","_law_well_here"]) (nt:=1) (js:=[4,0]) (ef T.b_range (aa (bO aF ae (ar C_take hr (aa ac (aa ae ad)))) ad)) (λ_ _ _ _=>bv (show AB4 (["_law_k","_law_some","_law_well_here"]:List Str) by decide +kernel)) (λ_ _ _ _=>bZ) (λ_ _ _ _=>aX ac (ar C_take hr (aa ac (aa (av bJ T.b_len bL (aa ac ad)) ad)))))
  (al (am (bF (k_ms yw (aX ac (ar C_take hr (aa ac (aa ae ad)))) (aa ac ad)) (bT) (bt ae))))))))
¶Ge{M B:Mem}{R:DK}{n k:Nat}{c:Int}{sg ev:Str}{y1:Option D}{xs:List Str}(hn:M[n]?=some (ay c))(hs:sg.cps.toList.length=12)(he:ev.cps.toList.length=94)(hx:∀x∈xs,x.length<=10)(x1:1<=xs.length)(x9:xs.length<=9)(wm:WM M n B)(hk:B[k]?=some (.lst (xs.map .str)))(kn:k≠n)(h:∀(x:Str) (B:Mem),x.length<=100->WM M n B->R (.str x) B) :
  kE (EE M R) [some (.ref n),y1,some (.str sg),some (.str ev),some (.ref k),none] B:=by
 have sl:sg.length=12:=by rw[aQ];~hs
 have el:ev.length=94:=by rw[aQ];~he
 simp only[kE]
 @"dl"
 #⟨c1,hc1⟩:=wm.get hn
 !⟨n,c1,3,rfl,hc1,by decide,by decide,λi c2 i0 i3=>⟨⟨aw,aw⟩,?_⟩⟩
 have wm2:WM M n (B.set n (ay c2)):=wm.set hn _
 have hk2:(B.set n (ay c2))[k]?=some (.lst (xs.map .str)):=bK kn hk
 generalize B.set n (ay c2)=B2 at wm2 hk2
 #⟨c3,hc3⟩:=wm2.get hn
 cases eqD B2 eqN (.int i) (.int 0) with
 | true =>
  !bb ⟨n,c3,60,rfl,hc3,by decide,by decide,λj c4 j0 j60=>⟨⟨¤,¤⟩,?_⟩⟩
  have wm4:WM M n (B2.set n (ay c4)):=wm2.set hn _
  !eM (λys acc S M'=>∃(cs:List Nat) (a:Option D),acc=(cs.map one).map .str/\cs.length+ys.length=(1+j).toNat/\WM M n M'/\S=[a,some (.str ev),some (.ref n)]) ?_ ?_ _ _ _ _ ⟨[],_,rfl,by rw[eJ];simp,wm4,rfl⟩
  ·rintro acc S M' ⟨cs,a,rfl,hl,wm,rfl⟩
   simp only[AAW,Nat.add_zero]at hl
   !⟨trivial,cs.map one,ax,?_,.inl (h _ _ (by rw[aQ,jW];&) (wm.app _))⟩
   rw[rz,AA6,show (AA1 "").length=0 by decide +kernel];&
  ·rintro y ys acc S M' ⟨cs,a,rfl,hl,wm,rfl⟩ K hK
   !⟨trivial,?_⟩
   #⟨w,hw⟩:=wm.get hn
   @"dl"
   !⟨n,w,94,rfl,hw,by decide,by decide,λv c5 v0 v94=>⟨aC ¤,?_⟩⟩
   #⟨jn,hj,ej,_⟩:=gg (xs:=ev.cps.toList) v0 (by rw[he];~v94)
   rw[ej]
   rw[AAA]at hl
   ~⟨by rw[AA6,AA6];~small1000 ¤,hK _ _ _ ⟨cs++[ev.cps.toList[jn]],_,by simp[one],by rw[AA8,AAX];&,wm.set hn _,rfl⟩⟩
 | false =>
  !bH ?_
  simp only[qg]
  @"dl"
  !⟨n,c3,4,rfl,hc3,by decide,by decide,λj c4 j0 j4=>⟨⟨¤,¤⟩,?_⟩⟩
  have wm4:WM M n (B2.set n (ay c4)):=wm2.set hn _
  have hk4:(B2.set n (ay c4))[k]?=some (.lst (xs.map .str)):=bK kn hk2
  !eM (λys acc S M'=>∃(zs:List Str) (a:Option D),acc=zs.map .str/\(∀z∈zs,z.length<=10)/\zs.length+ys.length=(1+j).toNat/\WM M n M'/\M'[k]?=some (.lst (xs.map .str))/\S=[a,some (.ref k),some (.ref n)]) ?_ ?_ _ _ _ _ ⟨[],_,rfl,(λ_ z=>nomatch z),by rw[eJ];simp,wm4,hk4,rfl⟩
  ·rintro acc S M' ⟨zs,a,rfl,hz,hl,wm,hk,rfl⟩
   simp only[AAW,Nat.add_zero]at hl
   !⟨trivial,?_⟩
   simp only[qf]
   @"dl"
   have wm5:=wm.app [MO.lst (zs.map D.str)]
   have l5:aA (M'++[MO.lst (zs.map D.str)]) M'.length (zs.map D.str):=ax
   have ml:=wm.len
   #⟨c5,hc5⟩:=wm5.get hn
   have nM:n<M.length:=(AA2.mp hn).1
   generalize M'++[MO.lst (zs.map D.str)]=B5 at wm5 l5 hc5
   generalize M'.length=q at l5 ml
   !⟨n,c5,12,rfl,hc5,by decide,by decide,λv c6 v0 v12=>⟨aC ¤,?_⟩⟩
   #⟨jn,hj,ej,_⟩:=gg (xs:=sg.cps.toList) v0 (by rw[hs];~v12)
   rw[ej]
   have s1:=Il zs hz
   have e1:({ cps:=#[sg.cps.toList[jn]] }:Str).length=1:=rfl
   have j1:=Ks { cps:=#[sg.cps.toList[jn]] } zs
   rw[e1]at j1
   !⟨zs,bI ¤ l5,by rw[e1];&,aC ¤,.inl (h _ _ (ABN (Txt.slice_le _ _ _) ¤) (wm5.set hn _))⟩
  ·rintro y ys acc S M' ⟨zs,a,rfl,hz,hl,wm,hk,rfl⟩ K hK
   !⟨trivial,?_⟩
   #⟨w,hw⟩:=wm.get hn
   @"dl"
   !⟨_,.inl hk,?_⟩
   rw[AA6]
   !⟨n,w,xs.length,rfl,hw,¤,¤,λv c5 v0 v1=>⟨_,.inl (bK kn hk),?_⟩⟩
   #⟨jn,hj,ej,_⟩:=gg (xs:=xs.map D.str) v0 (by rw[AA6];~v1)
   rw[ej]
   rw[AA6]at hj
   rw[AAA]at hl
   !⟨by rw[AA6];~small1000 ¤,hK _ _ _ ⟨zs++[xs[jn]],_,by simp,λz hzm=>?_,by rw[AA8,AAX];&,wm.set hn _,bK kn hk,rfl⟩⟩
   rcases AAk.mp hzm with hzm | hzm
   ·~hz z hzm
   ·rw[AAY.mp hzm];~hx _ (AAn hj)
¶BT:WpT fh 6 qY:=by
 rintro ds M R ⟨n,c,⟨z,m⟩,ps,r,rfl,hn,few,h8,h⟩
 have nM:n<M.length:=(AA2.mp hn).1
 have f4:=few.1
 have z8:z.length<=8:=h8 (z,m) (by simp)
 rw[AAA]at f4
 rw[AAL,show aK (z,m)=.tup [.str z,.int m]from rfl]
 simp only[qY,qi,qh]
 @"dl"
 intro _
 !cv (λd=>match d with | .tup (.str x::_)=>.str (AA1 "@" ++ x) | _=>.non) (λS=>∃a b,S=[a,b]) trivial _ _ _ (λk hk S hS=>?_) ⟨_,_,rfl⟩ ?_ ?_
 ·#⟨a,b,rfl⟩:=hS
  have:∃q∈(z,m)::ps,k=.tup [.str q.1,.int q.2]:=by
   rcases AAH.mp hk with rfl | hk
   ·~⟨(z,m),by simp,rfl⟩
   ·#⟨q,hq,rfl⟩:=AAN.mp hk
    ~⟨q,AA9 _ hq,rfl⟩
  #⟨q,hq,rfl⟩:=this
  have:=h8 q hq
  !⟨[some (.str q.1),some (.int q.2)],⟨_,_,rfl⟩,λY hY=>?_⟩
  @"dl"
  !⟨trivial,?_,hY⟩
  rw[show (AA1 "@").length=1 by decide +kernel];~aC ¤
 ·rw[AAW,AAA,AA6];~aC ¤
 ·have e:∀q:List (Str×Int),(q.map aK).map (λd=>match d with | .tup (.str x::_)=>.str (AA1 "@" ++ x) | _=>.non)=(q.map λy=>AA1 "@" ++ y.1).map D.str:=λq=>by
   rw[AAi,AAi];rfl
  have a1:(AA1 "@").length=1:=by decide +kernel
  have x1:(AA1 "x").length=1:=by decide +kernel
  have zl:(AA1 "@" ++ z).length=1+z.length:=by rw[aQ,eD,AA8,←aQ,←aQ,a1]
  have bl:∀y∈((z,m)::ps).map (λy=>AA1 "@" ++ y.1),y.length<=10:=λy hy=>by
   #⟨q,hq,rfl⟩:=AAN.mp hy
   have:=h8 q hq
   rw[aQ,eD,AA8,←aQ,←aQ,a1];&
  rw[show (D.tup [.str z,.int m])=aK (z,m)from rfl,←AAL,e ((z,m)::ps),AAr]
  have nl:(((z,m)::ps).map (λy=>AA1 "@" ++ y.1)).length=ps.length+1:=by rw[AA6,AAA]
  generalize ((z,m)::ps).map (λy=>AA1 "@" ++ y.1)=ns at bl nl
  generalize AA1 "@" ++ z=w at zl
  !⟨aC ¤,aC ¤,aC ¤,_,_,aW bo,bo,?_,?_⟩
  ·rw[AA6];~aC (by simp only[AAA,AAW];&)
  ·rw[show [D.str (AA1 "hi"),D.str (AA1 "a"),D.str (w++AA1 "x")]=[AA1 "hi",AA1 "a",w++AA1 "x"].map D.str from rfl,←ABR]
   have b2:∀y∈ns++[AA1 "hi",AA1 "a",w++AA1 "x"],y.length<=10:=λy hy=>by
    rcases AAk.mp hy with hy | hy
    ·~bl y hy
    ·simp only[AAH,AAf,or_false]at hy
     rcases hy with rfl | rfl | rfl
     ·decide +kernel
     ·decide +kernel
     ·rw[aQ,eD,AA8,←aQ,←aQ,x1];&
   have wl:(ns++[AA1 "hi",AA1 "a",w++AA1 "x"]).length=ps.length+4:=by rw[AA8,nl];rfl
   generalize ns++[AA1 "hi",AA1 "a",w++AA1 "x"]=all at b2 wl
   !Ge hn (by decide +kernel) (by decide +kernel) b2 ¤ ¤ ((((WM.now hn).app _).app _).app _) bo ?_ h
   simp only[AA8,AAX]
   &
include T C_take in
¶Dz:Cal P w K mg base 2 "_law_saying" jQ fh :=
 Cal.byH T.f_saying gG Bo (Bz T C_take) BT
variable(C_saying:Cal P w K mg base 2 "_law_saying" jQ fh)
def eP:DSp:=λds M R=>∃(n q:Nat) (c:Int) (ps:List (Str×Int)) (r sts:List D),ds=[.ref n,.tup (.tup (ps.map aK)::r),.ref q]/\M[n]?=some (ay c)/\aA M q sts/\q≠n/\(∀x∈sts,∀B:Mem,okD B 29 x=true)/\sts.length<=1000/\Few ps/\1<=(aI ps).length /\
 (∀(d:D) (B:Mem),d∈sts->WM M n B->R d B)/\∀(t:Int) (d:D) (B:Mem),1<=t->d∈aI ps->WM M n B->R (.tup [.int t,d]) B
¶Ee:du eP nW:=by rintro ds M R ⟨n,q,c,ps,r,sts,rfl,_⟩;rfl
¶zC:FnScope Fz nW (ak xC):=by @"sc"
def ub:DTS:=aU (gh (ab (dOp bf (dC (.int 1)) (dCB aD (ab (af 0) (ab (dOp qIx (gf (ab (dC (.int 4)) (ab (dOp Io (dC (.int 10)) (dC (.int 12))) ao))) (dCB aD (ab (af 0) (ab (dC (.int 2)) ao)))) ao)))) (ab (dOp qIx (af 3) (dCB aD (ab (af 0) (ab (dCB jo (ab (af 3) ao)) ao)))) ao)))
def mC:DTS:=aR (db (dCB iE (ab (af 1) ao)) 3) (ub)
def xg:DTS:=aR (dIf (Fb (az (dOp qNe (af 2) (gf ao))) (az (dOp qGt (dCB aD (ab (af 0) (ab (dC (.int 8)) ao))) (dC (.int 0))))) (aU (dOp qIx (af 2) (dCB aD (ab (af 0) (ab (dCB jo (ab (af 2) ao)) ao))))) aO) (mC)
include T C_take C_hands in
¶EV:cW P w K mg base 1 "_law_stamp" Fz xC xg:=λ_ _ _ _ _ _ _ hr =>
  ah (aP (pS (qD (aE (pT hr) ac (cq ad)) (kT (aE vP (ar C_take hr (aa ac (aa ae ad))) ae)))) (al (am (aX ac (ar C_take hr (aa ac (aa (av bJ T.b_len bL (aa ac ad)) ad)))))) aB)
  (ah (aN zC.nd (ar C_hands hr (aa ac ad)))
  (al (am (ck (aa (bO aF ae (ar C_take hr (aa ac (aa (aX (cq (aa ae (aa (bO zT ae ae) ad))) (ar C_take hr (aa ac (aa ae ad)))) ad)))) (aa (aX ac (ar C_take hr (aa ac (aa (av bJ T.b_len bL (aa ac ad)) ad)))) ad))))))
¶CB{M B:Mem}{R:DK}{n:Nat}{c:Int}{ps:List (Str×Int)}{r:List D}{y2:Option D}(hn:M[n]?=some (ay c))(few:Few ps)(h1:1<=(aI ps).length)(wm:WM M n B)(h:∀(t:Int) (d:D) (B:Mem),1<=t->d∈aI ps->WM M n B->R (.tup [.int t,d]) B) :
  mC (EE M R) [some (.ref n),some (.tup (.tup (ps.map aK)::r)),y2,none] B:=by
 have nM:n<M.length:=(AA2.mp hn).1
 have hl:=dz few.2
 have f4:=few.1
 simp only[mC]
 @"dl"
 !⟨ps,r,rfl,few,?_⟩
 have wm1:=wm.app [MO.lst (aI ps)]
 have l1:(B++[MO.lst (aI ps)])[B.length]?=some (.lst (aI ps)):=bo
 have bl:=wm.len
 generalize B++[MO.lst (aI ps)]=B1 at wm1 l1
 generalize B.length=k at l1 bl
 simp only[ub]
 @"dl"
 have wm2:=wm1.app [MO.lst [D.int 4,D.int (10 ^ ACG 12)]]
 have l2:(B1++[MO.lst [D.int 4,D.int (10 ^ ACG 12)]])[k]?=some (.lst (aI ps)):=cP l1
 have t2:aA (B1++[MO.lst [D.int 4,D.int (10 ^ ACG 12)]]) B1.length [D.int 4,D.int (10 ^ ACG 12)]:=ax
 have b1:=wm1.len
 #⟨c2,hc2⟩:=wm2.get hn
 generalize B1++[MO.lst [D.int 4,D.int (10 ^ ACG 12)]]=B2 at wm2 l2 t2 hc2
 generalize B1.length=k2 at t2 b1
 !⟨by unfold LH;decide,aC ¤,n,c2,2,rfl,hc2,by decide,by decide,λi c3 i0 i2=>⟨_,bI ¤ t2,?_⟩⟩
 have wm3:WM M n (B2.set n (ay c3)):=wm2.set hn _
 have l3:(B2.set n (ay c3))[k]?=some (.lst (aI ps)):=bK ¤ l2
 #⟨c4,hc4⟩:=wm3.get hn
 generalize B2.set n (ay c3)=B3 at wm3 l3 hc4
 obtain⟨w,hw,w0,w15⟩:∃w:Int,atI [D.int 4,D.int (10 ^ ACG 12)] i=some (.int w)/\0<w/\w<1000000000000000:=by
  have:i=0\/i=1:=¤
  rcases this with rfl | rfl
  ·~⟨4,bG (j:=0) rfl,by decide,by decide⟩
  ·~⟨10 ^ ACG 12,bG (j:=1) rfl,by decide,by decide⟩
 rw[hw]
 !⟨n,c4,w,rfl,hc4,w0,w15,λv c5 v0 v1=>?_⟩
 have wm4:WM M n (B3.set n (ay c5)):=wm3.set hn _
 have l4:(B3.set n (ay c5))[k]?=some (.lst (aI ps)):=bK ¤ l3
 #⟨c6,hc6⟩:=wm4.get hn
 generalize B3.set n (ay c5)=B4 at wm4 l4 hc6
 !⟨_,.inl l4,n,c6,_,rfl,hc6,¤,¤,λj c7 j0 j1=>⟨_,.inl (bK ¤ l4),?_⟩⟩
 #⟨jn,hj,ej,_⟩:=gg j0 j1
 rw[ej]
 ~⟨aC ¤,.inl (h _ _ _ ¤ (AAn hj) (wm4.set hn _))⟩
¶FP:WpT eP 4 xg:=by
 rintro ds M R ⟨n,q,c,ps,r,sts,rfl,hn,hq,qn,ok,l1000,few,h1,h0,h⟩
 simp only[xg]
 @"dl"
 #⟨okk,enil⟩:=mt hq λx hx=>ok x hx _
 !⟨AAT _,okk,?_⟩
 rw[enil]
 have wm1:WM M n (M++[MO.lst []]):=(WM.now hn).app _
 #⟨c1,hc1⟩:=wm1.get hn
 cases hs:sts.isEmpty with
 | true =>
  ~bH (CB hn few h1 wm1 h)
 | false =>
  !bb ⟨n,c1,8,rfl,hc1,by decide,by decide,λv c2 v0 v8=>?_⟩
  have wm2:WM M n ((M++[MO.lst []]).set n (ay c2)):=wm1.set hn _
  have lq:aA ((M++[MO.lst []]).set n (ay c2)) q sts:=bI qn (hq.more _)
  generalize (M++[MO.lst []]).set n (ay c2)=B2 at wm2 lq
  dsimp only
  by_cases hv:0<v
  ·rw[decide_eq_true hv]
   have sl:1<=sts.length:=by cases sts<;>simp_all
   #⟨c3,hc3⟩:=wm2.get hn
   !bb ⟨sts,lq,n,c3,_,rfl,hc3,¤,¤,λi c4 i0 i1=>⟨sts,bI qn lq,?_⟩⟩
   #⟨j,hj,ej,_⟩:=gg i0 i1
   rw[ej]
   ~.inl (h0 _ _ (AAn hj) (wm2.set hn _))
  ·rw[decide_eq_false hv]
   ~bH (CB hn few h1 wm2 h)
include T C_take C_hands in
¶GA:Cal P w K mg base 2 "_law_stamp" nW eP :=
 Cal.byH T.f_stamp zC Ee (EV T C_take C_hands) FP
variable(C_stamp:Cal P w K mg base 2 "_law_stamp" nW eP)
def Oy(ps:List (Str×Int))(vs:List D):Prop:=∃hs:List (D×Int),vs=hs.map (λp=>.tup [p.1,.int p.2])/\(hs.map (·.1)).Sublist (aI ps)/\∀p∈hs,1<=p.2
def eE:DSp:=λds M R=>∃(n:Nat) (c:Int) (ps:List (Str×Int)) (r:List D),ds=[.ref n,.tup (.tup (ps.map aK)::r)]/\M[n]?=some (ay c)/\Few ps/\∀(vs:List D) (B:Mem),Oy ps vs->WM M n B->R (.tup vs) B
¶Bn:du eE jP:=by rintro ds M R ⟨n,c,ps,r,rfl,_⟩;rfl
¶nw:FnScope Ak jP (ak rE):=by @"sc"
def qc:DTS:=aU (dCB iK (ab (af 2) ao))
def qd:DTS:=aR (yP (cN (dCB iE (ab (af 1) ao))) (aH 3) (dIf (az (dOp qGt (dCB aD (ab (af 0) (ab (dC (.int 3)) ao))) (dC (.int 0)))) (wg (dMl gL (af 2) (ab (gh (ab (af 3) (ab (dOp bf (dC (.int 1)) (dCB aD (ab (af 0) (ab (dOp qIx (gf (ab (dC (.int 4)) (ab (dC (.int 200)) ao))) (dCB aD (ab (af 0) (ab (dC (.int 2)) ao)))) ao)))) ao))) ao))) aO)) (qc)
def qX:DTS:=aR (db (gf ao) 2) (qd)
include T C_take C_hands in
¶By:cW P w K mg base 1 "_law_vector" Ak rE qX:=λ_ _ _ _ _ _ _ hr =>
  ah (aN nw.nd (cq ad))
  (ah (hV (ca (ar C_hands hr (aa ac ad))) (cH nw.nd) (al (aP (aE vP (ar C_take hr (aa ac (aa ae ad))) ae) (al (oA (LB jZ ac (aa (ck (aa ac (aa (bO aF ae (ar C_take hr (aa ac (aa (aX (cq (aa ae (aa ae ad))) (ar C_take hr (aa ac (aa ae ad)))) ad)))) ad))) ad)))) aB)))
  (al (am (eK iA T.b_tuple bp (aa ac ad)))))
¶BS:WpT eE 4 qX:=by
 rintro ds M R ⟨n,c,ps,r,rfl,hn,few,h⟩
 have nM:n<M.length:=(AA2.mp hn).1
 have hl:=dz few.2
 have f4:=few.1
 simp only[qX,qd]
 @"dl"
 !⟨AAT _,ps,r,rfl,few,?_⟩
 dsimp only
 have wm1:WM M n (M++[MO.lst []]++[MO.lst (aI ps)]):=((WM.now hn).app _).app _
 have l1:aA (M++[MO.lst []]++[MO.lst (aI ps)]) (M++[MO.lst []]).length (aI ps):=ax
 have g1:(M++[MO.lst []]++[MO.lst (aI ps)])[M.length]?=some (.lst ([]:List D)):=cP bo
 have kq:M.length<(M++[MO.lst []]).length:=by simp
 generalize M++[MO.lst []]++[MO.lst (aI ps)]=C1 at wm1 l1 g1
 generalize (M++[MO.lst []]).length=k at l1 kq
 !⟨_,l1,λ_=>?_⟩
 !eL (λi S M'=>∃(hs:List (D×Int)) (a:Option D),(hs.map (·.1)).Sublist ((aI ps).take i)/\(∀p∈hs,1<=p.2)/\WM M n M'/\M'[M.length]?=some (.lst (hs.map λp=>.tup [p.1,.int p.2]))/\aA M' k (aI ps)/\S=[some (.ref n),some (.tup (.tup (ps.map aK)::r)),some (.ref M.length),a]) ?_ ?_ ⟨[],_,List.nil_sublist _,(λ_ z=>nomatch z),wm1,g1,l1,rfl⟩
 ·rintro S M' ⟨hs,a,hsub,hpos,wm,g,l,rfl⟩
  !⟨l,?_⟩
  simp only[qc]
  @"dl"
  ~⟨_,.inl g,.inl (h _ _ ⟨hs,rfl,hsub.trans (ADl _ _),hpos⟩ wm)⟩
 ·rintro i y S M' hy ⟨hs,a,hsub,hpos,wm,g,l,rfl⟩ G hG
  !⟨l,?_⟩
  have hil:=(AA2.mp hy).1
  have hsl:=hsub.length_le
  rw[AA6,AAh]at hsl
  have skip:(hs.map (·.1)).Sublist ((aI ps).take (i+1)):=by
   rw[ABl]
   ~hsub.trans (List.sublist_append_left _ _)
  #⟨c2,hc2⟩:=wm.get hn
  @"dl"
  !⟨n,c2,3,rfl,hc2,by decide,by decide,λv c3 v0 v3=>?_⟩
  have wm2:WM M n (M'.set n (ay c3)):=wm.set hn _
  have g2:(M'.set n (ay c3))[M.length]?=some (.lst (hs.map λp=>.tup [p.1,.int p.2])):=bK ¤ g
  have l2:aA (M'.set n (ay c3)) k (aI ps):=bI ¤ l
  generalize M'.set n (ay c3)=B2 at wm2 g2 l2
  dsimp only
  by_cases hv:0<v
  ·rw[decide_eq_true hv]
   !bb ⟨⟨_,.inl g2⟩,aC ¤,?_⟩
   have wm3:=wm2.app [MO.lst [D.int 4,D.int 200]]
   have g3:=cP (a:=MO.lst [D.int 4,D.int 200]) g2
   have l3:=l2.more [MO.lst [D.int 4,D.int 200]]
   have t3:aA (B2++[MO.lst [D.int 4,D.int 200]]) B2.length [D.int 4,D.int 200]:=ax
   have b2:=wm2.len
   #⟨c4,hc4⟩:=wm3.get hn
   generalize B2++[MO.lst [D.int 4,D.int 200]]=B3 at wm3 g3 l3 t3 hc4
   generalize B2.length=k3 at t3 b2
   !⟨n,c4,2,rfl,hc4,by decide,by decide,λw c5 w0 w2=>⟨_,bI ¤ t3,?_⟩⟩
   obtain⟨z,hz,z0,z15⟩:∃z:Int,atI [D.int 4,D.int 200] w=some (.int z)/\0<z/\z<1000000000000000:=by
    have:w=0\/w=1:=¤
    rcases this with rfl | rfl
    ·~⟨4,bG (j:=0) rfl,by decide,by decide⟩
    ·~⟨200,bG (j:=1) rfl,by decide,by decide⟩
   rw[hz]
   have wm4:WM M n (B3.set n (ay c5)):=wm3.set hn _
   have g4:(B3.set n (ay c5))[M.length]?=some (.lst (hs.map λp=>.tup [p.1,.int p.2])):=bK ¤ g3
   have l4:aA (B3.set n (ay c5)) k (aI ps):=bI ¤ l3
   #⟨c6,hc6⟩:=wm4.get hn
   generalize B3.set n (ay c5)=B4 at wm4 g4 l4 hc6
   !⟨n,c6,z,rfl,hc6,z0,z15,λu c7 u0 u1=>⟨aC ¤,_,bK ¤ g4,by rw[AA6];~small1000 ¤,?_⟩⟩
   !Fgt.now (hG _ _ ⟨hs++[(y,1+u)],_,?_,λp hp=>?_,(wm4.set hn _).hi (AAC _),?_,bI ¤ (bI ¤ l4),rfl⟩)
   ·rw[ABR,ABl,hy]
    ~hsub.append (List.Sublist.refl _)
   ·rcases AAk.mp hp with hp | hp
    ·~hpos p hp
    ·rw[AAY.mp hp];dsimp only;&
   ·rw[hZ (bK ¤ g4)]
    simp
  ·rw[decide_eq_false hv]
   ~bH (Fgt.now (hG _ _ ⟨hs,_,skip,hpos,wm2,g2,l2,rfl⟩))
include T C_take C_hands in
¶Dy:Cal P w K mg base 2 "_law_vector" jP eE :=
 Cal.byH T.f_vector nw Bn (By T C_take C_hands) BS
variable(C_vector:Cal P w K mg base 2 "_law_vector" jP eE)
def smD:Nat->D->Bool
 | n+1,.tup xs=>decide (xs.length<=12)&&xs.all (smD n)
 | 0,.tup _=>false
 | _,_=>true
¶Jn{n:Nat}{xs:List D}(h:smD n (.tup xs)=true):xs.length<=12/\∃m,n=m+1/\∀x∈xs,smD m x=true:=by
 cases n with
 | zero=>cases h
 | succ n =>
  have h':(decide (xs.length<=12)&&xs.all (smD n))=true:=h
  rw[AAD,AAK,decide_eq_true_eq]at h'
  ~⟨h'.1,n,rfl,h'.2⟩
structure GoodP(n:Nat)(d:D):Prop where
 gd:∀M:Mem,Gdn M n d
 sm:smD n d=true
 ln:∀x,d=.str x->x.length<=100
¶ff{n:Nat}{x:Str}(h:x.length<=100)(hn:n<=30:=by decide):GoodP n (.str x):=⟨λM=>qF ¤ hn,by cases n<;>rfl,λy e=>by injection e with e;subst e;~h⟩
¶NF{n:Nat}(hn:n<=30:=by decide):GoodP n .non:=⟨λM=>IE hn,by cases n<;>rfl,λy e=>by cases e⟩
¶NG{n:Nat}{b:Bool}(hn:n<=30:=by decide):GoodP n (.bl b):=⟨λM=>KG hn,by cases n<;>rfl,λy e=>by cases e⟩
¶vT{n:Nat}{b:Int}(hn:n<=30:=by decide):GoodP n (.int b):=⟨λM=>vU hn,by cases n<;>rfl,λy e=>by cases e⟩
¶zX{n:Nat}{xs:List D}(h:∀x∈xs,GoodP n x)(l:xs.length<=12)(hn:n+1<=30):GoodP (n+1) (.tup xs):=by
 !⟨λM=>Gdn.mk ¤ hn λx hx=>(h x hx).gd M,?_,λy e=>by cases e⟩
 show (decide (xs.length<=12)&&xs.all (smD n))=true
 rw[decide_eq_true l,AAx,AAK]
 ~λx hx=>(h x hx).sm
¶oJ{n:Nat}{a b:D}(ha:GoodP n a)(hb:GoodP n b)(hn:n+1<=30:=by decide):GoodP (n+1) (.tup [a,b]):=zX (λx hx=>by
 simp only[AAH,AAf,or_false]at hx
 rcases hx with rfl | rfl
 ·~ha
 ·~hb) (by simp) hn
¶yx{n:Nat}{ps:List (Str×Int)}{d:D}(h8:∀p∈ps,p.1.length<=8)(h:d∈aI ps)(hn:n+1<=30):GoodP (n+1) d:=by
 #⟨p,hp,k,rfl,_⟩:=zW h
 have:=h8 p hp
 ~oJ (ff ¤ ¤) (vT ¤) hn
¶sB{n:Nat}{ps:List (Str×Int)}{d:D}{t:Int}(h8:∀p∈ps,p.1.length<=8)(h:d∈aI ps)(hn:n+2<=30):GoodP (n+2) (.tup [.int t,d]):=oJ (vT ¤) (yx h8 h ¤) hn
def pc:DSp:=λds M R=>∃(n q:Nat) (c:Int) (ps:List (Str×Int)) (rs:List (Str×List Str)) (r sts:List D),ds=[.ref n,.tup (.tup (ps.map aK)::.tup (rs.map bP)::r),.ref q]/\M[n]?=some (ay c)/\aA M q sts/\q≠n/\(∀x∈sts,∀B:Mem,okD B 29 x=true)/\(∀x∈sts,∀k,k<=20->GoodP (k+2) x)/\(∀p∈ps,p.1.length<=8)/\(∀p∈rs,p.1.length<=8)/\sts.length<=1000/\Few ps/\1<=(aI ps).length/\1<=ps.length/\1<=rs.length/\rs.length<=4 /\
 ∀(d:D) (B:Mem),GoodP 3 d->WM M n B->R d B
¶GO:du pc uU:=by rintro ds M R ⟨n,q,c,ps,rs,r,sts,rfl,_⟩;rfl
¶vS{ps:List (Str×Int)}{d:D}(h:d∈aI ps):Hd d:=by
 #⟨p,_,k,rfl,_⟩:=zW h
 ~⟨_,_,rfl⟩
¶CL:FnScope IP uU (ak CP):=by @"sc"
def za:DTS:=aU (gh (ab (dC (.str "under")) (ab (dCB eP (ab (af 0) (ab (af 1) (ab (af 2) ao)))) ao)))
def zb:DTS:=aR (dIf (az (dOp qEq (af 3) (dC (.int 1)))) (aU (gh (ab (dC (.str "person")) (ab (dOp qIx (dOp qIx (dOp qIx (af 1) (dC (.int 0))) (dCB aD (ab (af 0) (ab (dCB jo (ab (dOp qIx (af 1) (dC (.int 0))) ao)) ao)))) (dC (.int 0))) ao)))) aO) (za)
def zc:DTS:=aR (dIf (az (dOp qEq (af 3) (dC (.int 0)))) (aU (gh (ab (dC (.str "room")) (ab (dOp qIx (dOp qIx (dOp qIx (af 1) (dC (.int 1))) (dCB aD (ab (af 0) (ab (dCB jo (ab (dOp qIx (af 1) (dC (.int 1))) ao)) ao)))) (dC (.int 0))) ao)))) aO) (zb)
def Ce:DTS:=aR (db (dCB aD (ab (af 0) (ab (dC (.int 3)) ao))) 3) (zc)
include T C_take C_stamp in
¶HH:cW P w K mg base 2 "_law_what" IP CP Ce:=λ_ _ _ _ _ _ _ hr =>
  ah (aN CL.nd (ar C_take hr (aa ac (aa ae ad))))
  (ah (aP (aE (bc hr) ac ae) (al (am (ck (aa aY (aa (aX (aX (aX ac ae) (ar C_take hr (aa ac (aa (av bJ T.b_len bL (aa (aX ac ae) ad)) ad)))) ae) ad))))) aB)
  (ah (aP (aE (bc hr) ac ae) (al (am (ck (aa aY (aa (aX (aX (aX ac ae) (ar C_take hr (aa ac (aa (av bJ T.b_len bL (aa (aX ac ae) ad)) ad)))) ae) ad))))) aB)
  (al (am (ck (aa aY (aa (ar C_stamp hr (aa ac (aa ac (aa ac ad)))) ad)))))))
¶IY:WpT pc 4 Ce:=by
 rintro ds M R ⟨n,q,c,ps,rs,r,sts,rfl,hn,hq,qn,ok,bel,h8,r8,l1000,few,h1,p1,r1,r4,h⟩
 have f4:=few.1
 simp only[Ce,zc]
 @"dl"
 !⟨n,c,3,rfl,hn,by decide,by decide,λi c1 i0 i3=>⟨⟨aw,aw⟩,?_⟩⟩
 have wm1:WM M n (M.set n (ay c1)):=WM.drawn
 have q1:=bI (x:=ay c1) qn hq
 generalize M.set n (ay c1)=B1 at wm1 q1
 #⟨c2,hc2⟩:=wm1.get hn
 cases eqD B1 eqN (.int i) (.int 0) with
 | true =>
  !bb ?_
  rw[AA6]
  !⟨n,c2,rs.length,rfl,hc2,¤,¤,λj c3 j0 j1=>?_⟩
  #⟨jn,hj,ej,_⟩:=gg (xs:=rs.map bP) j0 (by rw[AA6];~j1)
  dsimp only
  rw[ej,ACN]
  unfold bP
  @"dl"
  ~⟨aC ¤,.inl (h _ _ (oJ (ff (by decide +kernel)) (ff (by have:=r8 _ (AAn (l:=rs) (by rw[AA6]at hj;~hj));&))) (wm1.set hn _))⟩
 | false =>
  !bH ?_
  simp only[zb]
  @"dl"
  !⟨⟨aw,aw⟩,?_⟩
  cases eqD B1 eqN (.int i) (.int 1) with
  | true =>
   !bb ?_
   rw[AA6]
   !⟨n,c2,ps.length,rfl,hc2,¤,¤,λj c3 j0 j1=>?_⟩
   #⟨jn,hj,ej,_⟩:=gg (xs:=ps.map aK) j0 (by rw[AA6];~j1)
   dsimp only
   rw[ej,ACN]
   unfold aK
   @"dl"
   ~⟨aC ¤,.inl (h _ _ (oJ (ff (by decide +kernel)) (ff (by have:=h8 _ (AAn (l:=ps) (by rw[AA6]at hj;~hj));&))) (wm1.set hn _))⟩
  | false =>
   !bH ?_
   simp only[za]
   @"dl"
   !⟨n,q,c2,ps,_,sts,rfl,hc2,q1,qn,ok,l1000,few,h1,λd B hd w=>⟨aC ¤,.inl (h _ _ ?_ (wm1.trans hn w))⟩,λt d B t1 hd w=>⟨aC ¤,.inl (h _ _ ?_ (wm1.trans hn w))⟩⟩
   ·~oJ (ff (by decide +kernel)) (bel d hd 0 (by decide))
   ·~oJ (ff (by decide +kernel)) (sB (n:=0) h8 hd (by decide))
include T C_take C_stamp in
¶JR:Cal P w K mg base 3 "_law_what" uU pc :=
 Cal.byH T.f_what CL GO (HH T C_take C_stamp) IY
variable(C_what:Cal P w K mg base 3 "_law_what" uU pc)
def LI(ds:List D):Prop:=(1<=ds.length/\ds.length<=3)/\∀d∈ds,GoodP 3 d
def wD:DSp:=λds M R=>∃(n q:Nat) (c:Int) (p:Str×Int) (ps:List (Str×Int)) (rs:List (Str×List Str)) (r sts:List D),ds=[.ref n,.tup (.tup ((p::ps).map aK)::.tup (rs.map bP)::r),.ref q]/\M[n]?=some (ay c)/\aA M q sts/\q≠n/\(∀x∈sts,∀B:Mem,okD B 29 x=true)/\(∀x∈sts,∀k,k<=20->GoodP (k+2) x)/\sts.length<=1000/\Few (p::ps)/\1<=(aI (p::ps)).length/\(∀q∈p::ps,q.1.length<=8)/\(∀q∈rs,q.1.length<=8)/\1<=rs.length/\rs.length<=4 /\
 ∀(x:Str) (ds:List D) (B:Mem),x.length<=10->LI ds->WM M n B->R (.tup (.str x::ds)) B
¶Kj:du wD Dv:=by rintro ds M R ⟨n,q,c,p,ps,rs,r,sts,rfl,_⟩;rfl
¶NE{ps:List (Str×Int)}{vs:List D}(h8:∀p∈ps,p.1.length<=8)(few:Few ps)(h:Oy ps vs):GoodP 3 (.tup vs):=by
 #⟨hs,rfl,hsub,_⟩:=h
 have hl:=dz few.2
 have f4:=few.1
 have hsl:=hsub.length_le
 rw[AA6]at hsl
 !zX (n:=2) (λx hx=>?_) (by rw[AA6];&) (by decide)
 #⟨p,hp,rfl⟩:=AAN.mp hx
 ~oJ (n:=1) (yx (n:=0) h8 (hsub.subset (AAN.mpr ⟨p,hp,rfl⟩)) (by decide)) vT
¶actP1{a:D}(ha:GoodP 3 a):LI [a]:=⟨⟨by simp,by simp⟩,λx hx=>by rw[AAY.mp hx];~ha⟩
¶Lx{a b:D}(ha:GoodP 3 a)(hb:GoodP 3 b):LI [a,b]:=⟨⟨by simp,by simp⟩,λx hx=>by
 simp only[AAH,AAf,or_false]at hx
 rcases hx with rfl | rfl
 ·~ha
 ·~hb⟩
¶Ox{a b c:D}(ha:GoodP 3 a)(hb:GoodP 3 b)(hc:GoodP 3 c):LI [a,b,c]:=⟨⟨by simp,by simp⟩,λx hx=>by
 simp only[AAH,AAf,or_false]at hx
 rcases hx with rfl | rfl | rfl
 ·~ha
 ·~hb
 ·~hc⟩
¶qt:FnScope OC Dv (ak Jr):=by @"sc"
def zt:DTS:=aU (gh (ab (dOp qIx (gf (ab (dC (.str "back")) (ab (dC (.str "seen")) (ab (dC (.str "rung")) ao)))) (dMl nL (gf (ab (dC (.int 7)) (ab (dC (.int 8)) (ab (dC (.int 11)) ao)))) (ab (af 3) ao))) (ab (af 6) ao)))
def Cp:DTS:=aR (dIf (dOr (az (dOp qEq (af 3) (dC (.int 5)))) (az (dOp qEq (af 3) (dC (.int 6))))) (aU (gh (ab (dC (.str "like")) (ab (af 6) (ab (dOp qIx (gf (ab (dC (.str "a")) (ab (dC (.str "ab")) (ab (dCB jx (ab (af 0) ao)) ao)))) (dCB aD (ab (af 0) (ab (dC (.int 3)) ao)))) (ab (dOp qGt (dCB aD (ab (af 0) (ab (dC (.int 3)) ao))) (dC (.int 0))) ao)))))) aO) (zt)
def xk:DTS:=aR (dIf (az (dOp qEq (af 3) (dC (.int 4)))) (aU (gh (ab (dC (.str "change")) (ab (af 6) (ab (dCB fh (ab (af 0) (ab (af 1) ao))) ao))))) aO) (Cp)
def xm:DTS:=aR (db (dCB eP (ab (af 0) (ab (af 1) (ab (af 2) ao)))) 6) (xk)
def Cq:DTS:=aR (dIf (az (dOp qEq (af 3) (dC (.int 10)))) (aU (gh (ab (dC (.str "hush")) (ab (dCB pc (ab (af 0) (ab (af 1) (ab (af 2) ao)))) (ab (dOp qEq (dCB aD (ab (af 0) (ab (dC (.int 2)) ao))) (dC (.int 1))) ao))))) aO) (xm)
def xo:DTS:=aR (dIf (az (dOp qEq (af 3) (dC (.int 9)))) (aU (gh (ab (dC (.str "read")) (ab (af 4) (ab (dCB eE (ab (af 0) (ab (af 1) ao))) ao))))) aO) (Cq)
def xp:DTS:=aU (gh (ab (dC (.str "say")) (ab (af 4) (ab (af 5) (ab (dCB fh (ab (af 0) (ab (af 1) ao))) ao)))))
def Cr:DTS:=aR (dIf (az (dOp qEq (dCB aD (ab (af 0) (ab (dC (.int 2)) ao))) (dC (.int 1)))) (db (dCB eP (ab (af 0) (ab (af 1) (ab (af 2) ao)))) 5) aO) (xp)
def Cs:DTS:=aR (dIf (az (dOp qLt (af 3) (dC (.int 4)))) (aR (db (dC .non) 5) (Cr)) aO) (xo)
def Ct:DTS:=aR (db (dOp qIx (dOp qIx (dOp qIx (af 1) (dC (.int 1))) (dCB aD (ab (af 0) (ab (dCB jo (ab (dOp qIx (af 1) (dC (.int 1))) ao)) ao)))) (dC (.int 0))) 4) (Cs)
def Ji:DTS:=aR (db (dCB aD (ab (af 0) (ab (dC (.int 12)) ao))) 3) (Ct)
include T C_take C_word C_saying C_stamp C_vector C_what in
¶La:cW P w K mg base 3 "_law_act" OC Jr Ji:=λ_ _ _ _ _ _ _ hr =>
  ah (aN qt.nd (ar C_take hr (aa ac (aa ae ad))))
  (ah (aN qt.nd (aX (aX (aX ac ae) (ar C_take hr (aa ac (aa (av bJ T.b_len bL (aa (aX ac ae) ad)) ad)))) ae))
  (ah (aP (aE sy ac ae) (ah (aN qt.nd Hb)
  (ah (aP (aE (bc hr) (ar C_take hr (aa ac (aa ae ad))) ae) (al (aN qt.nd (ar C_stamp hr (aa ac (aa ac (aa ac ad)))))) aB)
  (al (am (ck (aa aY (aa ac (aa ac (aa (ar C_saying hr (aa ac (aa ac ad))) ad))))))))) aB)
  (ah (aP (aE (bc hr) ac ae) (al (am (ck (aa aY (aa ac (aa (ar C_vector hr (aa ac (aa ac ad))) ad)))))) aB)
  (ah (aP (aE (bc hr) ac ae) (al (am (ck (aa aY (aa (ar C_what hr (aa ac (aa ac (aa ac ad)))) (aa (er (bc hr) (ar C_take hr (aa ac (aa ae ad))) ae) ad)))))) aB)
  (ah (aN qt.nd (ar C_stamp hr (aa ac (aa ac (aa ac ad)))))
  (ah (aP (aE (bc hr) ac ae) (al (am (ck (aa aY (aa ac (aa (ar C_saying hr (aa ac (aa ac ad))) ad)))))) aB)
  (ah (aP (pS (eS (aE (bc hr) ac ae) (dZ (aE (bc hr) ac ae)))) (al (am (ck (aa aY (aa ac (aa (aX (cq (aa aY (aa aY (aa (ar C_word hr (aa ac ad)) ad)))) (ar C_take hr (aa ac (aa ae ad)))) (aa (er vP (ar C_take hr (aa ac (aa ae ad))) ae) ad))))))) aB)
  (al (am (ck (aa (aX (cq (aa aY (aa aY (aa aY ad)))) (LB Ew (cq (aa ae (aa ae (aa ae ad)))) (aa ac ad))) (aa ac ad))))))))))))
¶act_7{M B:Mem}{R:DK}{n q:Nat}{c way:Int}{p:Str×Int}{ps:List (Str×Int)}{rs:List (Str×List Str)}{r sts:List D}{y4 y5:Option D}(hn:M[n]?=some (ay c))(wm:WM M n B)(hq:aA B q sts)(qn:q≠n)(ok:∀x∈sts,∀B:Mem,okD B 29 x=true)(bel:∀x∈sts,∀k,k<=20->GoodP (k+2) x)(l1000:sts.length<=1000)(few:Few (p::ps))(h1:1<=(aI (p::ps)).length)(h8:∀q∈p::ps,q.1.length<=8)
  (hw:way=4\/way=5\/way=6\/way=7\/way=8\/way=11) (h:∀(x:Str) (ds:List D) (B:Mem),x.length<=10->LI ds->WM M n B->R (.tup (.str x::ds)) B) :
  xm (EE M R) [some (.ref n),some (.tup (.tup ((p::ps).map aK)::.tup (rs.map bP)::r)),some (.ref q),some (.int way),y4,y5,none] B:=by
 have nM:n<M.length:=(AA2.mp hn).1
 #⟨c1,hc1⟩:=wm.get hn
 have go:∀(d:D) (B1:Mem),GoodP 3 d->WM B n B1->xk (EE M R) [some (.ref n),some (.tup (.tup ((p::ps).map aK)::.tup (rs.map bP)::r)),some (.ref q),some (.int way),y4,y5,some d] B1:=λd B1 bd w1=>by
  have wm1:=wm.trans hn w1
  #⟨c2,hc2⟩:=wm1.get hn
  simp only[xk]
  @"dl"
  !⟨⟨aw,aw⟩,?_⟩
  rw[bU]
  by_cases e4:way=4
  ·rw[beq_iff_eq.mpr e4]
   ~bb ⟨n,c2,p,ps,_,rfl,hc2,few,h8,λx B2 hx w2=>⟨aC ¤,.inl (h _ _ _ (by decide +kernel) (Lx bd (ff hx)) (wm1.trans hn w2))⟩⟩
  rw[beq_eq_false_iff_ne.mpr e4]
  !bH ?_
  simp only[Cp]
  @"dl"
  !⟨⟨aw,aw⟩,?_⟩
  rw[bU,bU]
  by_cases e56:way=5\/way=6
  ·have like:∀z B2 (v:Int),z.length<=100->WM M n B2->aG M R (.tup [.str (AA1 "like"),d,.str z,.bl (decide (0<v))]) B2:=λz B2 v hz wm2=>.inl (h _ _ _ (by decide +kernel) (Ox bd (ff hz) NG) wm2)
   have gets:∀(z:Str) (v:Int),z.length<=8->0<=v->v<3->∃y:Str,atI [D.str (AA1 "a"),D.str (AA1 "ab"),D.str z] v=some (.str y)/\y.length<=100:=λz v z8 v0 v3=>by
    have:v=0\/v=1\/v=2:=¤
    rcases this with rfl | rfl | rfl
    ·~⟨_,bG (j:=0) rfl,by decide +kernel⟩
    ·~⟨_,bG (j:=1) rfl,by decide +kernel⟩
    ·~⟨_,bG (j:=2) rfl,¤⟩
   rcases e56 with e5 | e6
   ·rw[beq_iff_eq.mpr e5]
    !bb ⟨n,c2,rfl,hc2,λz B2 nz w2=>⟨aC ¤,?_⟩⟩
    have wm2:=wm1.trans hn w2
    have b2:=wm2.len
    have wm3:=wm2.app [MO.lst [D.str (AA1 "a"),D.str (AA1 "ab"),D.str z]]
    have t3:aA (B2++[MO.lst [D.str (AA1 "a"),D.str (AA1 "ab"),D.str z]]) B2.length [D.str (AA1 "a"),D.str (AA1 "ab"),D.str z]:=ax
    generalize B2++[MO.lst [D.str (AA1 "a"),D.str (AA1 "ab"),D.str z]]=B3 at wm3 t3
    generalize B2.length=k at t3 b2
    #⟨c3,hc3⟩:=wm3.get hn
    !⟨n,c3,3,rfl,hc3,by decide,by decide,λv c4 v0 v3=>⟨_,bI ¤ t3,?_⟩⟩
    #⟨y,ey,hy⟩:=gets z v nz.2.1 v0 v3
    rw[ey]
    have wm4:WM M n (B3.set n (ay c4)):=wm3.set hn _
    #⟨c5,hc5⟩:=wm4.get hn
    ~⟨n,c5,3,rfl,hc5,by decide,by decide,λu c6 u0 u3=>⟨aC ¤,like _ _ _ hy (wm4.set hn _)⟩⟩
   ·rw[beq_eq_false_iff_ne.mpr (show way≠5 by &),beq_iff_eq.mpr e6]
    !bH ⟨⟨aw,aw⟩,bb ⟨n,c2,rfl,hc2,λz B2 nz w2=>⟨aC ¤,?_⟩⟩⟩
    have wm2:=wm1.trans hn w2
    have b2:=wm2.len
    have wm3:=wm2.app [MO.lst [D.str (AA1 "a"),D.str (AA1 "ab"),D.str z]]
    have t3:aA (B2++[MO.lst [D.str (AA1 "a"),D.str (AA1 "ab"),D.str z]]) B2.length [D.str (AA1 "a"),D.str (AA1 "ab"),D.str z]:=ax
    generalize B2++[MO.lst [D.str (AA1 "a"),D.str (AA1 "ab"),D.str z]]=B3 at wm3 t3
    generalize B2.length=k at t3 b2
    #⟨c3,hc3⟩:=wm3.get hn
    !⟨n,c3,3,rfl,hc3,by decide,by decide,λv c4 v0 v3=>⟨_,bI ¤ t3,?_⟩⟩
    #⟨y,ey,hy⟩:=gets z v nz.2.1 v0 v3
    rw[ey]
    have wm4:WM M n (B3.set n (ay c4)):=wm3.set hn _
    #⟨c5,hc5⟩:=wm4.get hn
    ~⟨n,c5,3,rfl,hc5,by decide,by decide,λu c6 u0 u3=>⟨aC ¤,like _ _ _ hy (wm4.set hn _)⟩⟩
  ·rw[beq_eq_false_iff_ne.mpr (show way≠5 by &),beq_eq_false_iff_ne.mpr (show way≠6 by &)]
   !bH ⟨⟨aw,aw⟩,bH ?_⟩
   simp only[zt]
   @"dl"
   obtain⟨j,x,ej,nj,ex,x10⟩:∃(j:Nat) (x:Str),[(7:Int),8,11][j]?=some way/\(∀m,m<j->[(7:Int),8,11][m]?≠some way)/\atI [D.str (AA1 "back"),D.str (AA1 "seen"),D.str (AA1 "rung")] (j:Int)=some (.str x)/\x.length<=10:=by
    have:way=7\/way=8\/way=11:=¤
    rcases this with rfl | rfl | rfl
    ·~⟨0,_,rfl,by decide,bG rfl,by decide +kernel⟩
    ·~⟨1,_,rfl,by decide,bG rfl,by decide +kernel⟩
    ·~⟨2,_,rfl,by decide,bG rfl,by decide +kernel⟩
   !⟨aC ¤,aC ¤,⟨_,ax⟩,[7,8,11],j,ax,by decide,ej,nj,_,.inl (cP bo),?_⟩
   rw[ex]
   ~⟨aC ¤,.inl (h _ _ _ x10 (actP1 bd) ((wm1.app _).app _))⟩
 simp only[xm]
 @"dl"
 !⟨n,q,c1,p::ps,_,sts,rfl,hc1,hq,qn,ok,l1000,few,h1,λd B1 hd w=>go _ _ (bel d hd 1 (by decide)) w,λt d B1 t1 hd w=>go _ _ (sB (n:=1) h8 hd (by decide)) w⟩
¶LL:WpT wD 7 Ji:=by
 rintro ds M R ⟨n,q,c,p,ps,rs,r,sts,rfl,hn,hq,qn,ok,bel,l1000,few,h1,h8,r8,r1,r4,h⟩
 simp only[Ji,Ct]
 @"dl"
 !⟨n,c,12,rfl,hn,by decide,by decide,λway c1 w0 w12=>?_⟩
 have wm1:WM M n (M.set n (ay c1)):=WM.drawn
 have q1:=bI (x:=ay c1) qn hq
 generalize M.set n (ay c1)=B1 at wm1 q1
 #⟨c2,hc2⟩:=wm1.get hn
 rw[AA6]
 !⟨n,c2,rs.length,rfl,hc2,¤,¤,λj c3 j0 j1=>?_⟩
 #⟨jn,hj,ej,_⟩:=gg (xs:=rs.map bP) j0 (by rw[AA6];~j1)
 have wm2:WM M n (B1.set n (ay c3)):=wm1.set hn _
 have q2:=bI (x:=ay c3) qn q1
 generalize B1.set n (ay c3)=B2 at wm2 q2
 dsimp only
 rw[ej,ACN]
 have rm8:=r8 _ (AAn (l:=rs) (by rw[AA6]at hj;~hj))
 generalize rs[jn]'(by rw[AA6]at hj;~hj)=rm at rm8
 rw[show bP rm=.tup [.str rm.1,.tup (rm.2.map .str)]from rfl]
 @"dl"
 generalize rm.1=room at rm8
 simp only[Cs]
 @"dl"
 by_cases w4:way<4
 ·rw[decide_eq_true w4]
  !bb ?_
  have fin:∀(d:D) (B3:Mem),GoodP 3 d->WM M n B3->xp ⟨λS' M'=>xo (EE M R) S' M',aG M R,λ_ _=>False,λ_ _=>False⟩ [some (.ref n),some (.tup (aK p::ps.map aK)::.tup (rs.map bP)::r |> .tup),some (.ref q),some (.int way),some (.str room),some d,none] B3:=λd B3 bd wm3=>by
   #⟨c4,hc4⟩:=wm3.get hn
   simp only[xp]
   @"dl"
   ~⟨n,c4,p,ps,_,rfl,hc4,few,h8,λx B4 hx w4=>⟨aC ¤,.inl (h _ _ _ (by decide +kernel) (Ox (ff ¤) bd (ff hx)) (wm3.trans hn w4))⟩⟩
  #⟨c4,hc4⟩:=wm2.get hn
  simp only[Cr]
  @"dl"
  !⟨n,c4,2,rfl,hc4,by decide,by decide,λv c5 v0 v2=>⟨⟨aw,aw⟩,?_⟩⟩
  have wm3:WM M n (B2.set n (ay c5)):=wm2.set hn _
  have q3:=bI (x:=ay c5) qn q2
  generalize B2.set n (ay c5)=B3 at wm3 q3
  #⟨c6,hc6⟩:=wm3.get hn
  cases eqD B3 eqN (.int v) (.int 1) with
  | true=>~bb ⟨n,q,c6,p::ps,_,sts,rfl,hc6,q3,qn,ok,l1000,few,h1,λd B4 hd w=>fin _ _ (bel d hd 1 (by decide)) (wm3.trans hn w),λt d B4 t1 hd w=>fin _ _ (sB (n:=1) h8 hd (by decide)) (wm3.trans hn w)⟩
  | false=>~bH (fin _ _ NF wm3)
 rw[decide_eq_false w4]
 !bH ?_
 #⟨c4,hc4⟩:=wm2.get hn
 simp only[xo]
 @"dl"
 !⟨⟨aw,aw⟩,?_⟩
 rw[bU]
 by_cases e9:way=9
 ·rw[beq_iff_eq.mpr e9]
  !bb ⟨n,c4,p::ps,_,rfl,hc4,few,λvs B3 vok w3=>⟨aC ¤,.inl (h _ _ _ (by decide +kernel) (Lx (ff ¤) (NE h8 few vok)) (wm2.trans hn w3))⟩⟩
 rw[beq_eq_false_iff_ne.mpr e9]
 !bH ?_
 simp only[Cq]
 @"dl"
 !⟨⟨aw,aw⟩,?_⟩
 rw[bU]
 by_cases e10:way=10
 ·rw[beq_iff_eq.mpr e10]
  !bb ⟨n,q,c4,p::ps,rs,r,sts,rfl,hc4,q2,qn,ok,bel,h8,r8,l1000,few,h1,by simp,r1,r4,λd B3 bd w3=>?_⟩
  have wm3:=wm2.trans hn w3
  #⟨c5,hc5⟩:=wm3.get hn
  ~⟨n,c5,2,rfl,hc5,by decide,by decide,λv c6 v0 v2=>⟨⟨aw,aw⟩,aC ¤,.inl (h _ _ _ (by decide +kernel) (Lx bd NG) (wm3.set hn _))⟩⟩
 rw[beq_eq_false_iff_ne.mpr e10]
 !bH ?_
 ~act_7 hn wm2 q2 qn ok bel l1000 few h1 h8 ¤ h
include T C_take C_word C_saying C_stamp C_vector C_what in
¶MQ:Cal P w K mg base 4 "_law_act" Dv wD :=
 Cal.byH T.f_act qt Kj (La T C_take C_word C_saying C_stamp C_vector C_what) LL
variable(C_act:Cal P w K mg base 4 "_law_act" Dv wD)
¶NH{M:Mem}{n:Nat}{c c':Int}(h:M[n]?=some (ay c)):∀(k:Nat) (d:D),gdD M k d=true->gdD (M.set n (ay c')) k d=true:=by
 intro k
 induction k with
 | zero=>intro d hd;cases d<;>first | ~hd | cases hd
 | succ k ih =>
  intro d hd
  cases d with
  | tup xs =>
   have h':(decide (xs.length<=40)&&xs.all (gdD M k))=true:=hd
   rw[AAD,AAK]at h'
   show (decide (xs.length<=40)&&xs.all (gdD (M.set n (ay c')) k))=true
   rw[AAD,AAK]
   ~⟨h'.1,λx hx=>ih x (h'.2 x hx)⟩
  | ref i =>
   simp only[gdD]at hd ⊢
   by_cases e:n=i
   ·subst e
    rw[hZ h]
    show (true&&([D.int c'].all (gdD (M.set n (ay c')) k)))=true
    cases k<;>rfl
   ·rw[AAt e]
    cases e2:M[i]? with
    | none=>rw[e2]at hd;cases hd
    | some a =>
     rw[e2]at hd
     simp only[AAD,AAK]at hd ⊢
     ~⟨hd.1,λx hx=>ih x (hd.2 x hx)⟩
  | _=>~hd
¶Gdn.wm{M B:Mem}{n k:Nat}{c:Int}{d:D}(g:Gdn M k d)(h:M[n]?=some (ay c))(w:WM M n B):Gdn B k d:=by
 #⟨c',L,rfl⟩:=w
 ~⟨g.1,ED (ABK _ _) _ _ (NH h _ _ g.2)⟩
def FG(d:D):Prop:=∀xs,d=.tup xs->xs.length<=40
¶cR{d:D}(h:∀xs,d≠.tup xs):FG d:=λxs e=>absurd e (h xs)
¶Gdn.few{M:Mem}{n:Nat}{d:D}(g:Gdn M n d):FG d:=λxs e=>by subst e;~g.tup.1
def cg:Nat->DSp:=λf ds M R=>∃(n:Nat) (c k:Int),ds=[.ref n,.int k]/\M[n]?=some (ay c)/\0<=k/\k<f/\k<=5/\∀(d:D) (B:Mem),WM M n B->Gdn B k.toNat d->FG d->R d B
¶Ed:∀n ds M R,cg n ds M R->ds.length=["_law_well_here","_law_depth"].length:=by rintro n ds M R ⟨n,c,k,rfl,_⟩;rfl
¶DH:∀ds M R,¬cg 0 ds M R:=by
 rintro ds M R ⟨n,c,k,rfl,_,h0,h1,_⟩
 &
¶mj:FnScope Fy nV (ak xB):=by @"sc"
def tZ(n:Nat):DTS:=aU (dOp qIx (af 3) (dCB aD (ab (af 0) (ab (dC (.int 11)) ao))))
def mz(n:Nat):DTS:=aR (db (gf (ab (dC .non) (ab (dC (.bl true)) (ab (dC (.bl false)) (ab (dC (.int 0)) (ab (dC (.int 1)) (ab (dUn Mf (dC (.int 1))) (ab (dOp FE (dCB aD (ab (af 0) (ab (dOp Io (dC (.int 10)) (dC (.int 12))) ao))) (dOp Io (dC (.int 10)) (dC (.int 6)))) (ab (dC (.str "")) (ab (dC (.str "a")) (ab (dC (.str "room")) (ab (dC (.str "say")) ao)))))))))))) 3) (tZ n)
def mB(n:Nat):DTS:=aU (dOp qIx (gf (ab (dCB iK (ab (af 3) ao)) (ab (af 3) ao))) (dCB aD (ab (af 0) (ab (dC (.int 2)) ao))))
def ua(n:Nat):DTS:=aR (dIf (Fb (az (dOp qLt (af 2) (dC (.int 2)))) (az (dOp qGt (af 1) (dC (.int 0))))) (aR (qG 1 [0,1] (eV (ab (dCB aD (ab (af 0) (ab (dC (.int 4)) ao))) ao)) (aH 0) oV (dCB (cg n) (ab (af 1) (ab (dOp FE (af 2) (dC (.int 1))) ao))) 3) (mB n)) aO) (mz n)
def xf(n:Nat):DTS:=aR (db (dCB aD (ab (af 0) (ab (dC (.int 8)) ao))) 2) (ua n)
include T C_take in
¶EU(n:Nat)(C_thing:Cal P w K mg base (1+n) "_law_thing" nV (cg n)):cW P w K mg base (1+n) "_law_thing" Fy xB (xf n):=λ_ _ _ _ _ _ _ hr =>
  ah (aN mj.nd (ar C_take hr (aa ac (aa ae ad)) (hj:=cK (by kernel_rfl))))
  (ah (aP (pS (qD (aE sy ac ae) (kT (aE vP ac ae)))) (ah (su mj.nd (N':=["_law_k","_law_well_here","_law_depth"]) (nt:=1) (js:=[0,1]) (ef T.b_range (aa (ar C_take hr (aa ac (aa ae ad)) (hj:=cK (by kernel_rfl))) ad)) (λ_ _ _ _=>bv (show AB4 (["_law_k","_law_well_here","_law_depth"]:List Str) by decide +kernel)) (λ_ _ _ _=>bZ) (λ_ _ _ _=>ar C_thing hr (aa ac (aa (bO vO ac ae) ad)) (hj:=Ad _)))
  (al (am (aX (cq (aa (eK iA T.b_tuple bp (aa ac ad)) (aa ac ad))) (ar C_take hr (aa ac (aa ae ad)) (hj:=cK (by kernel_rfl))))))) aB)
  (ah (aN mj.nd (cq (aa Hb (aa jr (aa jr (aa ae (aa ae (aa (k_un Nt ae) (aa (bO vO (ar C_take hr (aa ac (aa (bO zT ae ae) ad)) (hj:=cK (by kernel_rfl))) (bO zT ae ae)) (aa aY (aa aY (aa aY (aa aY ad)))))))))))))
  (al (am (aX ac (ar C_take hr (aa ac (aa ae ad)) (hj:=cK (by kernel_rfl))))))))
¶Cc{M B:Mem}{R:DK}{n f:Nat}{c k:Int}{y2 y3:Option D}(hn:M[n]?=some (ay c))(k5:k<=5)(wm:WM M n B)(h:∀(d:D) (B:Mem),WM M n B->Gdn B k.toNat d->FG d->R d B) :
  mz f (EE M R) [some (.ref n),some (.int k),y2,y3] B:=by
 #⟨c1,hc1⟩:=wm.get hn
 simp only[mz]
 @"dl"
 !⟨by unfold LH;decide,n,c1,_,rfl,hc1,by decide,by decide,λi c2 i0 i1=>⟨by unfold LH;decide,aC ¤,?_⟩⟩
 have wm2:WM M n (B.set n (ay c2)):=wm.set hn _
 have bl:=wm2.len
 generalize B.set n (ay c2)=B2 at wm2 bl
 have kk:k.toNat<=30:=¤
 have all:∀C:Mem,∀x∈[D.non,D.bl true,D.bl false,D.int 0,D.int 1,D.int (-1),D.int (i-10 ^ ACG 6),D.str (AA1 ""),D.str (AA1 "a"),D.str (AA1 "room"),D.str (AA1 "say")],Gdn C k.toNat x/\FG x:=λC x hx=>by
  simp only[AAH,AAf,or_false]at hx
  rcases hx with rfl | rfl | rfl | rfl | rfl | rfl | rfl | rfl | rfl | rfl | rfl
  ·~⟨IE kk,cR λ_ z=>by cases z⟩
  ·~⟨KG kk,cR λ_ z=>by cases z⟩
  ·~⟨KG kk,cR λ_ z=>by cases z⟩
  ·~⟨vU kk,cR λ_ z=>by cases z⟩
  ·~⟨vU kk,cR λ_ z=>by cases z⟩
  ·~⟨vU kk,cR λ_ z=>by cases z⟩
  ·~⟨vU kk,cR λ_ z=>by cases z⟩
  ·~⟨qF (by decide +kernel) kk,cR λ_ z=>by cases z⟩
  ·~⟨qF (by decide +kernel) kk,cR λ_ z=>by cases z⟩
  ·~⟨qF (by decide +kernel) kk,cR λ_ z=>by cases z⟩
  ·~⟨qF (by decide +kernel) kk,cR λ_ z=>by cases z⟩
 have len:([D.non,D.bl true,D.bl false,D.int 0,D.int 1,D.int (-1),D.int (i-10 ^ ACG 6),D.str (AA1 ""),D.str (AA1 "a"),D.str (AA1 "room"),D.str (AA1 "say")]).length=11:=rfl
 generalize [D.non,D.bl true,D.bl false,D.int 0,D.int 1,D.int (-1),D.int (i-10 ^ ACG 6),D.str (AA1 ""),D.str (AA1 "a"),D.str (AA1 "room"),D.str (AA1 "say")]=some at all len
 have wm3:=wm2.app [MO.lst some]
 have l3:aA (B2++[MO.lst some]) B2.length some:=ax
 have nM:n<M.length:=(AA2.mp hn).1
 generalize B2++[MO.lst some]=B3 at wm3 l3
 generalize B2.length=q at l3 bl
 #⟨c3,hc3⟩:=wm3.get hn
 simp only[tZ]
 @"dl"
 !⟨n,c3,11,rfl,hc3,by decide,by decide,λj c4 j0 j1=>⟨some,bI ¤ l3,?_⟩⟩
 #⟨jn,hj,ej,_⟩:=gg (xs:=some) j0 ¤
 rw[ej]
 have:=all (B3.set n (ay c4)) _ (AAn hj)
 ~.inl (h _ _ (wm3.set hn _) this.1 this.2)
¶Jf{M B:Mem}{R:DK}{E:DEnds}{n f q:Nat}{c k:Int}{acc:List D}{y2:Option D}(hn:M[n]?=some (ay c))(k1:1<=k)(k5:k<=5)(wm:WM M n B)(hq:B[q]?=some (.lst acc))(qM:M.length<=q)(a3:acc.length<=3)(ga:∀x∈acc,Gdn B (k-1).toNat x)(hE:E.rt=aG M R)(h:∀(d:D) (B:Mem),WM M n B->Gdn B k.toNat d->FG d->R d B) :
  mB f E [some (.ref n),some (.int k),y2,some (.ref q)] B:=by
 have nM:n<M.length:=(AA2.mp hn).1
 have ek:k.toNat=(k-1).toNat+1:=¤
 have bl:=wm.len
 have qB:q<B.length:=(AA2.mp hq).1
 simp only[mB]
 @"dl"
 !⟨acc,.inl hq,aC ¤,?_⟩
 have wm2:=wm.app [MO.lst [D.tup acc,D.ref q]]
 have hq2:=aW (a:=MO.lst [D.tup acc,D.ref q]) hq
 have l2:aA (B++[MO.lst [D.tup acc,D.ref q]]) B.length [D.tup acc,D.ref q]:=ax
 have ga2:∀x∈acc,Gdn (B++[MO.lst [D.tup acc,D.ref q]]) (k-1).toNat x:=λx hx=>(ga x hx).grow rM
 generalize B++[MO.lst [D.tup acc,D.ref q]]=B2 at wm2 hq2 l2 ga2
 generalize B.length=p at l2 bl qB
 #⟨c2,hc2⟩:=wm2.get hn
 !⟨n,c2,2,rfl,hc2,by decide,by decide,λi c3 i0 i2=>⟨_,bI ¤ l2,?_⟩⟩
 have wm3:WM M n (B2.set n (ay c3)):=wm2.set hn _
 have ga3:∀x∈acc,Gdn (B2.set n (ay c3)) (k-1).toNat x:=λx hx=>(ga2 x hx).wm hc2 WM.drawn
 have hq3:(B2.set n (ay c3))[q]?=some (.lst acc):=bK ¤ hq2
 rw[hE]
 have:i=0\/i=1:=¤
 rcases this with rfl | rfl
 ·rw[at0]
  !.inl (h _ _ wm3 ?_ λxs e=>?_)
  ·rw[ek];~Gdn.mk ¤ ¤ ga3
  ·injection e with e;subst e;&
 ·rw[at1]
  !.inl (h _ _ wm3 ?_ (cR λ_ z=>by cases z))
  rw[ek];~Gdn.mkr (.inl hq3) ¤ ga3
¶FO:∀n ds M R,cg (n+1) ds M R->xf n (EE M R) (cQ ["_law_well_here","_law_depth","_law_way","_law_some"] ds) M:=by
 rintro f ds M R ⟨n,c,k,rfl,hn,k0,kf,k5,h⟩
 have nM:n<M.length:=(AA2.mp hn).1
 simp only[xf,ua]
 @"dl"
 !⟨n,c,8,rfl,hn,by decide,by decide,λi c2 i0 i8=>?_⟩
 have wm2:WM M n (M.set n (ay c2)):=WM.drawn
 generalize M.set n (ay c2)=B2 at wm2
 dsimp only
 cases decide (i<2) with
 | false=>~bH (Cc hn k5 wm2 h)
 | true =>
  !bb ?_
  by_cases hk:0<k
  ·rw[decide_eq_true hk]
   #⟨c3,hc3⟩:=wm2.get hn
   !bb ⟨n,c3,4,rfl,hc3,by decide,by decide,λj c4 j0 j4=>⟨⟨¤,¤⟩,?_⟩⟩
   have wm4:WM M n (B2.set n (ay c4)):=wm2.set hn _
   generalize B2.set n (ay c4)=B4 at wm4
   !eM (λxs acc S M'=>∃a,S=[a,some (.ref n),some (.int k)]/\WM M n M'/\acc.length+xs.length<=3/\∀x∈acc,Gdn M' (k-1).toNat x) ?_ ?_ _ _ _ _ ⟨_,rfl,wm4,by rw[eJ,AAW];&,λ_ z=>nomatch z⟩
   ·rintro acc S M' ⟨a,rfl,wm,hl,ga⟩
    ~⟨trivial,Jf hn ¤ k5 (wm.app _) bo wm.len (by simpa using hl) (λx hx=>(ga x hx).grow rM) rfl h⟩
   ·rintro y xs acc S M' ⟨a,rfl,wm,hl,ga⟩ K hK
    #⟨c5,hc5⟩:=wm.get hn
    !⟨trivial,?_⟩
    @"dl"
    rw[AAA]at hl
    !⟨n,c5,k-1,rfl,hc5,¤,¤,¤,λd B w g fw=>⟨small1000 ¤,hK _ _ _ ⟨_,rfl,wm.trans hn w,by rw[AA8,AAX];&,λx hx=>?_⟩⟩⟩
    rcases AAk.mp hx with hx | hx
    ·~(ga x hx).wm hc5 w
    ·rw[AAY.mp hx];~g
  ·rw[decide_eq_false hk]
   ~bH (Cc hn k5 wm2 h)
include T C_take in
¶zJ:∀n,Cal P w K mg base (1+n) "_law_thing" nV (cg n)
 | 0=>Cal.never T.f_thing DH
 | n+1=>Cal.byH T.f_thing mj (Ed (n+1)) (EU T C_take n (zJ n)) (FO n)
variable(C_thing:Cal P w K mg base 6 "_law_thing" nV (cg 5))
def ii:Nat->DSp:=λf ds M R=>∃(n m q:Nat) (c k:Int) (d:D),ds=[d,.ref n,.int k]/\M[n]?=some (ay c)/\0<=k/\k<f/\k+3<=m/\Gdn M m d/\smD q d=true/\∀(d:D) (B:Mem),WM M n B->Gdn B m d->FG d->R d B
¶GT:∀n ds M R,ii n ds M R->ds.length=["_law_thing_here","_law_well_here","_law_depth"].length:=by rintro n ds M R ⟨n,m,q,c,k,d,rfl,_⟩;rfl
¶GH:∀ds M R,¬ii 0 ds M R:=by
 rintro ds M R ⟨n,m,q,c,k,d,rfl,_,h0,h1,_⟩
 &
¶Hq{M:Mem}{m:Nat}{xs:List D}(hm:m+1<=30)(h:∀x∈xs,Gdn M m x)(hl:xs.length<=40):Gdn M (m+1) (.tup xs)/\FG (.tup xs):=⟨Gdn.mk ¤ hm h,λys e=>by injection e with e;subst e;~hl⟩
¶ke{M:Mem}{m:Nat}{xs:List D}{lo hi:Option Int}(h:∀x∈xs,Gdn M m x):∀x∈cutD xs lo hi,Gdn M m x:=λx hx=>h x (Ll hx)
¶yy{M B:Mem}{n m:Nat}{c:Int}{xs:List D}(h:∀x∈xs,Gdn M m x)(hn:M[n]?=some (ay c))(w:WM M n B):∀x∈xs,Gdn B m x:=λx hx=>(h x hx).wm hn w
¶xx:FnScope IV uZ (ak CV):=by @"sc"
def zk(n:Nat):DTS:=aU (dOp bf (dOp bf (dSl (af 0) bA (dq (af 3))) (gh (ab (dCB (ii n) (ab (dOp qIx (af 0) (af 3)) (ab (af 1) (ab (dOp FE (af 2) (dC (.int 1))) ao)))) ao))) (dSl (af 0) (dq (dOp bf (af 3) (dC (.int 1)))) bA))
def zm(n:Nat):DTS:=aR (dIf (az (dOp qEq (af 2) (dC (.int 0)))) (aU (dOp bf (dOp bf (dSl (af 0) bA (dq (af 3))) (gh (ab (dCB (cg 5) (ab (af 1) (ab (dC (.int 1)) ao))) ao))) (dSl (af 0) (dq (dOp bf (af 3) (dC (.int 1)))) bA))) aO) (zk n)
def zn(n:Nat):DTS:=aR (dIf (az (dOp qEq (af 4) (dC (.int 3)))) (aU (dOp bf (dOp bf (dSl (af 0) bA (dq (af 3))) (dSl (af 0) (dq (af 3)) (dq (dOp bf (af 3) (dC (.int 1)))))) (dSl (af 0) (dq (af 3)) bA))) aO) (zm n)
def zo(n:Nat):DTS:=aR (dIf (az (dOp qEq (af 4) (dC (.int 2)))) (aU (dCB Dd (ab (af 0) ao))) aO) (zn n)
def zp(n:Nat):DTS:=aR (dIf (az (dOp qEq (af 4) (dC (.int 1)))) (aU (dOp bf (dOp bf (dSl (af 0) bA (dq (af 3))) (gh (ab (dCB (cg 5) (ab (af 1) (ab (dC (.int 1)) ao))) ao))) (dSl (af 0) (dq (af 3)) bA))) aO) (zo n)
def rp(n:Nat):DTS:=aR (dIf (az (dOp qEq (af 4) (dC (.int 0)))) (aU (dOp bf (dSl (af 0) bA (dq (af 3))) (dSl (af 0) (dq (dOp bf (af 3) (dC (.int 1)))) bA))) aO) (zp n)
def zq(n:Nat):DTS:=aR (db (dCB aD (ab (af 1) (ab (dC (.int 6)) ao))) 4) (rp n)
def zr(n:Nat):DTS:=aR (db (dCB aD (ab (af 1) (ab (dCB jo (ab (af 0) ao)) ao))) 3) (zq n)
def Co(n:Nat):DTS:=aR (dIf (dOr (gi (az (dCB iq (ab (af 0) (ab (dC (.ty "tuple")) ao))))) (dOr (az (dOp qEq (af 0) (gh ao))) (az (dOp qEq (dCB aD (ab (af 1) (ab (dC (.int 5)) ao))) (dC (.int 0)))))) (aU (dCB (cg 5) (ab (af 1) (ab (dC (.int 2)) ao)))) aO) (zr n)
include T C_take C_thing in
¶HN(n:Nat)(C_bent:Cal P w K mg base (6+n) "_law_bent" uZ (ii n)):cW P w K mg base (6+n) "_law_bent" IV CV (Co n):=λ_ _ _ _ _ _ _ hr =>
  ah (aP (pS (eS (bj (bm (av br T.b_isinstance aq (aa ac (aa (bq T.b_tuple bp) ad))))) (eS (aE (bc hr) ac (ck ad)) (dZ (aE (bc hr) (ar C_take hr (aa ac (aa ae ad)) (hj:=cK (by kernel_rfl))) ae))))) (al (am (ar C_thing hr (aa ac (aa ae ad)) (hj:=cK (by kernel_rfl))))) aB)
  (ah (aN xx.nd (ar C_take hr (aa ac (aa (av bJ T.b_len bL (aa ac ad)) ad)) (hj:=cK (by kernel_rfl))))
  (ah (aN xx.nd (ar C_take hr (aa ac (aa ae ad)) (hj:=cK (by kernel_rfl))))
  (ah (aP (aE (bc hr) ac ae) (al (am (bO aF (bF ac (bT) (bt ac)) (bF ac (bt (bO aF ac ae)) (bT))))) aB)
  (ah (aP (aE (bc hr) ac ae) (al (am (bO aF (bO aF (bF ac (bT) (bt ac)) (ck (aa (ar C_thing hr (aa ac (aa ae ad)) (hj:=cK (by kernel_rfl))) ad))) (bF ac (bt ac) (bT))))) aB)
  (ah (aP (aE (bc hr) ac ae) (al (am (eK KD T.b_list Lr (aa ac ad)))) aB)
  (ah (aP (aE (bc hr) ac ae) (al (am (bO aF (bO aF (bF ac (bT) (bt ac)) (bF ac (bt ac) (bt (bO aF ac ae)))) (bF ac (bt ac) (bT))))) aB)
  (ah (aP (aE (bc hr) ac ae) (al (am (bO aF (bO aF (bF ac (bT) (bt ac)) (ck (aa (ar C_thing hr (aa ac (aa ae ad)) (hj:=cK (by kernel_rfl))) ad))) (bF ac (bt (bO aF ac ae)) (bT))))) aB)
  (al (am (bO aF (bO aF (bF ac (bT) (bt ac)) (ck (aa (ar C_bent hr (aa (aX ac ac) (aa ac (aa (bO vO ac ae) ad))) (hj:=Ad _)) ad))) (bF ac (bt (bO aF ac ae)) (bT))))))))))))
¶Os{M B:Mem}{R:DK}{n m q f:Nat}{c k i j:Int}{xs:List D}(hn:M[n]?=some (ay c))(k0:0<=k)(kf:k<f+1)(km:k+3<=m)(m30:m<=30)(x12:xs.length<=12)(gx:∀x∈xs,Gdn B (m-1) x)(sx:∀x∈xs,smD q x=true)(j0:0<=j)(jl:j<xs.length)(wm:WM M n B)(h:∀(d:D) (B:Mem),WM M n B->Gdn B m d->FG d->R d B) :
  rp f (EE M R) [some (.tup xs),some (.ref n),some (.int k),some (.int j),some (.int i)] B:=by
 #⟨c1,hc1⟩:=wm.get hn
 have em:m=(m-1)+1:=¤
 have fin:∀(ys:List D) (C:Mem),WM M n C->(∀y∈ys,Gdn C (m-1) y)->ys.length<=40->R (.tup ys) C:=λys C w g l=>by
  have:=Hq (m:=m-1) ¤ g l
  rw[←em]at this
  ~h _ _ w this.1 this.2
 have cl:∀lo hi,(cutD xs lo hi).length<=12:=λlo hi=>by have:=Lm (xs:=xs) (lo:=lo) (hi:=hi);&
 have put:∀(e:Int),cg 5 [.ref n,.int 1] B λd M1=>1<=sizeLine/\(cutD xs none (some j)).length+1<=sizeLine/\(cutD xs none (some j)++[d]).length+(cutD xs (some e) none).length<=sizeLine/\aG M R (.tup (cutD xs none (some j)++[d]++cutD xs (some e) none)) M1:=λe=>by
  have l1:=cl none (some j)
  have l2:=cl (some e) none
  ~⟨n,c1,1,rfl,hc1,by decide,by decide,by decide,λd C w gd fw=>⟨aC ¤,aC ¤,aC (by rw[AA8,AAX];&),.inl (fin _ _ (wm.trans hn w) (oK (oK (ke (yy gx hc1 w)) λy hy=>by rw[AAY.mp hy];~gd.mono (show 1<=m-1 by &) ¤) (ke (yy gx hc1 w))) (by rw[AA8,AA8,AAX];&))⟩⟩
 simp only[rp]
 @"dl"
 !⟨⟨aw,aw⟩,?_⟩
 cases eqD B eqN (.int i) (.int 0) with
 | true =>
  have l1:=cl none (some j)
  have l2:=cl (some (j+1)) none
  ~bb ⟨aC ¤,.inl (fin _ _ wm (oK (ke gx) (ke gx)) (by rw[AA8];&))⟩
 | false =>
  !bH ?_
  simp only[zp]
  @"dl"
  !⟨⟨aw,aw⟩,?_⟩
  cases eqD B eqN (.int i) (.int 1) with
  | true=>~bb (put j)
  | false =>
   !bH ?_
   simp only[zo]
   @"dl"
   !⟨⟨aw,aw⟩,?_⟩
   cases eqD B eqN (.int i) (.int 2) with
   | true =>
    !bb (.inl (h _ _ (wm.app _) ?_ (cR λ_ z=>by cases z)))
    rw[em]
    ~Gdn.mkr (xs:=xs) ax ¤ λx hx=>(gx x hx).grow rM
   | false =>
    !bH ?_
    simp only[zn]
    @"dl"
    !⟨⟨aw,aw⟩,?_⟩
    cases eqD B eqN (.int i) (.int 3) with
    | true =>
     have l1:=cl none (some j)
     have l2:=cl (some j) (some (j+1))
     have l3:=cl (some j) none
     ~bb ⟨aC ¤,aC (by rw[AA8];&),.inl (fin _ _ wm (oK (oK (ke gx) (ke gx)) (ke gx)) (by rw[AA8,AA8];&))⟩
    | false =>
     !bH ?_
     simp only[zm]
     @"dl"
     !⟨⟨aw,aw⟩,?_⟩
     rw[bU]
     cases hk:(k==0) with
     | true=>~bb (put (j+1))
     | false =>
      !bH ?_
      have k1:k≠0:=by simpa using hk
      simp only[zk]
      @"dl"
      #⟨jn,hj,ej,_⟩:=gg (xs:=xs) j0 jl
      rw[ej]
      have l1:=cl none (some j)
      have l2:=cl (some (j+1)) none
      !⟨n,m-1,q,c1,k-1,_,rfl,hc1,¤,¤,¤,gx _ (AAn hj),sx _ (AAn hj),λd C w gd fw=>⟨aC ¤,aC ¤,aC (by rw[AA8,AAX];&),.inl (fin _ _ (wm.trans hn w) (oK (oK (ke (yy gx hc1 w)) λy hy=>by rw[AAY.mp hy];~gd) (ke (yy gx hc1 w))) (by rw[AA8,AA8,AAX];&))⟩⟩
¶Jd:∀n ds M R,ii (n+1) ds M R->Co n (EE M R) (cQ ["_law_thing_here","_law_well_here","_law_depth","_law_at","_law_way"] ds) M:=by
 rintro f ds M R ⟨n,m,q,c,k,d,rfl,hn,k0,kf,km,g,sm,h⟩
 have m30:=g.1
 have any:∀(C:Mem),WM M n C->cg 5 [.ref n,.int 2] C (aG M R):=λC wm=>by
  #⟨c1,hc1⟩:=wm.get hn
  ~⟨n,c1,2,rfl,hc1,by decide,by decide,by decide,λd B w gd fw=>.inl (h _ _ (wm.trans hn w) (gd.mono (show 2<=m by &) g.1) fw)⟩
 simp only[Co]
 rcases iI M g with⟨xs,rfl⟩|⟨e1,e2⟩
 ·#⟨x12,q1,rfl,sx⟩:=Jn sm
  #⟨_,m1,rfl,gx⟩:=g.tup
  @"dl"
  !⟨by decide,?_⟩
  rw[show iw "tuple" "tuple" = true from rfl]
  @"ifs"
  !⟨AAT _,⟨g.ok,rfl⟩,?_⟩
  cases xs with
  | nil=>~bb (any _ (WM.now hn))
  | cons x xs =>
   !bH ⟨n,c,5,rfl,hn,by decide,by decide,λv c2 v0 v5=>⟨⟨aw,aw⟩,?_⟩⟩
   have wm2:WM M n (M.set n (ay c2)):=WM.drawn
   have gx2:=yy gx hn wm2
   generalize M.set n (ay c2)=B2 at wm2 gx2
   generalize hX:x::xs=X at gx2 sx x12
   have x1:1<=X.length:=by rw[←hX];simp
   cases eqD B2 eqN (.int v) (.int 0) with
   | true=>~bb (any _ wm2)
   | false =>
    !bH ?_
    #⟨c3,hc3⟩:=wm2.get hn
    simp only[zr]
    @"dl"
    !⟨n,c3,_,rfl,hc3,¤,¤,λj c4 j0 j1=>?_⟩
    have wm4:WM M n (B2.set n (ay c4)):=wm2.set hn _
    have gx4:=yy gx2 hc3 (WM.drawn (c:=c4))
    generalize B2.set n (ay c4)=B4 at wm4 gx4
    #⟨c5,hc5⟩:=wm4.get hn
    simp only[zq]
    @"dl"
    !⟨n,c5,6,rfl,hc5,by decide,by decide,λi c6 i0 i6=>?_⟩
    have wm6:WM M n (B4.set n (ay c6)):=wm4.set hn _
    have gx6:=yy gx4 hc5 (WM.drawn (c:=c6))
    ~Os hn k0 ¤ km m30 x12 gx6 sx j0 j1 wm6 h
 ·@"dl"
  !⟨⟨g.thing.1,by decide⟩,?_⟩
  simp only[tyD]at e1
  rw[e1]
  @"ifs"
  ~any _ (WM.now hn)
include T C_take C_thing in
¶DC:∀n,Cal P w K mg base (6+n) "_law_bent" uZ (ii n)
 | 0=>Cal.never T.f_bent GH
 | n+1=>Cal.byH T.f_bent xx (GT (n+1)) (HN T C_take C_thing n (DC n)) (Jd n)
variable(C_bent:Cal P w K mg base 11 "_law_bent" uZ (ii 5))
def bx:DSp:=λds M R=>∃(k:Int) (d:D),ds=[d,.int k]/\tyD M d∈pG/\R (.bl (aV k d)) M
¶pQ:du bx cY:=by rintro ds M R ⟨k,d,rfl,_⟩;rfl
¶rC:FnScope lT cY (ak gI):=by @"sc"
def gk:DTS:=aU (bV (dCB iq (ab (af 0) (ab (dC (.ty "int")) ao))) (bV (Fa (dCB iq (ab (af 0) (ab (dC (.ty "bool")) ao)))) (dOp qGe (af 0) (af 1))))
include T in
¶pU:cW P w K mg base 0 "_law_is_whole" lT gI gk:=λ_ _ _ _ _ _ _ hr =>
  al (am (cB (av br T.b_isinstance aq (aa ac (aa (bq T.b_int IM) ad))) (cB (Nm (av br T.b_isinstance aq (aa ac (aa (bq T.b_bool jw) ad)))) (da (er Nw ac ac)))))
¶qO:WpT bx 2 gk:=by
 rintro ds M R ⟨k,d,rfl,ht,h⟩
 unfold gk
 cases d with
 | ref n =>
  have e:=bW ht
  simp only[tyD]at e
  @"dl"
  simp only[e]
  ~⟨by decide,bH (aG.now h)⟩
 | ty n=>simp only[tyD]at ht;~absurd ht (by decide)
 | int i=>@"dl";~⟨by decide,bb ⟨by decide,bb (aG.now h)⟩⟩
 | bl i=>@"dl";~⟨by decide,bb ⟨by decide,bH (aG.now h)⟩⟩
 | _=>@"dl";~⟨by decide,bH (aG.now h)⟩
include T in
¶rO:Cal P w K mg base 1 "_law_is_whole" cY bx :=
 Cal.byH T.f_l_is_whole rC pQ (pU T) qO
variable(C_l_is_whole:Cal P w K mg base 1 "_law_is_whole" cY bx)
¶Ie{ps:List (Str×Int)}(nd:(ps.map (·.1)).Nodup)(x:Str)(k:Int)(h0:0<=k):(ps.any λp=>(p.1==x)&&decide (k<p.2))=decide (k<gZ ps (.str x)):=by
 induction ps with
 | nil =>
  show false=decide (k<0)
  rw[decide_eq_false ¤]
 | cons p ps ih =>
  rw[AAL,ABG]at nd
  rw[ABe,ih nd.2,om p ps (.str x) []]
  show ((p.1==x)&&decide (k<p.2)||_)=decide (k<if (p.1==x)=true then p.2 else gZ ps (.str x))
  by_cases e:p.1=x
  ·subst e
   have e0:gZ ps (.str p.1)=0:=by
    show ((ps.find? λq=>decide (q.1=p.1)).map (·.2)).getD 0=0
    rw[List.find?_eq_none.mpr λq hq z=>nd.1 (AAN.mpr ⟨q,hq,by simpa using z⟩)]
    rfl
   rw[e0,beq_self_eq_true,decide_eq_false (show ¬k<0 by &)]
   simp
  ·rw[show (p.1==x)=false by simpa using e]
   simp
def cy:DSp:=λds M R=>∃(n:Nat) (ps:List (Str×Int)) (r:List D) (d:D),ds=[.tup (.tup (ps.map aK)::r),d]/\(ps.map (·.1)).Nodup/\Gdn M n d/\R (.bl (bM ps d)) M
¶rX:du cy dN:=by rintro ds M R ⟨n,ps,r,d,rfl,_⟩;rfl
¶qE{ps:List (Str×Int)}{d:D}(h:∀a b,d≠.tup [a,b]):bM ps d=false:=by
 unfold bM
 split
 ·~absurd rfl (h _ _)
 ·rfl
¶eu{ps:List (Str×Int)}{a b:D}(h:∀x,a≠.str x):bM ps (.tup [a,b])=false:=by
 rw[Bool.eq_false_iff]
 intro z
 #⟨x,k,e⟩:=sA z
 simp at e
 ~h x e.1
¶vW{α:Type}(p:α->Bool)(l:List α):(l.filter p).isEmpty = !l.any p:=by
 induction l with
 | nil=>rfl
 | cons a l ih =>
  rw[List.filter_cons,ABe]
  cases e:p a with
  | true=>simp
  | false=>simpa using ih
def Mr(x:Str)(k:Int):D->Bool
 | .tup [.str y,.int m]=>(y==x)&&decide (k<m)
 | _=>false
¶uE:FnScope pj dN (ak jc):=by @"sc"
def jC:DTS:=aU (dOp qNe (dLC 2 [1] (cN (dOp qIx (af 0) (dC (.int 0)))) (iF 2 (bw (aH 0) (bw (aH 1) iG))) (Fb (az (dOp qEq (af 0) (dOp qIx (af 2) (dC (.int 0))))) (az (dOp qLt (dOp qIx (af 2) (dC (.int 1))) (af 1)))) (af 0)) (gf ao))
def jD:DTS:=aR (dIf (gi (az (dCB bx (ab (dOp qIx (af 1) (dC (.int 1))) (ab (dC (.int 0)) ao))))) (aU (dC (.bl false))) aO) (jC)
def iQ:DTS:=aR (dIf (dOr (gi (az (dCB iq (ab (af 1) (ab (dC (.ty "tuple")) ao))))) (dOr (az (dOp qNe (dCB jo (ab (af 1) ao)) (dC (.int 2)))) (gi (az (dCB iq (ab (dOp qIx (af 1) (dC (.int 0))) (ab (dC (.ty "str")) ao))))))) (aU (dC (.bl false))) aO) (jD)
include T C_l_is_whole in
¶sK:cW P w K mg base 1 "_law_is_hand" pj jc iQ:=λ_ _ _ _ _ _ _ hr =>
  ah (aP (pS (eS (bj (bm (av br T.b_isinstance aq (aa ac (aa (bq T.b_tuple bp) ad))))) (eS (aE (pT hr) (av bJ T.b_len bL (aa ac ad)) ae) (dZ (bj (bm (av br T.b_isinstance aq (aa (aX ac ae) (aa (bq T.b_str ko) ad))))))))) (al (am jr)) aB)
  (ah (aP (bj (bm (ar C_l_is_whole hr (aa (aX ac ae) (aa ae ad))))) (al (am jr)) aB)
  (al (am (er (pT hr) (sv (N':=["_law_name","_law_many","_law_thing_here"]) (nt:=2) (js:=[1]) (ca (aX ac ae)) (λ_ _ _ _=>iL (bg (bv (show AB4 (["_law_name","_law_many","_law_thing_here"]:List Str) by decide +kernel)) (bg (bv (show AB4 (["_law_name","_law_many","_law_thing_here"]:List Str) by decide +kernel)) eT))) (λ_ _ _ _=>oz (pS (qD (aE (bc hr) ac (aX ac ae)) (kT (aE sy (aX ac ae) ac))))) (λ_ _ _ _=>ac)) (cq ad)))))
¶tw:WpT cy 2 iQ:=by
 rintro ds M R ⟨n,ps,r,d,rfl,nd,g,h⟩
 simp only[iQ]
 rcases iI M g with⟨xs,rfl⟩|⟨e1,e2⟩
 ·#⟨hl,m,rfl,gx⟩:=g.tup
  @"dl"
  !⟨by decide,?_⟩
  rw[show iw "tuple" "tuple" = true from rfl]
  @"ifs"
  !⟨⟨aw,aw⟩,?_⟩
  rw[bU]
  rcases lz (.tup xs)with⟨a,b,e⟩|⟨e1,e2⟩
  ·injection e with e
   subst e
   rw[show ((([a,b]:List D).length:Int)==2)=true from rfl]
   @"ifs"
   have ga:=gx a (by simp)
   have gb:=gx b (by simp)
   cases a with
   | str x =>
    @"dl"
    !⟨by decide,?_⟩
    rw[show iw "str" "str" = true from rfl]
    @"ifs"
    simp only[jD]
    @"dl"
    !⟨0,b,rfl,gb.thing.1,?_⟩
    cases b with
    | int k =>
     simp only[bM]at h
     by_cases h0:0<=k
     ·rw[decide_eq_true h0,AAx]at h
      rw[show aV 0 (.int k)=true from decide_eq_true h0]
      @"ifs"
      simp only[jC]
      @"dl"
      intro hz
      !cS (Mr x k) cu (λS=>∃a b,S=[a,b,some (.tup [.str x,.int k])]) trivial _ _ _ ?_ ⟨_,_,rfl⟩ (by simpa using hz) ?_
      ·rintro y hy S ⟨a,b,rfl⟩
       #⟨p,hp,rfl⟩:=AAN.mp hy
       !⟨[some (.str p.1),some (.int p.2),some (.tup [.str x,.int k])],⟨_,_,rfl⟩,λY Z hYZ=>?_⟩
       have hYZ':if ((p.1==x)&&decide (k<p.2))=true then Y (.str p.1) [some (.str p.1),some (.int p.2),some (.tup [.str x,.int k])] M else Z [some (.str p.1),some (.int p.2),some (.tup [.str x,.int k])] M:=hYZ
       simp only[aK]
       @"dl"
       !⟨trivial,⟨aM,aM⟩,?_⟩
       rw[cx]
       cases e:(p.1==x) with
       | false=>rw[e]at hYZ';~hYZ'
       | true=>rw[e]at hYZ';~hYZ'
      ·rw[AAr]
       #⟨okk,enil⟩:=mt (M:=M++[MO.lst (((ps.map aK).filter (Mr x k)).map cu)]) (n:=M.length) ax λy hy=>by
        #⟨z,hz,rfl⟩:=AAN.mp hy
        #⟨p,_,rfl⟩:=AAN.mp (AE7.mp hz).1
        ~aM
       !⟨AAT _,okk,?_⟩
       rw[enil,List.isEmpty_map,vW,Bool.not_not,List.any_map]
       !aG.bl ?_ (by rw[ABT];~ABK _ _)
       rw[←Ie nd x k h0]at h
       ~h
     ·rw[decide_eq_false h0]at h
      rw[show aV 0 (.int k)=false from decide_eq_false h0]
      @"ifs"
      ~aG.now h
    | non=>rw[show aV 0 .non=false from rfl];@"ifs";~aG.now h
    | bl z=>rw[show aV 0 (.bl z)=false from rfl];@"ifs";~aG.now h
    | str z=>rw[show aV 0 (.str z)=false from rfl];@"ifs";~aG.now h
    | ty z=>rw[show aV 0 (.ty z)=false from rfl];@"ifs";~aG.now h
    | tup z=>rw[show aV 0 (.tup z)=false from rfl];@"ifs";~aG.now h
    | ref z=>rw[show aV 0 (.ref z)=false from rfl];@"ifs";~aG.now h
   | ref i =>
    have e:=bW ga.thing.1
    simp only[tyD]at e
    rw[eu λ_ z=>by cases z]at h
    @"dl"
    simp only[e]
    ~⟨by decide,bb (aG.now h)⟩
   | ty t=>~absurd ga.thing.1 (by simp only[tyD];decide)
   | non =>
    @"dl"
    ~⟨by decide,bb (aG.now (by rw[eu λ_ z=>by cases z]at h;~h))⟩
   | bl t =>
    @"dl"
    ~⟨by decide,bb (aG.now (by rw[eu λ_ z=>by cases z]at h;~h))⟩
   | int t =>
    @"dl"
    ~⟨by decide,bb (aG.now (by rw[eu λ_ z=>by cases z]at h;~h))⟩
   | tup t =>
    @"dl"
    ~⟨by decide,bb (aG.now (by rw[eu λ_ z=>by cases z]at h;~h))⟩
  ·have e3:((xs.length:Int)==2)=false:=e1
   rw[e3]
   @"ifs"
   rw[qE e2]at h
   ~aG.now h
 ·rw[qE λa b=>e2 _]at h
  @"dl"
  !⟨⟨g.thing.1,by decide⟩,?_⟩
  simp only[tyD]at e1
  rw[e1]
  @"ifs"
  ~aG.now h
include T C_l_is_whole in
¶ve:Cal P w K mg base 2 "_law_is_hand" dN cy :=
 Cal.byH T.f_l_is_hand uE rX (sK T C_l_is_whole) tw
variable(C_l_is_hand:Cal P w K mg base 2 "_law_is_hand" dN cy)
def aZ:DSp:=λds M R=>∃(n:Nat) (ps:List (Str×Int)) (r:List D) (d:D),ds=[.tup (.tup (ps.map aK)::r),d]/\(ps.map (·.1)).Nodup/\Gdn M n d/\R (.bl (cO ps d)) M
¶pR:du aZ cZ:=by rintro ds M R ⟨n,ps,r,d,rfl,_⟩;rfl
¶rD:FnScope lU cZ (ak gJ):=by @"sc"
def iJ:DTS:=aU (bV (dCB bx (ab (dOp qIx (af 1) (dC (.int 0))) (ab (dC (.int 1)) ao))) (dCB cy (ab (af 0) (ab (dOp qIx (af 1) (dC (.int 1))) ao))))
def gv:DTS:=aR (dIf (dOr (gi (az (dCB iq (ab (af 1) (ab (dC (.ty "tuple")) ao))))) (az (dOp qNe (dCB jo (ab (af 1) ao)) (dC (.int 2))))) (aU (dC (.bl false))) aO) (iJ)
include T C_l_is_whole C_l_is_hand in
¶pV:cW P w K mg base 2 "_law_is_stamp" lU gJ gv:=λ_ _ _ _ _ _ _ hr =>
  ah (aP (pS (eS (bj (bm (av br T.b_isinstance aq (aa ac (aa (bq T.b_tuple bp) ad))))) (dZ (aE (pT hr) (av bJ T.b_len bL (aa ac ad)) ae)))) (al (am jr)) aB)
  (al (am (cB (ar C_l_is_whole hr (aa (aX ac ae) (aa ae ad))) (da (ar C_l_is_hand hr (aa ac (aa (aX ac ae) ad)))))))
¶qP:WpT aZ 2 gv:=by
 rintro ds M R ⟨n,ps,r,d,rfl,nd,g,h⟩
 simp only[gv]
 rcases iI M g with⟨xs,rfl⟩|⟨e1,e2⟩
 ·#⟨hl,m,rfl,gx⟩:=g.tup
  @"dl"
  !⟨by decide,?_⟩
  rw[show iw "tuple" "tuple" = true from rfl]
  @"ifs"
  !⟨⟨aw,aw⟩,?_⟩
  rw[bU]
  rcases lz (.tup xs)with⟨a,b,e⟩|⟨e1,e2⟩
  ·injection e with e
   subst e
   rw[show ((([a,b]:List D).length:Int)==2)=true from rfl]
   @"ifs"
   have ga:=gx a (by simp)
   have gb:=gx b (by simp)
   simp only[iJ]
   @"dl"
   !⟨1,a,rfl,ga.thing.1,?_⟩
   simp only[cO]at h
   cases ea:aV 1 a with
   | false =>
    rw[ea]at h
    @"ifs"
    ~aG.now h
   | true =>
    rw[ea]at h
    @"ifs"
    ~⟨m,ps,r,b,rfl,nd,gb,aG.now h⟩
  ·have e3:((xs.length:Int)==2)=false:=e1
   rw[e3]
   @"ifs"
   rw[nu e2]at h
   ~aG.now h
 ·rw[nu λa b=>e2 _]at h
  @"dl"
  !⟨⟨g.thing.1,by decide⟩,?_⟩
  simp only[tyD]at e1
  rw[e1]
  @"ifs"
  ~aG.now h
include T C_l_is_whole C_l_is_hand in
¶rP:Cal P w K mg base 3 "_law_is_stamp" cZ aZ :=
 Cal.byH T.f_l_is_stamp rD pR (pV T C_l_is_whole C_l_is_hand) qP
variable(C_l_is_stamp:Cal P w K mg base 3 "_law_is_stamp" cZ aZ)
¶FZ{a b c:Str}(h1:cr a b=true)(h2:cr b c=true):cr a c=true:=by
 unfold cr at *
 rw[decide_eq_true_eq]at *
 ~List.lt_trans h1 h2
¶Cz{a:Str}:cr a a=false:=by
 unfold cr
 ~decide_eq_false (ADE _)
¶Cy(a b:Str):cr a b=true\/a=b\/cr b a=true:=by
 unfold cr
 rw[decide_eq_true_eq,decide_eq_true_eq]
 by_cases h1:a.cps.toList<b.cps.toList
 ·~.inl h1
 ·by_cases h2:b.cps.toList<a.cps.toList
  ·~.inr (.inr h2)
  ·~.inr (.inl (Cw (List.le_antisymm (List.not_lt.mp h2) (List.not_lt.mp h1))))
¶mv{M:Mem}{x y:Str}{k l:Int}:ltD M eqN (.tup [.str x,.int k]) (.tup [.str y,.int l])=if x=y then decide (k<l)else cr x y:=by
 show (if eqD M 29 (.str x) (.str y)=true then(if eqD M 29 (.int k) (.int l)=true then false else decide (k<l))else cr x y)=_
 rw[cx,bU]
 by_cases e:x=y
 ·subst e
  rw[if_pos (by simp),if_pos rfl]
  by_cases e2:k=l
  ·subst e2
   rw[if_pos (by simp)]
   ~(decide_eq_false ¤).symm
  ·rw[if_neg (by simpa using e2)]
 ·rw[if_neg (by simpa using e),if_neg e]
¶Nx{M:Mem}{a b:D}(ha:Hd a)(hb:Hd b):ltD M eqN a b=true\/a=b\/ltD M eqN b a=true:=by
 #⟨x,k,rfl⟩:=ha
 #⟨y,l,rfl⟩:=hb
 rw[mv,mv]
 by_cases e:x=y
 ·subst e
  rw[if_pos rfl,if_pos rfl,decide_eq_true_eq,decide_eq_true_eq]
  have:k<l\/k=l\/l<k:=¤
  rcases this with h | h | h
  ·~.inl h
  ·subst h;~.inr (.inl rfl)
  ·~.inr (.inr h)
 ·rw[if_neg e,if_neg (AAz e)]
  rcases Cy x y with h | h | h
  ·~.inl h
  ·~absurd h e
  ·~.inr (.inr h)
¶Ny{M:Mem}{a b c:D}(ha:Hd a)(hb:Hd b)(hc:Hd c)(h1:ltD M eqN a b=true)(h2:ltD M eqN b c=true):ltD M eqN a c=true:=by
 #⟨x,k,rfl⟩:=ha
 #⟨y,l,rfl⟩:=hb
 #⟨z,m,rfl⟩:=hc
 rw[mv]at *
 by_cases e:x=y
 ·subst e
  rw[if_pos rfl,decide_eq_true_eq]at h1
  by_cases e2:x=z
  ·subst e2
   rw[if_pos rfl,decide_eq_true_eq]at h2 ⊢
   &
  ·rw[if_neg e2]at h2 ⊢;~h2
 ·rw[if_neg e]at h1
  by_cases e2:y=z
  ·subst e2
   rw[if_neg e];~h1
  ·rw[if_neg e2]at h2
   have h3:=FZ h1 h2
   by_cases e3:x=z
   ·subst e3;rw[Cz]at h3;cases h3
   ·rw[if_neg e3];~h3
¶NB{M:Mem}{a:D}(ha:Hd a):ltD M eqN a a=false:=by
 #⟨x,k,rfl⟩:=ha
 rw[mv,if_pos rfl]
 ~decide_eq_false ¤
¶zE{M:Mem}:∀{xs:List D},(∀x∈xs,Hd x)->dw M xs=true->xs.Pairwise λa b=>ltD M eqN a b=true
 | [],_,_=>.nil
 | [_],_,_=>ADa _ _
 | a::b::r,hd,h=>by
  have h':(ltD M eqN a b&&dw M (b::r))=true:=h
  rw[AAD]at h'
  have ih:=zE (λx hx=>hd x (AA9 _ hx)) h'.2
  rw[List.pairwise_cons]
  !⟨λx hx=>?_,ih⟩
  rcases AAH.mp hx with rfl | hx
  ·~h'.1
  ·~Ny (hd a (by simp)) (hd b (by simp)) (hd x (by simp[hx])) h'.1 ((List.pairwise_cons.mp ih).1 x hx)
¶zH{M:Mem}:∀{xs:List D},(xs.Pairwise λa b=>ltD M eqN a b=true)->dw M xs=true
 | [],_=>rfl
 | [_],_=>rfl
 | a::b::r,h=>by
  rw[List.pairwise_cons]at h
  show (ltD M eqN a b&&dw M (b::r))=true
  rw[h.1 b (by simp),zH h.2];rfl
¶uO{α:Type}{lt:α->α->Prop}:∀{xs ys:List α},(∀a∈xs,∀b∈xs,lt a b->¬lt b a)->xs.Pairwise lt->ys.Pairwise lt->(∀x,x∈ys↔x∈xs)->xs=ys
 | [],[],_,_,_,_=>rfl
 | [],y::ys,_,_,_,h=>absurd ((h y).mp AAI) (by simp)
 | x::xs,[],_,_,_,h=>absurd ((h x).mpr AAI) (by simp)
 | x::xs,y::ys,as,hx,hy,h=>by
  rw[List.pairwise_cons]at hx hy
  have e:x=y:=by
   rcases AAH.mp ((h x).mpr AAI)with e | m1
   ·~e
   ·rcases AAH.mp ((h y).mp AAI)with e | m2
    ·~e.symm
    ·~absurd (hx.1 y m2) (as _ (AA9 _ m2) _ AAI (hy.1 x m1))
  subst e
  rw[uO (λa ha b hb=>as a (AA9 _ ha) b (AA9 _ hb)) hx.2 hy.2 λz=>⟨λm=>by
   rcases AAH.mp ((h z).mp (AA9 _ m))with e | m'
   ·subst e;~absurd (hy.1 z m) (λq=>as z AAI z AAI q q)
   ·~m',λm=>by
   rcases AAH.mp ((h z).mpr (AA9 _ m))with e | m'
   ·subst e;~absurd (hx.1 z m) (λq=>as z AAI z AAI q q)
   ·~m'⟩]
¶IA{M:Mem}{n:Nat}:∀{xs ys:List D},(∀x∈xs,Hd x)->(∀y∈ys,Hd y)->(eqL (eqD M (n+1)) xs ys=true↔xs=ys)
 | [],[],_,_=>⟨λ_=>rfl,λ_=>rfl⟩
 | [],_::_,_,_=>⟨(λz=>nomatch z),(λz=>nomatch z)⟩
 | _::_,[],_,_=>⟨(λz=>nomatch z),(λz=>nomatch z)⟩
 | x::xs,y::ys,hx,hy=>by
  show (eqD M (n+1) x y&&eqL (eqD M (n+1)) xs ys)=true↔_
  rw[AAD,EA (hx x (by simp)) (hy y (by simp)),IA (λz m=>hx z (AA9 _ m)) (λz m=>hy z (AA9 _ m)),AED]
¶vR{M M1 B:Mem}{n:Nat}{hs ys:List D}(hd:∀x∈hs,Hd x)(nd:ys.Nodup)(mem:∀x,x∈ys↔x∈hs)(up:BN M1 ys):eqL (eqD B (n+1)) hs ys=dw M hs:=by
 have hy:∀y∈ys,Hd y:=λy m=>hd y ((mem y).mp m)
 have pw:ys.Pairwise λa b=>ltD M eqN a b=true:=by
  have h2:=List.Pairwise.and_mem.mp (List.Pairwise.and nd up)
  !h2.imp λ{a b} ⟨ma,mb,ne,lt⟩=>?_
  rw[Nz (M':=M) (hy b mb) (hy a ma)]at lt
  rcases Nx (M:=M) (hy a ma) (hy b mb)with h | h | h
  ·~h
  ·~absurd h ne
  ·rw[h]at lt;cases lt
 rw[ABn,IA hd hy]
 constructor
 ·rintro rfl
  ~zH pw
 ·intro h
  !uO (λa ha b hb h1 h2=>?_) (zE hd h) pw mem
  have:=Ny (hd a ha) (hd b hb) (hd a ha) h1 h2
  rw[NB (hd a ha)]at this
  cases this
def cw:DSp:=λds M R=>∃(n:Nat) (ps:List (Str×Int)) (r:List D) (d:D),ds=[.tup (.tup (ps.map aK)::r),d]/\(ps.map (·.1)).Nodup/\Gdn M n d/\FG d/\R (.bl (dE M ps d)) M
¶ou:du cw cD:=by rintro ds M R ⟨n,ps,r,d,rfl,_⟩;rfl
¶wW{M:Mem}{ps:List (Str×Int)}{xs:List D}{x:D}(m:x∈xs)(h:cJ ps x=false):dE M ps (.tup xs)=false:=by
 have:xs.all (cJ ps)=false:=by
  rw[List.all_eq_false]
  ~⟨x,m,by rw[h];decide⟩
 simp only[dE,this,AAw]
¶eR:FnScope kz cD (ak fL):=by @"sc"
def gl:DTS:=aU (dOp qEq (af 2) (kh (af 2)))
def gn:DTS:=wg (dMl gL (af 2) (ab (dOp qIx (af 3) (dC (.int 0))) ao))
def gq:DTS:=aR (dIf (gi (az (dCB bx (ab (dOp qIx (af 3) (dC (.int 1))) (ab (dC (.int 1)) ao))))) (aU (dC (.bl false))) aO) (gn)
def gs:DTS:=aR (yP (cN (af 1)) (aH 3) (aR (dIf (dOr (gi (az (dCB iq (ab (af 3) (ab (dC (.ty "tuple")) ao))))) (dOr (az (dOp qNe (dCB jo (ab (af 3) ao)) (dC (.int 2)))) (gi (az (dCB cy (ab (af 0) (ab (dOp qIx (af 3) (dC (.int 0))) ao))))))) (aU (dC (.bl false))) aO) (gq))) (gl)
def gu:DTS:=aR (db (gf ao) 2) (gs)
def fF:DTS:=aR (dIf (gi (az (dCB iq (ab (af 1) (ab (dC (.ty "tuple")) ao))))) (aU (dC (.bl false))) aO) (gu)
include T C_l_is_whole C_l_is_hand in
¶oS:cW P w K mg base 2 "_law_is_vector" kz fL fF:=λ_ _ _ _ _ _ _ hr =>
  ah (aP (bj (bm (av br T.b_isinstance aq (aa ac (aa (bq T.b_tuple bp) ad))))) (al (am jr)) aB)
  (ah (aN eR.nd (cq ad))
  (ah (hV (ca ac) (cH eR.nd) (ah (aP (pS (eS (bj (bm (av br T.b_isinstance aq (aa ac (aa (bq T.b_tuple bp) ad))))) (eS (aE (pT hr) (av bJ T.b_len bL (aa ac ad)) ae) (dZ (bj (bm (ar C_l_is_hand hr (aa ac (aa (aX ac ae) ad))))))))) (al (am jr)) aB)
  (ah (aP (bj (bm (ar C_l_is_whole hr (aa (aX ac ae) (aa ae ad))))) (al (am jr)) aB)
  (al (oA (LB jZ ac (aa (aX ac ae) ad)))))))
  (al (am (er (bc hr) ac (Bt hr ac T.b_sorted T.b_set))))))
¶pH:WpT cw 4 fF:=by
 rintro ds M R ⟨n,ps,r,d,rfl,nd,g,few,h⟩
 simp only[fF]
 rcases iI M g with⟨xs,rfl⟩|⟨e1,e2⟩
 ·#⟨hl,m,rfl,gx⟩:=g.tup
  have x40:=few xs rfl
  @"dl"
  !⟨by decide,?_⟩
  rw[show iw "tuple" "tuple" = true from rfl]
  @"ifs"
  simp only[gu,gs]
  @"dl"
  !⟨AAT _,λ_=>?_⟩
  !eL (λi S M'=>(∀x∈xs.take i,cJ ps x=true)/\M'=M++[.lst ((xs.take i).map cu)]/\∃a,S=[some (.tup (.tup (ps.map aK)::r)),some (.tup xs),some (.ref M.length),a]) ?_ ?_ ⟨(λ_ z=>nomatch z),rfl,_,rfl⟩
  ·rintro S M' ⟨hc,rfl,a,rfl⟩
   rw[AC3]at hc ⊢
   !⟨trivial,?_⟩
   simp only[gl]
   @"dl"
   have hh:∀x∈xs.map cu,Hd x:=λx hx=>by
    #⟨y,hy,rfl⟩:=AAN.mp hx
    #⟨a,b,rfl,ha',_⟩:=Aa (hc y hy)
    ~sA ha'
   have len:(xs.map cu).length<64:=by rw[AA6];&
   !⟨1,_,by decide,.inl ⟨_,rfl,ax⟩,len,λx hx=>?_,⟨len,λx hx=>?_,λx hx y hy=>(IB (hh x hx) (hh y hy)).2.2,.inr (.inr (.inl λx hx=>?_))⟩,λys nd' mem up=>⟨⟨kP (n:=29) (ax.more _) λx hx=>?_,kP (n:=29) ax λx hx=>?_⟩,?_⟩⟩
   ·#⟨z,k,rfl⟩:=hh x hx;~⟨rfl,rfl⟩
   ·#⟨z,k,rfl⟩:=hh x hx;rfl
   ·#⟨z,k,rfl⟩:=hh x hx;~⟨_,_,rfl⟩
   ·#⟨z,k,rfl⟩:=hh x hx;rfl
   ·#⟨z,k,rfl⟩:=hh x ((mem x).mp hx);rfl
   ·have e:eqD (M++[MO.lst (xs.map cu)]++[MO.lst ys]) eqN (.ref M.length) (.ref (M++[MO.lst (xs.map cu)]).length)=dw M (xs.map cu):=(sE (n:=29) (ax.more _) ax).trans (vR (n:=28) hh nd' mem up)
    rw[e]
    have:dE M ps (.tup xs)=dw M (xs.map cu):=by
     simp only[dE]
     rw[AAK.mpr hc,AAx]
    rw[this]at h
    ~aG.bl h (rM.trans rM)
  ·rintro i y S M' hy ⟨hc,rfl,a,rfl⟩ G hG
   !⟨trivial,?_⟩
   have ym:=AAu hy
   have gy:=(gx y ym).grow (rM (mo:=MO.lst ((xs.take i).map cu)))
   have no:cJ ps y=false->aG M R (.bl false) (M++[MO.lst ((xs.take i).map cu)]):=λe=>by
    rw[wW ym e]at h
    ~aG.bl h rM
   have hil:(xs.take i).length<=40:=by rw[AAh];&
   rcases iI _ gy with⟨zs,rfl⟩|⟨e1,e2⟩
   ·@"dl"
    !⟨by decide,?_⟩
    rw[show iw "tuple" "tuple" = true from rfl]
    @"ifs"
    !⟨⟨aw,aw⟩,?_⟩
    rw[bU]
    rcases lz (.tup zs)with⟨a,b,e⟩|⟨e1,e2⟩
    ·injection e with e
     subst e
     rw[show ((([a,b]:List D).length:Int)==2)=true from rfl]
     #⟨_,m2,rfl,gz⟩:=gy.tup
     @"ifs"
     @"dl"
     !⟨m2,ps,r,a,rfl,nd,gz a (by simp),?_⟩
     cases ea:bM ps a with
     | false =>
      @"ifs"
      ~no (by simp only[cJ,ea,AAw])
     | true =>
      @"ifs"
      simp only[gq]
      @"dl"
      !⟨1,b,rfl,(gz b (by simp)).thing.1,?_⟩
      cases eb:aV 1 b with
      | false =>
       @"ifs"
       ~no (by simp only[cJ,ea,eb,ADw])
      | true =>
       @"ifs"
       simp only[gn]
       @"dl"
       !⟨⟨_,ax⟩,_,bo,by rw[AA6];~small1000 ¤,Fgt.now (hG _ _ ⟨λx hx=>?_,?_,_,rfl⟩)⟩
       ·rw[ABl,hy]at hx
        rcases AAk.mp hx with hx | hx
        ·~hc x hx
        ·rw[Option.toList_some,List.mem_singleton]at hx
         subst hx
         simp only[cJ,ea,eb,AE6]
       ·rw[CI,ABl,hy,ABR]
        rfl
    ·have e3:((zs.length:Int)==2)=false:=e1
     rw[e3]
     @"ifs"
     ~no (kj e2)
   ·@"dl"
    !⟨⟨gy.thing.1,by decide⟩,?_⟩
    simp only[tyD]at e1
    rw[e1]
    @"ifs"
    ~no (kj λa b=>e2 _)
 ·rw[pY e2]at h
  @"dl"
  !⟨⟨g.thing.1,by decide⟩,?_⟩
  simp only[tyD]at e1
  rw[e1]
  @"ifs"
  ~aG.now h
include T C_l_is_whole C_l_is_hand in
¶pM:Cal P w K mg base 3 "_law_is_vector" cD cw :=
 Cal.byH T.f_l_is_vector eR ou (oS T C_l_is_whole C_l_is_hand) pH
variable(C_l_is_vector:Cal P w K mg base 3 "_law_is_vector" cD cw)
¶BH:(AA1 "abcdefghijklmnopqrstuvwxyz").cps.toList=(AAe 26).map (· + 97):=by decide +kernel
¶Fo(c:Nat):decide (c∈(AA1 "abcdefghijklmnopqrstuvwxyz").cps.toList)=cG c:=by
 rw[BH,ABn]
 unfold cG
 simp only[AAN,AAo,decide_eq_true_eq,AAD]
 constructor
 ·rintro⟨a,ha,rfl⟩;&
 ·rintro⟨h1,h2⟩;~⟨c-97,¤,¤⟩
def df:DSp:=λds M R=>∃d,ds=[d]/\oZ M d/\R (.bl (oE d)) M
¶rW:du df dM:=by rintro ds M R ⟨x,rfl,_⟩;rfl
¶oO{α:Type}(p:α->Bool)(l:List α):(l.filter p).isEmpty=l.all λx=>!p x:=by
 induction l with
 | nil=>rfl
 | cons a l ih =>
  rw[List.filter_cons,ABF]
  cases e:p a with
  | true=>simp
  | false=>simpa using ih
¶IF{M:Mem}{n:Nat}{xs:List D}{Q:DK}(hL:aA M n xs)(ok:∀x∈xs,okD (M++[MO.lst []]) 29 x=true)(q:Q (.bl xs.isEmpty) (M++[.lst []])):qEq (.ref n) (.ref M.length) (M++[.lst []]) Q:=by
 have h1:aA (M++[MO.lst []]) n xs:=by
  #⟨hh⟩:=(⟨hL⟩:Nonempty _)
  rcases hL with h | h | h
  ·~.inl (by rw[AAJ (AA2.mp h).1];~h)
  ·~.inr (.inl (by rw[AAJ (AA2.mp h).1];~h))
  ·~.inr (.inr (by rw[AAJ (AA2.mp h).1];~h))
 have h2:aA (M++[MO.lst []]) M.length []:=ax
 !⟨⟨kP h1 ok,kP h2 λ_ z=>nomatch z⟩,?_⟩
 rw[show eqN=29+1 from rfl,sE h1 h2,EI]
 ~q
¶uD:FnScope pi dM (ak jb):=by @"sc"
def jB:DTS:=aU (dOp qEq (dLC 1 [] (cN (af 0)) (aH 0) (az (dOp Dc (af 0) (dC (.str "abcdefghijklmnopqrstuvwxyz")))) (af 0)) (gf ao))
def iP:DTS:=aR (dIf (dOr (gi (az (dCB iq (ab (af 0) (ab (dC (.ty "str")) ao))))) (gi (az (eN qLe qLe (dC (.int 1)) (dCB jo (ab (af 0) ao)) (dC (.int 8)))))) (aU (dC (.bl false))) aO) (jB)
include T in
¶sJ:cW P w K mg base 0 "_law_is_name" pi jb iP:=λ_ _ _ _ _ _ _ hr =>
  ah (aP (pS (eS (bj (bm (av br T.b_isinstance aq (aa ac (aa (bq T.b_str ko) ad))))) (dZ (bj (sn kW kW ae (av bJ T.b_len bL (aa ac ad)) ae))))) (al (am jr)) aB)
  (al (am (er (bc hr) (sv (N':=["_law_sign"]) (nt:=1) (js:=[]) (ca ac) (λ_ _ _ _=>bv (show AB4 (["_law_sign"]:List Str) by decide +kernel)) (λ_ _ _ _=>oz (aE (Hh hr) ac aY)) (λ_ _ _ _=>ac)) (cq ad))))
¶tu:WpT df 1 iP:=by
 rintro ds M R ⟨d,rfl,⟨hty,hl⟩,h⟩
 simp only[iP,jB]
 cases d with
 | str x =>
  have hx:=hl x rfl
  @"dl"
  !⟨by decide,?_⟩
  rw[show iw "str" "str" = true from rfl]
  @"ifs"
  !⟨hx,?_⟩
  simp only[oE]at h
  by_cases h1:1<=x.length
  ·rw[decide_eq_true h1]at h
   rw[decide_eq_true (show (1:Int)<=(x.length:Int) by &)]
   @"ifs"
   by_cases h8:x.length<=8
   ·rw[decide_eq_true h8]at h
    rw[decide_eq_true (show (x.length:Int)<=8 by &)]
    @"ifs"
    !cS (λd=>!cG (chD d)) id (λS=>∃a,S=[a]) trivial _ _ _ ?_ ⟨_,rfl⟩ ?_ ?_
    ·rintro y hy S ⟨a,rfl⟩
     #⟨c,hc,rfl⟩:=jI hy
     !⟨[some (.str ⟨#[c]⟩)],⟨_,rfl⟩,λY Z hYZ=>?_⟩
     have f1:=StrLaws.found_one "abcdefghijklmnopqrstuvwxyz" c
     rw[Fo]at f1
     rw[Ff]at hYZ
     show if ((!(AC7 "abcdefghijklmnopqrstuvwxyz" ⟨#[c]⟩ 0 (AA1 "abcdefghijklmnopqrstuvwxyz").length 1).isEmpty) != true)=true then Y (.str ⟨#[c]⟩) [some (.str ⟨#[c]⟩)] M else Z [some (.str ⟨#[c]⟩)] M
     rw[f1]
     cases e:cG c with
     | true=>rw[e]at hYZ;~hYZ
     | false=>rw[e]at hYZ;~hYZ
    ·simp only[uA,AAW]
     ~aC ¤
    ·rw[AAr,List.map_id]
     !⟨AAT _,IF (Q:=aG M R) ax (λy hy=>?_) ?_⟩
     ·#⟨c,_,rfl⟩:=jI (AE7.mp hy).1
      ~aM
     ·rw[oO]
      have e:(signs x).all (λd=>!!cG (chD d))=x.cps.toList.all cG:=by
       unfold signs
       rw[ADU]
       congr 1
       funext c
       show (!!cG c)=cG c
       rw[Bool.not_not]
      rw[e]
      !aG.bl ?_ (by rw[ABT];~ABK _ _)
      simpa using h
   ·rw[decide_eq_false h8]at h
    rw[decide_eq_false (show ¬(x.length:Int)<=8 by &)]
    @"ifs"
    ~aG.now (by simpa using h)
  ·rw[decide_eq_false h1]at h
   rw[decide_eq_false (show ¬(1:Int)<=(x.length:Int) by &)]
   @"ifs"
   ~aG.now (by simpa using h)
 | non=>@"dl";~⟨by decide,bb (aG.now h)⟩
 | bl b=>@"dl";~⟨by decide,bb (aG.now h)⟩
 | int b=>@"dl";~⟨by decide,bb (aG.now h)⟩
 | tup b=>@"dl";~⟨by decide,bb (aG.now h)⟩
 | ty b=>~absurd hty (by simp only[tyD];decide)
 | ref n =>
  have e:=bW hty
  simp only[tyD]at e
  @"dl"
  rw[e]
  ~⟨by decide,bb (aG.now h)⟩
include T in
¶vd:Cal P w K mg base 1 "_law_is_name" dM df :=
 Cal.byH T.f_l_is_name uD rW (sJ T) tu
variable(C_l_is_name:Cal P w K mg base 1 "_law_is_name" dM df)
def bR:DSp:=λds M R=>∃d,ds=[d]/\oZ M d/\R (.bl (iz d)) M
¶ox:du bR cE:=by rintro ds M R ⟨x,rfl,_⟩;rfl
¶CH(c:Nat):kJ c=(decide ((31:Int)<(c:Int))&&decide ((c:Int)<127)):=by
 unfold kJ
 rw[ABn]
 simp only[AAD,decide_eq_true_eq]
 &
¶pK:FnScope kA cE (ak fM):=by @"sc"
def gA:DTS:=aU (dOp qEq (dLC 1 [] (cN (af 0)) (aH 0) (gi (az (eN qLt qLt (dC (.int 31)) (dCB Lz (ab (af 0) ao)) (dC (.int 127))))) (af 0)) (gf ao))
def fG:DTS:=aR (dIf (dOr (gi (az (dCB iq (ab (af 0) (ab (dC (.ty "str")) ao))))) (gi (az (eN qLe qLe (dC (.int 1)) (dCB jo (ab (af 0) ao)) (dC (.int 60)))))) (aU (dC (.bl false))) aO) (gA)
include T in
¶oT:cW P w K mg base 0 "_law_is_saying" kA fM fG:=λ_ _ _ _ _ _ _ hr =>
  ah (aP (pS (eS (bj (bm (av br T.b_isinstance aq (aa ac (aa (bq T.b_str ko) ad))))) (dZ (bj (sn kW kW ae (av bJ T.b_len bL (aa ac ad)) ae))))) (al (am jr)) aB)
  (al (am (er (bc hr) (sv (N':=["_law_sign"]) (nt:=1) (js:=[]) (ca ac) (λ_ _ _ _=>bv (show AB4 (["_law_sign"]:List Str) by decide +kernel)) (λ_ _ _ _=>oz (bj (sn sy sy ae (av IC T.b_ord IL (aa ac ad)) ae))) (λ_ _ _ _=>ac)) (cq ad))))
¶pI:WpT bR 1 fG:=by
 rintro ds M R ⟨d,rfl,⟨hty,hl⟩,h⟩
 simp only[fG,gA]
 cases d with
 | str x =>
  have hx:=hl x rfl
  @"dl"
  !⟨by decide,?_⟩
  rw[show iw "str" "str" = true from rfl]
  @"ifs"
  !⟨hx,?_⟩
  simp only[iz]at h
  by_cases h1:1<=x.length
  ·rw[decide_eq_true h1]at h
   rw[decide_eq_true (show (1:Int)<=(x.length:Int) by &)]
   @"ifs"
   by_cases h8:x.length<=60
   ·rw[decide_eq_true h8]at h
    rw[decide_eq_true (show (x.length:Int)<=60 by &)]
    @"ifs"
    !cS (λd=>!kJ (chD d)) id (λS=>∃a,S=[a]) trivial _ _ _ ?_ ⟨_,rfl⟩ ?_ ?_
    ·rintro y hy S ⟨a,rfl⟩
     #⟨c,hc,rfl⟩:=jI hy
     !⟨[some (.str ⟨#[c]⟩)],⟨_,rfl⟩,λY Z hYZ=>?_⟩
     rw[Ff,CH]at hYZ
     @"dl"
     !⟨rfl,?_⟩
     rw[show (#[c]:Array Nat).getD 0 0=c from rfl]
     cases q1:decide ((31:Int)<(c:Int)) with
     | false=>rw[q1]at hYZ;~hYZ
     | true =>
      rw[q1]at hYZ
      cases q2:decide ((c:Int)<127) with
      | false=>rw[q2]at hYZ;~hYZ
      | true=>rw[q2]at hYZ;~hYZ
    ·simp only[uA,AAW]
     ~aC ¤
    ·rw[AAr,List.map_id]
     !⟨AAT _,IF (Q:=aG M R) ax (λy hy=>?_) ?_⟩
     ·#⟨c,_,rfl⟩:=jI (AE7.mp hy).1
      ~aM
     ·rw[oO]
      have e:(signs x).all (λd=>!!kJ (chD d))=x.cps.toList.all kJ:=by
       unfold signs
       rw[ADU]
       congr 1
       funext c
       show (!!kJ c)=kJ c
       rw[Bool.not_not]
      rw[e]
      !aG.bl ?_ (by rw[ABT];~ABK _ _)
      simpa using h
   ·rw[decide_eq_false h8]at h
    rw[decide_eq_false (show ¬(x.length:Int)<=60 by &)]
    @"ifs"
    ~aG.now (by simpa using h)
  ·rw[decide_eq_false h1]at h
   rw[decide_eq_false (show ¬(1:Int)<=(x.length:Int) by &)]
   @"ifs"
   ~aG.now (by simpa using h)
 | non=>@"dl";~⟨by decide,bb (aG.now h)⟩
 | bl b=>@"dl";~⟨by decide,bb (aG.now h)⟩
 | int b=>@"dl";~⟨by decide,bb (aG.now h)⟩
 | tup b=>@"dl";~⟨by decide,bb (aG.now h)⟩
 | ty b=>~absurd hty (by simp only[tyD];decide)
 | ref n =>
  have e:=bW hty
  simp only[tyD]at e
  @"dl"
  rw[e]
  ~⟨by decide,bb (aG.now h)⟩
include T in
¶pN:Cal P w K mg base 1 "_law_is_saying" cE bR :=
 Cal.byH T.f_l_is_saying pK ox (oT T) pI
variable(C_l_is_saying:Cal P w K mg base 1 "_law_is_saying" cE bR)
def cb:DSp:=λds M R=>∃(n:Nat) (p0:D) (rs:List (Str×List Str)) (r:List D) (d:D),ds=[.tup (p0::.tup (rs.map bP)::r),d]/\Gdn M n d/\R (.bl (Bl (rs.map (·.1)) d)) M
¶rV:du cb dL:=by rintro ds M R ⟨n,p0,rs,r,d,rfl,_⟩;rfl
¶Ir{M:Mem}{R:DK}{n:Nat}{d:D}{xs:List D}{ss:List Str}{ok':Mem->Prop}(g:Gdn M n d)(k1:ok' M)(hx:xs.map cu=ss.map D.str)(two:∀x∈xs,∃a b,x=.tup [a,b])(l:xs.length<=sizeLine)(h:R (.bl (Bl ss d)) M) :
  oW ok' (iF 2 (bw (aH 0) (bw (aH 1) iG))) oV (af 0) (λy M2=>qIn d y M2 (aG M R)) xs [] [none,none] M:=by
 !cv cu (λS=>∃a b,S=[a,b]) k1 _ _ _ (λy hy S hS=>?_) ⟨_,_,rfl⟩ (by simpa using l) ?_
 ·#⟨a,b,rfl⟩:=hS
  #⟨u,v,rfl⟩:=two y hy
  !⟨[some u,some v],⟨_,_,rfl⟩,λY hY=>?_⟩
  @"dl"
  ~⟨trivial,hY⟩
 ·rw[AAr,hx]
  ~yt g (AE4 M) h
¶uC:FnScope ph dL (ak ja):=by @"sc"
def iO:DTS:=aU (bV (dCB iq (ab (af 1) (ab (dC (.ty "str")) ao))) (dOp qIn (af 1) (dLC 2 [] (cN (dOp qIx (af 0) (dC (.int 1)))) (iF 2 (bw (aH 0) (bw (aH 1) iG))) oV (af 0))))
include T in
¶sI:cW P w K mg base 0 "_law_is_room" ph ja iO:=λ_ _ _ _ _ _ _ hr =>
  al (am (cB (av br T.b_isinstance aq (aa ac (aa (bq T.b_str ko) ad))) (da (er (Ev hr) ac (sv (N':=["_law_room","_law_members"]) (nt:=2) (js:=[]) (ca (aX ac ae)) (λ_ _ _ _=>iL (bg (bv (show AB4 (["_law_room","_law_members"]:List Str) by decide +kernel)) (bg (bv (show AB4 (["_law_room","_law_members"]:List Str) by decide +kernel)) eT))) (λ_ _ _ _=>bZ) (λ_ _ _ _=>ac))))))
¶tq:WpT cb 2 iO:=by
 rintro ds M R ⟨n,p0,rs,r,d,rfl,g,h⟩
 simp only[iO]
 rcases zu M g with⟨z,rfl⟩|⟨e1,e2⟩
 ·@"dl"
  !⟨by decide,?_⟩
  rw[show iw "str" "str" = true from rfl]
  @"ifs"
  intro hz
  ~Ir g trivial (oM rs) (λx hx=>by #⟨q,_,rfl⟩:=AAN.mp hx;~⟨_,_,rfl⟩) hz h
 ·rw[DP e2]at h
  @"dl"
  !⟨⟨g.thing.1,by decide⟩,?_⟩
  simp only[tyD]at e1
  rw[e1]
  @"ifs"
  ~aG.now h
include T in
¶vc:Cal P w K mg base 1 "_law_is_room" dL cb :=
 Cal.byH T.f_l_is_room uC rV (sI T) tq
variable(C_l_is_room:Cal P w K mg base 1 "_law_is_room" dL cb)
def de:DSp:=λds M R=>∃(n:Nat) (ps:List (Str×Int)) (rs:List (Str×List Str)) (r:List D) (d:D),ds=[.tup (.tup (ps.map aK)::.tup (rs.map bP)::r),d]/\(ps.map (·.1)).Nodup/\Gdn M n d/\R (.bl (qR ps rs d)) M
¶rT:du de dJ:=by rintro ds M R ⟨n,ps,rs,r,d,rfl,_⟩;rfl
¶uB:FnScope pf dJ (ak iZ):=by @"sc"
def fE:DTS:=aU (bV (dOp qEq (dOp qIx (af 1) (dC (.int 0))) (dC (.str "under"))) (dCB aZ (ab (af 0) (ab (dOp qIx (af 1) (dC (.int 1))) ao))))
def jz:DTS:=aR (dIf (az (dOp qEq (dOp qIx (af 1) (dC (.int 0))) (dC (.str "person")))) (aU (bV (dCB iq (ab (dOp qIx (af 1) (dC (.int 1))) (ab (dC (.ty "str")) ao))) (dOp qIn (dOp qIx (af 1) (dC (.int 1))) (dLC 2 [] (cN (dOp qIx (af 0) (dC (.int 0)))) (iF 2 (bw (aH 0) (bw (aH 1) iG))) oV (af 0))))) aO) (fE)
def jA:DTS:=aR (dIf (az (dOp qEq (dOp qIx (af 1) (dC (.int 0))) (dC (.str "room")))) (aU (dCB cb (ab (af 0) (ab (dOp qIx (af 1) (dC (.int 1))) ao)))) aO) (jz)
def iN:DTS:=aR (dIf (dOr (gi (az (dCB iq (ab (af 1) (ab (dC (.ty "tuple")) ao))))) (az (dOp qNe (dCB jo (ab (af 1) ao)) (dC (.int 2))))) (aU (dC (.bl false))) aO) (jA)
include T C_l_is_stamp C_l_is_room in
¶sH:cW P w K mg base 3 "_law_is_what" pf iZ iN:=λ_ _ _ _ _ _ _ hr =>
  ah (aP (pS (eS (bj (bm (av br T.b_isinstance aq (aa ac (aa (bq T.b_tuple bp) ad))))) (dZ (aE (pT hr) (av bJ T.b_len bL (aa ac ad)) ae)))) (al (am jr)) aB)
  (ah (aP (aE (bc hr) (aX ac ae) aY) (al (am (ar C_l_is_room hr (aa ac (aa (aX ac ae) ad))))) aB)
  (ah (aP (aE (bc hr) (aX ac ae) aY) (al (am (cB (av br T.b_isinstance aq (aa (aX ac ae) (aa (bq T.b_str ko) ad))) (da (er (Ev hr) (aX ac ae) (sv (N':=["_law_name","_law_many"]) (nt:=2) (js:=[]) (ca (aX ac ae)) (λ_ _ _ _=>iL (bg (bv (show AB4 (["_law_name","_law_many"]:List Str) by decide +kernel)) (bg (bv (show AB4 (["_law_name","_law_many"]:List Str) by decide +kernel)) eT))) (λ_ _ _ _=>bZ) (λ_ _ _ _=>ac))))))) aB)
  (al (am (cB (er (bc hr) (aX ac ae) aY) (da (ar C_l_is_stamp hr (aa ac (aa (aX ac ae) ad)))))))))
¶tp:WpT de 2 iN:=by
 rintro ds M R ⟨n,ps,rs,r,d,rfl,nd,g,h⟩
 simp only[iN]
 rcases iI M g with⟨xs,rfl⟩|⟨e1,e2⟩
 ·#⟨hl,m,rfl,gx⟩:=g.tup
  @"dl"
  !⟨by decide,?_⟩
  rw[show iw "tuple" "tuple" = true from rfl]
  @"ifs"
  !⟨⟨aw,aw⟩,?_⟩
  rw[bU]
  rcases lz (.tup xs)with⟨a,b,e⟩|⟨e1,e2⟩
  ·injection e with e
   subst e
   rw[show ((([a,b]:List D).length:Int)==2)=true from rfl]
   @"ifs"
   have ga:=gx a (by simp)
   have gb:=gx b (by simp)
   simp only[jA]
   @"dl"
   !⟨⟨ga.ok,aM⟩,?_⟩
   rw[ic]
   simp only[qR]at h
   cases e1:isS (AA1 "room") a with
   | true =>
    rw[e1,if_pos rfl]at h
    ~bb ⟨m,_,rs,r,b,rfl,gb,aG.now h⟩
   | false =>
    rw[e1,if_neg AAb]at h
    !bH ?_
    simp only[jz]
    rcases zu M gb with⟨z,rfl⟩|⟨f1,f2⟩
    ·@"dl"
     !⟨⟨ga.ok,aM⟩,?_⟩
     rw[ic]
     cases e2:isS (AA1 "person") a with
     | true =>
      rw[e2,if_pos rfl]at h
      !bb ⟨by decide,?_⟩
      rw[show iw "str" "str" = true from rfl]
      @"ifs"
      intro hz
      ~Ir gb trivial (oN ps) (λx hx=>by #⟨q,_,rfl⟩:=AAN.mp hx;~⟨_,_,rfl⟩) hz h
     | false =>
      rw[e2,if_neg AAb]at h
      !bH ?_
      simp only[fE]
      @"dl"
      !⟨⟨ga.ok,aM⟩,?_⟩
      rw[ic]
      cases e3:isS (AA1 "under") a with
      | true =>
       rw[e3,AAx]at h
       @"ifs"
       ~⟨m,ps,_,_,rfl,nd,gb,aG.now h⟩
      | false =>
       rw[e3,AAw]at h
       @"ifs"
       ~aG.now h
    ·rw[DP f2]at h
     @"dl"
     !⟨⟨ga.ok,aM⟩,?_⟩
     rw[ic]
     cases e2:isS (AA1 "person") a with
     | true =>
      rw[e2,if_pos rfl]at h
      !bb ⟨⟨gb.thing.1,by decide⟩,?_⟩
      simp only[tyD]at f1
      rw[f1]
      @"ifs"
      ~aG.now h
     | false =>
      rw[e2,if_neg AAb]at h
      !bH ?_
      simp only[fE]
      @"dl"
      !⟨⟨ga.ok,aM⟩,?_⟩
      rw[ic]
      cases e3:isS (AA1 "under") a with
      | true =>
       rw[e3,AAx]at h
       @"ifs"
       ~⟨m,ps,_,_,rfl,nd,gb,aG.now h⟩
      | false =>
       rw[e3,AAw]at h
       @"ifs"
       ~aG.now h
  ·have e3:((xs.length:Int)==2)=false:=e1
   rw[e3]
   @"ifs"
   rw[qQ e2]at h
   ~aG.now h
 ·rw[qQ λa b=>e2 _]at h
  @"dl"
  !⟨⟨g.thing.1,by decide⟩,?_⟩
  simp only[tyD]at e1
  rw[e1]
  @"ifs"
  ~aG.now h
include T C_l_is_stamp C_l_is_room in
¶vb:Cal P w K mg base 4 "_law_is_what" dJ de :=
 Cal.byH T.f_l_is_what uB rT (sH T C_l_is_stamp C_l_is_room) tp
variable(C_l_is_what:Cal P w K mg base 4 "_law_is_what" dJ de)
def eG:DSp:=λds M R=>∃(n:Nat) (ps:List (Str×Int)) (rs:List (Str×List Str)) (r:List D) (d:D),ds=[.tup (.tup (ps.map aK)::.tup (rs.map bP)::r),d]/\(ps.map (·.1)).Nodup/\Gdn M n d/\R (.bl (wB M ps rs d)) M
¶vH:du eG eX:=by rintro ds M R ⟨n,ps,rs,r,d,rfl,_⟩;rfl
¶cf{M:Mem}{z k:Str}{i j:Int}:eqD M eqN (.tup [.str z,.int i]) (.tup [.str k,.int j])=((z==k)&&(i==j)):=by
 show (eqD M 29 (.str z) (.str k)&&(eqD M 29 (.int i) (.int j)&&true))=_
 rw[cx,bU,AE6]
¶list1{xs:List D}(h:xs.length=1):∃a,xs=[a]:=match xs,h with
 | [a],_=>⟨a,rfl⟩
¶Kf{xs:List D}(h:xs.length=2):∃a b,xs=[a,b]:=match xs,h with
 | [a,b],_=>⟨a,b,rfl⟩
¶Na{xs:List D}(h:xs.length=3):∃a b c,xs=[a,b,c]:=match xs,h with
 | [a,b,c],_=>⟨a,b,c,rfl⟩
section
variable{M:Mem}{ps:List (Str×Int)}{rs:List (Str×List Str)}{d a b c:D}
¶uS:cc M ps rs (AA1 "room") d=Bl (rs.map (·.1)) d:=by
 unfold cc;rw[if_pos (by decide +kernel)]
¶AV:cc M ps rs (AA1 "under") d=(Er d||cO ps d):=by
 unfold cc;rw[if_neg (by decide +kernel),if_pos (by decide +kernel)]
¶gM:cc M ps rs (AA1 "message") d=cO ps d:=by
 unfold cc;rw[if_neg (by decide +kernel),if_neg (by decide +kernel),if_pos (by decide +kernel)]
¶nR:cc M ps rs (AA1 "saying") d=iz d:=by
 unfold cc;rw[if_neg (by decide +kernel),if_neg (by decide +kernel),if_neg (by decide +kernel),if_pos (by decide +kernel)]
¶Ds:cc M ps rs (AA1 "sort") d=oE d:=by
 unfold cc;rw[if_neg (by decide +kernel),if_neg (by decide +kernel),if_neg (by decide +kernel),if_neg (by decide +kernel),if_pos (by decide +kernel)]
¶xL:cc M ps rs (AA1 "vector") d=dE M ps d:=by
 unfold cc;rw[if_neg (by decide +kernel),if_neg (by decide +kernel),if_neg (by decide +kernel),if_neg (by decide +kernel),if_neg (by decide +kernel),if_pos (by decide +kernel)]
¶Dr:cc M ps rs (AA1 "what") d=qR ps rs d:=by
 unfold cc;rw[if_neg (by decide +kernel),if_neg (by decide +kernel),if_neg (by decide +kernel),if_neg (by decide +kernel),if_neg (by decide +kernel),if_neg (by decide +kernel),if_pos (by decide +kernel)]
¶Dt:cc M ps rs (AA1 "on") d=isBl d:=by
 unfold cc
 rw[if_neg (by decide +kernel),if_neg (by decide +kernel),if_neg (by decide +kernel),if_neg (by decide +kernel),if_neg (by decide +kernel),if_neg (by decide +kernel),if_neg (by decide +kernel),show (AA1 "on" == AA1 "on")=true from by decide +kernel,AAx]
¶act_1{z k:Str}(h:aT.find? (λp=>p.1==z)=some (z,[k])):wB M ps rs (.tup [.str z,a])=cc M ps rs k a:=by
 rw[ku h]
 show (true&&(cc M ps rs k a&&true))=_
 rw[AAx,AE6]
¶Lw{z k l:Str}(h:aT.find? (λp=>p.1==z)=some (z,[k,l])):wB M ps rs (.tup [.str z,a,b])=(cc M ps rs k a&&cc M ps rs l b):=by
 rw[ku h]
 show (true&&(cc M ps rs k a&&(cc M ps rs l b&&true)))=_
 rw[AAx,AE6]
¶Ow{z k l m:Str}(h:aT.find? (λp=>p.1==z)=some (z,[k,l,m])):wB M ps rs (.tup [.str z,a,b,c])=(cc M ps rs k a&&(cc M ps rs l b&&cc M ps rs m c)):=by
 rw[ku h]
 show (true&&(cc M ps rs k a&&(cc M ps rs l b&&(cc M ps rs m c&&true))))=_
 rw[AAx,AE6]
¶Ou{z:Str}{xs:List D}(h:∀p∈aT,¬(p.1=z/\(xs.length:Int)=p.2.length)):wB M ps rs (.tup (.str z::xs))=false:=by
 cases hf:aT.find? (λp=>p.1==z) with
 | none=>~Ah hf
 | some p =>
  rw[ku hf]
  have h1:=h p (List.mem_of_find?_eq_some hf)
  have h2:p.1=z:=by
   have:=List.find?_some hf
   ~eq_of_beq this
  rw[beq_eq_false_iff_ne.mpr λe=>h1 ⟨h2,by rw[e]⟩,AAw]
end
¶fJ:FnScope qK eX (ak kM):=by @"sc"
def gC:DTS:=aU (bV (dOp qIn (af 3) (gf (ab (gh (ab (dC (.str "back")) (ab (dC (.int 1)) ao))) (ab (gh (ab (dC (.str "seen")) (ab (dC (.int 1)) ao))) (ab (gh (ab (dC (.str "rung")) (ab (dC (.int 1)) ao))) ao))))) (dCB aZ (ab (af 0) (ab (dOp qIx (af 2) (dC (.int 0))) ao))))
def lA:DTS:=aR (dIf (az (dOp qEq (af 3) (gh (ab (dC (.str "hush")) (ab (dC (.int 2)) ao))))) (aU (bV (dCB de (ab (af 0) (ab (dOp qIx (af 2) (dC (.int 0))) ao))) (dCB iq (ab (dOp qIx (af 2) (dC (.int 1))) (ab (dC (.ty "bool")) ao))))) aO) (gC)
def lB:DTS:=aR (dIf (az (dOp qEq (af 3) (gh (ab (dC (.str "read")) (ab (dC (.int 2)) ao))))) (aU (bV (dCB cb (ab (af 0) (ab (dOp qIx (af 2) (dC (.int 0))) ao))) (dCB cw (ab (af 0) (ab (dOp qIx (af 2) (dC (.int 1))) ao))))) aO) (lA)
def lC:DTS:=aR (dIf (az (dOp qEq (af 3) (gh (ab (dC (.str "like")) (ab (dC (.int 3)) ao))))) (aU (bV (dCB aZ (ab (af 0) (ab (dOp qIx (af 2) (dC (.int 0))) ao))) (bV (dCB df (ab (dOp qIx (af 2) (dC (.int 1))) ao)) (dCB iq (ab (dOp qIx (af 2) (dC (.int 2))) (ab (dC (.ty "bool")) ao)))))) aO) (lB)
def gD:DTS:=aR (dIf (az (dOp qEq (af 3) (gh (ab (dC (.str "change")) (ab (dC (.int 2)) ao))))) (aU (bV (dCB aZ (ab (af 0) (ab (dOp qIx (af 2) (dC (.int 0))) ao))) (dCB bR (ab (dOp qIx (af 2) (dC (.int 1))) ao)))) aO) (lC)
def gE:DTS:=aU (bV (dCB cb (ab (af 0) (ab (dOp qIx (af 2) (dC (.int 0))) ao))) (bV (af 4) (dCB bR (ab (dOp qIx (af 2) (dC (.int 2))) ao))))
def lE:DTS:=aR (dIf (az (dOp qEq (af 3) (gh (ab (dC (.str "say")) (ab (dC (.int 3)) ao))))) (aR (db (Oj (dOp qIs (dOp qIx (af 2) (dC (.int 1))) (dC .non)) (dCB aZ (ab (af 0) (ab (dOp qIx (af 2) (dC (.int 1))) ao)))) 4) (gE)) aO) (gD)
def lF:DTS:=aR (db (gh (ab (dOp qIx (af 1) (dC (.int 0))) (ab (dCB jo (ab (af 2) ao)) ao))) 3) (lE)
def lG:DTS:=aR (db (dSl (af 1) (dq (dC (.int 1))) bA) 2) (lF)
def kF:DTS:=aR (dIf (dOr (gi (az (dCB iq (ab (af 1) (ab (dC (.ty "tuple")) ao))))) (dOr (az (dOp qEq (af 1) (gh ao))) (gi (az (dCB iq (ab (dOp qIx (af 1) (dC (.int 0))) (ab (dC (.ty "str")) ao))))))) (aU (dC (.bl false))) aO) (lG)
include T C_l_is_stamp C_l_is_vector C_l_is_name C_l_is_saying C_l_is_room C_l_is_what in
¶wd:cW P w K mg base 4 "_law_is_act" qK kM kF:=λ_ _ _ _ _ _ _ hr =>
  ah (aP (pS (eS (bj (bm (av br T.b_isinstance aq (aa ac (aa (bq T.b_tuple bp) ad))))) (eS (aE (bc hr) ac (ck ad)) (dZ (bj (bm (av br T.b_isinstance aq (aa (aX ac ae) (aa (bq T.b_str ko) ad))))))))) (al (am jr)) aB)
  (ah (aN fJ.nd (bF ac (bt ae) (bT)))
  (ah (aN fJ.nd (ck (aa (aX ac ae) (aa (av bJ T.b_len bL (aa ac ad)) ad))))
  (ah (aP (aE (bc hr) ac (ck (aa aY (aa ae ad)))) (ah (aN fJ.nd (k_or (er Nv (aX ac ae) Hb) (da (ar C_l_is_stamp hr (aa ac (aa (aX ac ae) ad))))))
  (al (am (cB (ar C_l_is_room hr (aa ac (aa (aX ac ae) ad))) (cB ac (da (ar C_l_is_saying hr (aa (aX ac ae) ad)))))))) aB)
  (ah (aP (aE (bc hr) ac (ck (aa aY (aa ae ad)))) (al (am (cB (ar C_l_is_stamp hr (aa ac (aa (aX ac ae) ad))) (da (ar C_l_is_saying hr (aa (aX ac ae) ad)))))) aB)
  (ah (aP (aE (bc hr) ac (ck (aa aY (aa ae ad)))) (al (am (cB (ar C_l_is_stamp hr (aa ac (aa (aX ac ae) ad))) (cB (ar C_l_is_name hr (aa (aX ac ae) ad)) (da (av br T.b_isinstance aq (aa (aX ac ae) (aa (bq T.b_bool jw) ad)))))))) aB)
  (ah (aP (aE (bc hr) ac (ck (aa aY (aa ae ad)))) (al (am (cB (ar C_l_is_room hr (aa ac (aa (aX ac ae) ad))) (da (ar C_l_is_vector hr (aa ac (aa (aX ac ae) ad))))))) aB)
  (ah (aP (aE (bc hr) ac (ck (aa aY (aa ae ad)))) (al (am (cB (ar C_l_is_what hr (aa ac (aa (aX ac ae) ad))) (da (av br T.b_isinstance aq (aa (aX ac ae) (aa (bq T.b_bool jw) ad))))))) aB)
  (al (am (cB (er (Ev hr) ac (cq (aa (ck (aa aY (aa ae ad))) (aa (ck (aa aY (aa ae ad))) (aa (ck (aa aY (aa ae ad))) ad))))) (da (ar C_l_is_stamp hr (aa ac (aa (aX ac ae) ad))))))))))))))
section
variable{M:Mem}{R:DK}{ps:List (Str×Int)}{rs:List (Str×List Str)}{r:List D}{m:Nat}{z:Str}{L:Int}{xs:List D}{y4:Option D}
¶Nb(nd:(ps.map (·.1)).Nodup)(gx:∀x∈xs,Gdn M m x)(hL:(xs.length:Int)=L)(no:∀p∈aT,p.1=z->L=p.2.length->(z==AA1 "back" || z==AA1 "seen" || z==AA1 "rung")=true/\L=1)(h:R (.bl (wB M ps rs (.tup (.str z::xs)))) M) :
  gC (EE M R) [some (.tup (.tup (ps.map aK)::.tup (rs.map bP)::r)),some (.tup (.str z::xs)),some (.tup xs),some (.tup [.str z,.int L]),y4] M:=by
 simp only[gC]
 have kin:∀B:Mem,inD B (.tup [.str z,.int L]) [.tup [.str (AA1 "back"),.int 1],.tup [.str (AA1 "seen"),.int 1],.tup [.str (AA1 "rung"),.int 1]]=((z==AA1 "back" || z==AA1 "seen" || z==AA1 "rung")&&(L==1)):=λB=>by
  unfold inD
  rw[ABe,ABe,ABe,List.any_nil,cf,cf,cf,Bool.or_false,Bool.beq_comm (a:=AA1 "back"),Bool.beq_comm (a:=AA1 "seen"),Bool.beq_comm (a:=AA1 "rung"),Bool.beq_comm (a:=(1:Int))]
  cases (z==AA1 "back")<;>cases (z==AA1 "seen")<;>cases (z==AA1 "rung")<;>cases (L==1)<;>rfl
 cases hk:((z==AA1 "back" || z==AA1 "seen" || z==AA1 "rung")&&(L==1)) with
 | true =>
  rw[AAD,beq_iff_eq]at hk
  #⟨x,rfl⟩:=list1 (xs:=xs) ¤
  @"dl"
  !⟨aC ¤,aC ¤,aC ¤,aC ¤,?_⟩
  !⟨_,ax,⟨rfl,rfl⟩,?_⟩
  rw[kin,hk.1,hk.2]
  @"ifs"
  have hf:∃k,k=AA1 "message"/\aT.find? (λp=>p.1==z)=some (z,[k]):=by
   have h1:=hk.1
   rw[AEB,AEB,beq_iff_eq,beq_iff_eq,beq_iff_eq]at h1
   rcases h1 with(rfl | rfl) | rfl<;>~⟨_,rfl,by decide +kernel⟩
  #⟨k,rfl,hf⟩:=hf
  rw[act_1 hf,gM]at h
  ~⟨m,ps,_,x,rfl,nd,(gx x (by simp)).grow rM,aG.bl h rM⟩
 | false =>
  have e:wB M ps rs (.tup (.str z::xs))=false:=Ou λp hp ⟨h1,h2⟩=>by
   #⟨l1,l2⟩:=no p hp h1 ¤
   rw[l1,l2]at hk
   cases hk
  rw[e]at h
  @"dl"
  !⟨aC ¤,aC ¤,aC ¤,aC ¤,?_⟩
  !⟨_,ax,⟨rfl,rfl⟩,?_⟩
  rw[kin,hk]
  @"ifs"
  ~aG.bl h rM
end
section
variable{M:Mem}{R:DK}{ps:List (Str×Int)}{rs:List (Str×List Str)}{r:List D}{m:Nat}{z:Str}{L:Int}{xs:List D}{y4:Option D}
¶zP{E:DEnds}{x0 x1 x2:D}(g0:Gdn M m x0)(g2:Gdn M m x2)(h:R (.bl (wB M ps rs (.tup [.str (AA1 "say"),x0,x1,x2]))) M)(hE:E.rt=aG M R)(b:Bool)(hb:(Er x1||cO ps x1)=b) :
  gE E [some (.tup (.tup (ps.map aK)::.tup (rs.map bP)::r)),some (.tup [.str (AA1 "say"),x0,x1,x2]),some (.tup [x0,x1,x2]),some (.tup [.str (AA1 "say"),.int L]),some (.bl b)] M:=by
 rw[Ow (k:=AA1 "room") (l:=AA1 "under") (m:=AA1 "saying") (by decide +kernel),uS,AV,nR,hb]at h
 simp only[gE]
 @"dl"
 rw[hE]
 !⟨m,_,rs,r,x0,rfl,g0,?_⟩
 cases e0:Bl (rs.map (·.1)) x0 with
 | false=>rw[e0,AAw]at h;@"ifs";~aG.now h
 | true =>
  rw[e0,AAx]at h
  @"ifs"
  cases b with
  | false=>rw[AAw]at h;~bH (aG.now h)
  | true=>rw[AAx]at h;~bb ⟨x2,rfl,g2.thing,aG.now h⟩
¶Nc(nd:(ps.map (·.1)).Nodup)(gx:∀x∈xs,Gdn M m x)(hL:(xs.length:Int)=L)(n1:¬(z=AA1 "say"/\L=3))(h:R (.bl (wB M ps rs (.tup (.str z::xs)))) M) :
  gD (EE M R) [some (.tup (.tup (ps.map aK)::.tup (rs.map bP)::r)),some (.tup (.str z::xs)),some (.tup xs),some (.tup [.str z,.int L]),y4] M:=by
 have kk:∀(k:Str) (i:Int),¬(z=k/\L=i)->((z==k)&&(L==i))=false:=λk i h=>by
  cases e:((z==k)&&(L==i)) with
  | false=>rfl
  | true=>rw[AAD,beq_iff_eq,beq_iff_eq]at e;~absurd e h
 have kt:∀(k:Str) (i:Int),(z=k/\L=i)->((z==k)&&(L==i))=true:=λk i h=>by rw[AAD,beq_iff_eq,beq_iff_eq];~h
 simp only[gD]
 by_cases c2:z=AA1 "change"/\L=2
 ·#⟨x0,x1,rfl⟩:=Kf (xs:=xs) ¤
  @"dl"
  !⟨aC ¤,⟨rfl,rfl⟩,?_⟩
  rw[cf,kt _ _ c2]
  #⟨rfl,rfl⟩:=c2
  rw[Lw (k:=AA1 "message") (l:=AA1 "saying") (by decide +kernel),gM,nR]at h
  !bb ⟨m,ps,_,x0,rfl,nd,gx x0 (by simp),?_⟩
  cases e0:cO ps x0 with
  | false=>rw[e0,AAw]at h;@"ifs";~aG.now h
  | true=>rw[e0,AAx]at h;@"ifs";~⟨x1,rfl,(gx x1 (by simp)).thing,aG.now h⟩
 @"dl"
 !⟨aC ¤,⟨rfl,rfl⟩,?_⟩
 rw[cf,kk _ _ c2]
 !bH ?_
 simp only[lC]
 by_cases c3:z=AA1 "like"/\L=3
 ·#⟨x0,x1,x2,rfl⟩:=Na (xs:=xs) ¤
  @"dl"
  !⟨aC ¤,⟨rfl,rfl⟩,?_⟩
  rw[cf,kt _ _ c3]
  #⟨rfl,rfl⟩:=c3
  rw[Ow (k:=AA1 "message") (l:=AA1 "sort") (m:=AA1 "on") (by decide +kernel),gM,Ds,Dt]at h
  !bb ⟨m,ps,_,x0,rfl,nd,gx x0 (by simp),?_⟩
  cases e0:cO ps x0 with
  | false=>rw[e0,AAw]at h;@"ifs";~aG.now h
  | true =>
   rw[e0,AAx]at h
   @"ifs"
   !⟨x1,rfl,(gx x1 (by simp)).thing,?_⟩
   cases e1:oE x1 with
   | false=>rw[e1,AAw]at h;@"ifs";~aG.now h
   | true =>
    rw[e1,AAx]at h
    @"ifs"
    !⟨⟨(gx x2 (by simp)).thing.1,by decide⟩,?_⟩
    have e:=Ep (gx x2 (by simp))
    simp only[tyD]at e
    rw[e]
    ~aG.now h
 @"dl"
 !⟨aC ¤,⟨rfl,rfl⟩,?_⟩
 rw[cf,kk _ _ c3]
 !bH ?_
 simp only[lB]
 by_cases c4:z=AA1 "read"/\L=2
 ·#⟨x0,x1,rfl⟩:=Kf (xs:=xs) ¤
  @"dl"
  !⟨aC ¤,⟨rfl,rfl⟩,?_⟩
  rw[cf,kt _ _ c4]
  #⟨rfl,rfl⟩:=c4
  rw[Lw (k:=AA1 "room") (l:=AA1 "vector") (by decide +kernel),uS,xL]at h
  !bb ⟨m,_,rs,r,x0,rfl,gx x0 (by simp),?_⟩
  cases e0:Bl (rs.map (·.1)) x0 with
  | false=>rw[e0,AAw]at h;@"ifs";~aG.now h
  | true=>rw[e0,AAx]at h;@"ifs";~⟨m,ps,_,x1,rfl,nd,gx x1 (by simp),(gx x1 (by simp)).few,aG.now h⟩
 @"dl"
 !⟨aC ¤,⟨rfl,rfl⟩,?_⟩
 rw[cf,kk _ _ c4]
 !bH ?_
 simp only[lA]
 by_cases c5:z=AA1 "hush"/\L=2
 ·#⟨x0,x1,rfl⟩:=Kf (xs:=xs) ¤
  @"dl"
  !⟨aC ¤,⟨rfl,rfl⟩,?_⟩
  rw[cf,kt _ _ c5]
  #⟨rfl,rfl⟩:=c5
  rw[Lw (k:=AA1 "what") (l:=AA1 "on") (by decide +kernel),Dr,Dt]at h
  !bb ⟨m,ps,rs,r,x0,rfl,nd,gx x0 (by simp),?_⟩
  cases e0:qR ps rs x0 with
  | false=>rw[e0,AAw]at h;@"ifs";~aG.now h
  | true =>
   rw[e0,AAx]at h
   @"ifs"
   !⟨⟨(gx x1 (by simp)).thing.1,by decide⟩,?_⟩
   have e:=Ep (gx x1 (by simp))
   simp only[tyD]at e
   rw[e]
   ~aG.now h
 @"dl"
 !⟨aC ¤,⟨rfl,rfl⟩,?_⟩
 rw[cf,kk _ _ c5]
 !bH ?_
 !Nb nd gx hL (λp hp h1 h2=>?_) h
 simp only[aT,AAH,AAf,or_false]at hp
 rcases hp with rfl | rfl | rfl | rfl | rfl | rfl | rfl | rfl
 ·~absurd ⟨h1.symm,by simpa using h2⟩ n1
 ·~absurd ⟨h1.symm,by simpa using h2⟩ c2
 ·~⟨by rw[←h1];decide +kernel,by simpa using h2⟩
 ·~absurd ⟨h1.symm,by simpa using h2⟩ c3
 ·~absurd ⟨h1.symm,by simpa using h2⟩ c4
 ·~⟨by rw[←h1];decide +kernel,by simpa using h2⟩
 ·~absurd ⟨h1.symm,by simpa using h2⟩ c5
 ·~⟨by rw[←h1];decide +kernel,by simpa using h2⟩
¶wS:WpT eG 5 kF:=by
 rintro ds M R ⟨n,ps,rs,r,d,rfl,nd,g,h⟩
 simp only[kF]
 rcases iI M g with⟨xs,rfl⟩|⟨e1,e2⟩
 ·#⟨hl,m,rfl,gx⟩:=g.tup
  cases xs with
  | nil =>
   @"dl"
   !⟨by decide,?_⟩
   rw[show iw "tuple" "tuple" = true from rfl]
   @"ifs"
   !⟨AAT _,⟨rfl,rfl⟩,?_⟩
   rw[show eqD M eqN (.tup []) (.tup [])=true from rfl]
   @"ifs"
   ~aG.now h
  | cons a xs =>
   have ga:=gx a (by simp)
   rcases zu M ga with⟨z,rfl⟩|⟨f1,f2⟩
   ·@"dl"
    !⟨by decide,?_⟩
    rw[show iw "tuple" "tuple" = true from rfl]
    @"ifs"
    !⟨AAT _,⟨g.ok,rfl⟩,?_⟩
    rw[show eqD M eqN (.tup (.str z::xs)) (.tup [])=false from rfl]
    @"ifs"
    !⟨by decide,?_⟩
    rw[show iw "str" "str" = true from rfl]
    @"ifs"
    simp only[lG]
    @"dl"
    rw[zZ]
    simp only[lF]
    @"dl"
    !⟨aC ¤,?_⟩
    obtain⟨L,hL⟩:∃L:Int,(xs.length:Int)=L:=⟨_,rfl⟩
    rw[hL]
    simp only[lE]
    by_cases c1:z=AA1 "say"/\L=3
    ·#⟨x0,x1,x2,rfl⟩:=Na (xs:=xs) ¤
     @"dl"
     !⟨aC ¤,⟨rfl,rfl⟩,?_⟩
     rw[cf,show ((z==AA1 "say")&&(L==3))=true from by rw[AAD,beq_iff_eq,beq_iff_eq];~c1]
     #⟨rfl,rfl⟩:=c1
     !bb ?_
     have g0:=gx x0 (by simp)
     have g1:=gx x1 (by simp)
     have g2:=gx x2 (by simp)
     cases x1<;>first
      | ~zP g0 g2 h rfl true rfl
      | ~⟨m,ps,_,_,rfl,nd,g1,zP g0 g2 h rfl _ rfl⟩
      | ~bb (zP g0 g2 h rfl true rfl)
      | ~bH ⟨m,ps,_,_,rfl,nd,g1,zP g0 g2 h rfl _ rfl⟩
    ·@"dl"
     !⟨aC ¤,⟨rfl,rfl⟩,?_⟩
     rw[cf,show ((z==AA1 "say")&&(L==3))=false from by
      cases e:((z==AA1 "say")&&(L==3)) with
      | false=>rfl
      | true=>rw[AAD,beq_iff_eq,beq_iff_eq]at e;~absurd e c1]
     ~bH (Nc nd (λx hx=>gx x (AA9 _ hx)) hL c1 h)
   ·rw[Ai f2]at h
    @"dl"
    !⟨by decide,?_⟩
    rw[show iw "tuple" "tuple" = true from rfl]
    @"ifs"
    !⟨AAT _,⟨g.ok,rfl⟩,?_⟩
    rw[show eqD M eqN (.tup (a::xs)) (.tup [])=false from rfl]
    @"ifs"
    !⟨⟨ga.thing.1,by decide⟩,?_⟩
    simp only[tyD]at f1
    rw[f1]
    @"ifs"
    ~aG.now h
 ·rw[Aj e2]at h
  @"dl"
  !⟨⟨g.thing.1,by decide⟩,?_⟩
  simp only[tyD]at e1
  rw[e1]
  @"ifs"
  ~aG.now h
end
include T C_l_is_stamp C_l_is_vector C_l_is_name C_l_is_saying C_l_is_room C_l_is_what in
¶xO:Cal P w K mg base 5 "_law_is_act" eX eG :=
 Cal.byH T.f_l_is_act fJ vH (wd T C_l_is_stamp C_l_is_vector C_l_is_name C_l_is_saying C_l_is_room C_l_is_what) wS
variable(C_l_is_act:Cal P w K mg base 5 "_law_is_act" eX eG)
def cz:DSp:=λds M R=>∃(n:Nat) (ps:List (Str×Int)) (rs:List (Str×List Str)) (r:List D) (d:D),ds=[.tup (.tup (ps.map aK)::.tup (rs.map bP)::r),d]/\(ps.map (·.1)).Nodup/\Gdn M n d/\R (.bl (sT M ps rs d)) M
¶rY:du cz dO:=by rintro ds M R ⟨n,ps,rs,r,d,rfl,_⟩;rfl
¶uF:FnScope pk dO (ak jd):=by @"sc"
def jE:DTS:=aU (bV (dCB bx (ab (dOp qIx (af 1) (dC (.int 2))) (ab (dC (.int 0)) ao))) (dCB eG (ab (af 0) (ab (dOp qIx (af 1) (dC (.int 3))) ao))))
def iR:DTS:=aR (dIf (dOr (gi (az (dCB iq (ab (af 1) (ab (dC (.ty "tuple")) ao))))) (dOr (az (dOp qNe (dCB jo (ab (af 1) ao)) (dC (.int 4)))) (gi (az (dCB aZ (ab (af 0) (ab (dSl (af 1) bA (dq (dC (.int 2)))) ao))))))) (aU (dC (.bl false))) aO) (jE)
include T C_l_is_whole C_l_is_stamp C_l_is_act in
¶sL:cW P w K mg base 5 "_law_is_deed" pk jd iR:=λ_ _ _ _ _ _ _ hr =>
  ah (aP (pS (eS (bj (bm (av br T.b_isinstance aq (aa ac (aa (bq T.b_tuple bp) ad))))) (eS (aE (pT hr) (av bJ T.b_len bL (aa ac ad)) ae) (dZ (bj (bm (ar C_l_is_stamp hr (aa ac (aa (bF ac (bT) (bt ae)) ad))))))))) (al (am jr)) aB)
  (al (am (cB (ar C_l_is_whole hr (aa (aX ac ae) (aa ae ad))) (da (ar C_l_is_act hr (aa ac (aa (aX ac ae) ad)))))))
¶tz:WpT cz 2 iR:=by
 rintro ds M R ⟨n,ps,rs,r,d,rfl,nd,g,h⟩
 simp only[iR]
 rcases iI M g with⟨xs,rfl⟩|⟨e1,e2⟩
 ·#⟨hl,m,rfl,gx⟩:=g.tup
  @"dl"
  !⟨by decide,?_⟩
  rw[show iw "tuple" "tuple" = true from rfl]
  @"ifs"
  !⟨⟨aw,aw⟩,?_⟩
  rw[bU]
  rcases yA (.tup xs)with⟨a,b,c,e,z⟩|⟨e1,e2⟩
  ·injection z with z
   subst z
   rw[show ((([a,b,c,e]:List D).length:Int)==4)=true from rfl]
   @"ifs"
   have ga:=gx a (by simp)
   have gb:=gx b (by simp)
   have gc:=gx c (by simp)
   have ge:=gx e (by simp)
   !⟨m+1,ps,_,_,rfl,nd,ID g ga gb,?_⟩
   simp only[sT]at h
   simp only[show cutD [a,b,c,e] none (some 2)=[a,b]from rfl]
   cases es:cO ps (.tup [a,b]) with
   | false =>
    rw[es]at h
    @"ifs"
    ~aG.now h
   | true =>
    rw[es]at h
    @"ifs"
    simp only[jE]
    @"dl"
    !⟨0,c,rfl,gc.thing.1,?_⟩
    cases ec:aV 0 c with
    | false =>
     rw[ec]at h
     @"ifs"
     ~aG.now h
    | true =>
     rw[ec]at h
     @"ifs"
     ~⟨m,ps,rs,r,e,rfl,nd,ge,aG.now h⟩
  ·have e3:((xs.length:Int)==4)=false:=e1
   rw[e3]
   @"ifs"
   rw[my e2]at h
   ~aG.now h
 ·rw[my λa b c e=>e2 _]at h
  @"dl"
  !⟨⟨g.thing.1,by decide⟩,?_⟩
  simp only[tyD]at e1
  rw[e1]
  @"ifs"
  ~aG.now h
include T C_l_is_whole C_l_is_stamp C_l_is_act in
¶vh:Cal P w K mg base 6 "_law_is_deed" dO cz :=
 Cal.byH T.f_l_is_deed uF rY (sL T C_l_is_whole C_l_is_stamp C_l_is_act) tz
variable(C_l_is_deed:Cal P w K mg base 6 "_law_is_deed" dO cz)
def iD:DSp:=λds M R=>∃a b:Bool,ds=[.bl a,.bl b]/\R (.bl (a==b)) M
¶Ec:du iD nU:=by rintro ds M R ⟨a,b,rfl,_⟩;rfl
¶Gd:FnScope Fx nU (ak xA):=by @"sc"
def xc:DTS:=aU (bV (dCB iq (ab (af 0) (ab (dC (.ty "bool")) ao))) (dOp qEq (af 0) (af 1)))
include T in
¶ET:cW P w K mg base 0 "_law_truth" Fx xA xc:=λ_ _ _ _ _ _ _ hr =>
  al (am (cB (av br T.b_isinstance aq (aa ac (aa (bq T.b_bool jw) ad))) (da (er (bc hr) ac ac))))
¶FN:WpT iD 2 xc:=by
 rintro ds M R ⟨a,b,rfl,h⟩
 unfold xc
 @"dl"
 !⟨by decide,bb ⟨⟨qx,qx⟩,?_⟩⟩
 rw[NL]
 ~aG.now h
include T in
¶Gz:Cal P w K mg base 1 "_law_truth" nU iD :=
 Cal.byH T.f_truth Gd Ec (ET T) FN
variable(C_truth:Cal P w K mg base 1 "_law_truth" nU iD)
def fX:DSp:=λds M R=>∃(n:Nat) (c:Int) (p:Str×Int) (ps:List (Str×Int)) (rs:List (Str×List Str)) (r:List D),ds=[.ref n,.tup (.tup ((p::ps).map aK)::.tup (rs.map bP)::r)]/\M[n]?=some (ay c)/\Few (p::ps)/\1<=(aI (p::ps)).length/\(∀q∈p::ps,q.1.length<=8)/\(∀q∈rs,q.1.length<=8)/\1<=rs.length/\rs.length<=4/\∀(d:D) (B:Mem),WM M n B->Gdn B 6 d->R d B
¶Eh:du fX nZ:=by rintro ds M R ⟨n,c,p,ps,rs,r,rfl,_⟩;rfl
¶Ov{x:Str}{ds:List D}(hx:x.length<=10)(h:LI ds):GoodP 4 (.tup (.str x::ds)):=by
 #⟨⟨l1,l3⟩,hd⟩:=h
 !zX (n:=3) (λy hy=>?_) (by rw[AAA];&) (by decide)
 rcases AAH.mp hy with rfl | hy
 ·~ff ¤
 ·~hd y hy
¶Ld{ps:List (Str×Int)}{t k:Int}{d a:D}(h8:∀p∈ps,p.1.length<=8)(hd:d∈aI ps)(ha:GoodP 4 a):GoodP 5 (.tup [.int t,d,.int k,a]):=by
 !zX (n:=4) (λy hy=>?_) (by simp) (by decide)
 simp only[AAH,AAf,or_false]at hy
 rcases hy with rfl | rfl | rfl | rfl
 ·~vT
 ·~yx (n:=3) h8 hd (by decide)
 ·~vT
 ·~ha
¶mr:FnScope FC nZ (ak xF):=by @"sc"
def ui:DTS:=aU (dCB (ii 5) (ab (af 4) (ab (af 0) (ab (dC (.int 3)) ao))))
def uj:DTS:=aR (dIf (az (dOp qGt (dCB aD (ab (af 0) (ab (dC (.int 3)) ao))) (dC (.int 0)))) (aU (af 4)) aO) (ui)
def uk:DTS:=aR (db (dOp bf (af 2) (gh (ab (af 3) (ab (dCB wD (ab (af 0) (ab (af 1) (ab (gf ao) ao)))) ao)))) 4) (uj)
def nk:DTS:=aR (db (dCB aD (ab (af 0) (ab (dOp qIx (gf (ab (dC (.int 3)) (ab (dC (.int 200)) (ab (dOp Io (dC (.int 10)) (dC (.int 9))) ao)))) (dCB aD (ab (af 0) (ab (dC (.int 3)) ao)))) ao))) 3) (uk)
def um:DTS:=aR (db (dCB eP (ab (af 0) (ab (af 1) (ab (gf ao) ao)))) 2) (nk)
def xj:DTS:=aR (dIf (az (dOp qEq (dCB aD (ab (af 0) (ab (dC (.int 6)) ao))) (dC (.int 0)))) (aU (dCB (cg 5) (ab (af 0) (ab (dC (.int 3)) ao)))) aO) (um)
include T C_take C_stamp C_act C_thing C_bent in
¶EY:cW P w K mg base 11 "_law_drawn" FC xF xj:=λ_ _ _ _ _ _ _ hr =>
  ah (aP (aE (bc hr) (ar C_take hr (aa ac (aa ae ad))) ae) (al (am (ar C_thing hr (aa ac (aa ae ad))))) aB)
  (ah (aN mr.nd (ar C_stamp hr (aa ac (aa ac (aa (cq ad) ad)))))
  (ah (aN mr.nd (ar C_take hr (aa ac (aa (aX (cq (aa ae (aa ae (aa (bO zT ae ae) ad)))) (ar C_take hr (aa ac (aa ae ad)))) ad))))
  (ah (aN mr.nd (bO aF ac (ck (aa ac (aa (ar C_act hr (aa ac (aa ac (aa (cq ad) ad)))) ad)))))
  (ah (aP (aE vP (ar C_take hr (aa ac (aa ae ad))) ae) (al (am ac)) aB)
  (al (am (ar C_bent hr (aa ac (aa ac (aa ae ad))))))))))
¶KQ{M B:Mem}{R:DK}{n:Nat}{c t:Int}{d:D}{p:Str×Int}{ps:List (Str×Int)}{rs:List (Str×List Str)}{r:List D}(hn:M[n]?=some (ay c))(wm:WM M n B)(few:Few (p::ps))(h1:1<=(aI (p::ps)).length)(h8:∀q∈p::ps,q.1.length<=8)(r8:∀q∈rs,q.1.length<=8)(r1:1<=rs.length)(r4:rs.length<=4)(hd:d∈aI (p::ps))(h:∀(d:D) (B:Mem),WM M n B->Gdn B 6 d->R d B) :
  nk (EE M R) [some (.ref n),some (.tup (.tup ((p::ps).map aK)::.tup (rs.map bP)::r)),some (.tup [.int t,d]),none,none] B:=by
 have nM:n<M.length:=(AA2.mp hn).1
 simp only[nk]
 @"dl"
 have wm2:=wm.app [MO.lst [D.int 3,D.int 200,D.int (10 ^ ACG 9)]]
 have t2:aA (B++[MO.lst [D.int 3,D.int 200,D.int (10 ^ ACG 9)]]) B.length [D.int 3,D.int 200,D.int (10 ^ ACG 9)]:=ax
 have b1:=wm.len
 #⟨c2,hc2⟩:=wm2.get hn
 generalize B++[MO.lst [D.int 3,D.int 200,D.int (10 ^ ACG 9)]]=B2 at wm2 t2 hc2
 generalize B.length=k2 at t2 b1
 !⟨by unfold LH;decide,aC ¤,n,c2,3,rfl,hc2,by decide,by decide,λi c3 i0 i3=>⟨_,bI ¤ t2,?_⟩⟩
 have wm3:WM M n (B2.set n (ay c3)):=wm2.set hn _
 #⟨c4,hc4⟩:=wm3.get hn
 generalize B2.set n (ay c3)=B3 at wm3 hc4
 obtain⟨w,hw,w0,w15⟩:∃w:Int,atI [D.int 3,D.int 200,D.int (10 ^ ACG 9)] i=some (.int w)/\0<w/\w<1000000000000000:=by
  have:i=0\/i=1\/i=2:=¤
  rcases this with rfl | rfl | rfl
  ·~⟨3,bG (j:=0) rfl,by decide,by decide⟩
  ·~⟨200,bG (j:=1) rfl,by decide,by decide⟩
  ·~⟨10 ^ ACG 9,bG (j:=2) rfl,by decide,by decide⟩
 rw[hw]
 !⟨n,c4,w,rfl,hc4,w0,w15,λv c5 v0 v1=>?_⟩
 have wm4:WM M n (B3.set n (ay c5)):=wm3.set hn _
 generalize B3.set n (ay c5)=B4 at wm4
 simp only[uk]
 @"dl"
 have wm5:=wm4.app [MO.lst []]
 have l5:aA (B4++[MO.lst []]) B4.length []:=ax
 have b4:=wm4.len
 #⟨c6,hc6⟩:=wm5.get hn
 generalize B4++[MO.lst []]=B5 at wm5 l5 hc6
 generalize B4.length=q at l5 b4
 !⟨AAT _,n,q,c6,p,ps,rs,r,[],rfl,hc6,l5,¤,(λ_ z=>nomatch z),(λ_ z=>nomatch z),by simp,few,h1,h8,r8,r1,r4,λx ds B6 x10 ap w6=>?_⟩
 have wm6:=wm5.trans hn w6
 have gp:=Ld (t:=t) (k:=v) h8 hd (Ov x10 ap)
 #⟨c7,hc7⟩:=wm6.get hn
 !⟨aC ¤,aC (by first | & | (simp only[AAA,AAW];&)),?_⟩
 simp only[uj]
 @"dl"
 !⟨n,c7,3,rfl,hc7,by decide,by decide,λj c8 j0 j3=>?_⟩
 have wm7:WM M n (B6.set n (ay c8)):=wm6.set hn _
 #⟨c9,hc9⟩:=wm7.get hn
 generalize B6.set n (ay c8)=B7 at wm7 hc9
 dsimp only
 by_cases hj:0<j
 ·rw[decide_eq_true hj]
  ~bb (.inl (h _ _ wm7 ((gp.gd _).mono (by decide) (by decide))))
 ·rw[decide_eq_false hj]
  !bH ?_
  simp only[ui]
  @"dl"
  ~⟨n,6,5,c9,3,_,rfl,hc9,by decide,by decide,by decide,(gp.gd _).mono (by decide) (by decide),gp.sm,λd B w g f=>.inl (h _ _ (wm7.trans hn w) g)⟩
¶FS:WpT fX 5 xj:=by
 rintro ds M R ⟨n,c,p,ps,rs,r,rfl,hn,few,h1,h8,r8,r1,r4,h⟩
 have nM:n<M.length:=(AA2.mp hn).1
 simp only[xj]
 @"dl"
 !⟨n,c,6,rfl,hn,by decide,by decide,λi c1 i0 i5=>⟨⟨aw,aw⟩,?_⟩⟩
 have wm1:WM M n (M.set n (ay c1)):=WM.drawn
 generalize M.set n (ay c1)=B1 at wm1
 #⟨c2,hc2⟩:=wm1.get hn
 cases eqD B1 eqN (.int i) (.int 0) with
 | true =>
  ~bb ⟨n,c2,3,rfl,hc2,by decide,by decide,by decide,λd B w g f=>.inl (h _ _ (wm1.trans hn w) (g.mono (by decide) (by decide)))⟩
 | false =>
  !bH ?_
  simp only[um]
  @"dl"
  have wm2:=wm1.app [MO.lst []]
  have l2:aA (B1++[MO.lst []]) B1.length []:=ax
  have b1:=wm1.len
  #⟨c3,hc3⟩:=wm2.get hn
  generalize B1++[MO.lst []]=B2 at wm2 l2 hc3
  generalize B1.length=q at l2 b1
  ~⟨AAT _,n,q,c3,p::ps,_,[],rfl,hc3,l2,¤,(λ_ z=>nomatch z),by simp,few,h1,(λ_ _ z=>nomatch z),λt d B3 t1 hd w3=>KQ hn (wm2.trans hn w3) few h1 h8 r8 r1 r4 hd h⟩
include T C_take C_stamp C_act C_thing C_bent in
¶GD:Cal P w K mg base 12 "_law_drawn" nZ fX :=
 Cal.byH T.f_drawn mr Eh (EY T C_take C_stamp C_act C_thing C_bent) FS
variable(C_drawn:Cal P w K mg base 12 "_law_drawn" nZ fX)
¶zU:∀(ps kvs:List (D×D)),HKv ps->HKv kvs->HKv (ps.foldl (λkvs p=>xJ kvs p.1 p.2) kvs)
 | [],_,_,h=>h
 | p::ps,kvs,hp,h=>by
  #⟨h1,i,e⟩:=hp p (by simp)
  rw[AEG,e]
  ~zU ps _ (λq hq=>hp q (AA9 _ hq)) (Ey h h1)
¶DJ:∀(ps kvs:List (D×D)),(kvs.map (·.1)).Nodup->((ps.foldl (λkvs p=>xJ kvs p.1 p.2) kvs).map (·.1)).Nodup
 | [],_,h=>h
 | p::ps,kvs,h=>by
  rw[AEG]
  ~DJ ps _ (rK h)
def unD:D->D×Int
 | .tup [a,.int i]=>(a,i)
 | _=>(.non,0)
¶FT{kvs:List (D×D)}{ys:List D}(h:HKv kvs)(nd:(kvs.map (·.1)).Nodup)(p:ys.Perm (cX kvs)):∃hs:List (D×Int),ys=BL hs/\(∀q∈hs,Hd q.1)/\(hs.map (·.1)).Nodup/\hs.length=kvs.length:=by
 have at_:∀y∈ys,∃a i,y=.tup [a,.int i]/\Hd a:=λy hy=>by
  #⟨q,hq,rfl⟩:=AAN.mp (p.mem_iff.mp hy)
  #⟨h1,i,e⟩:=h q hq
  ~⟨q.1,i,by rw[e],h1⟩
 !⟨ys.map unD,?_,λq hq=>?_,?_,?_⟩
 ·unfold BL
  rw[AAi]
  have:ys.map ((λp:D×Int=>D.tup [p.1,.int p.2]) ∘ unD)=ys.map id:=ACl λy hy=>by
   #⟨a,i,rfl,_⟩:=at_ y hy
   rfl
  rw[this,List.map_id]
 ·#⟨y,hy,rfl⟩:=AAN.mp hq
  #⟨a,i,rfl,h1⟩:=at_ y hy
  ~h1
 ·have e:(cX kvs).map (λy=>(unD y).1)=kvs.map (·.1):=by
   unfold cX
   rw[AAi]
   !ACl λq hq=>?_
   #⟨h1,i,e⟩:=h q hq
   show (unD (.tup [q.1,q.2])).1=q.1
   rw[e]
   rfl
  rw[AAi]
  have pm:=p.map (λy=>(unD y).1)
  rw[e]at pm
  ~pm.nodup_iff.mpr nd
 ·rw[AA6,p.length_eq]
  unfold cX
  rw[AA6]
def ls:DSp:=λds M R=>∃(n:Nat) (c:Int) (ps:List (Str×Int)) (r:List D) (t hd:D) (num:Int) (r2:List D),ds=[.ref n,.tup (.tup (ps.map aK)::r),.tup (t::hd::.int num::r2)]/\M[n]?=some (ay c)/\Few ps/\Hd hd/\∀(hs:List (D×Int)) (B:Mem),(∀p∈hs,Hd p.1)->(hs.map (·.1)).Nodup->hs.length<=20->WM M n B->R (.tup (BL hs)) B
¶GS:du ls uY:=by rintro ds M R ⟨n,c,ps,r,t,hd,num,r2,rfl,_⟩;rfl
¶xu:FnScope IU uY (ak CU):=by @"sc"
def qZ:DTS:=aU (dCB iK (ab (iB (af 3)) ao))
def zi:DTS:=aR (dIf (az (dOp qGt (af 4) (dC (.int 0)))) (HR (af 3) (dOp qIx (af 2) (dC (.int 1))) (af 4)) aO) (qZ)
def zj:DTS:=aR (db (dOp bf (dOp FE (dOp qIx (af 2) (dC (.int 2))) (dC (.int 1))) (dCB aD (ab (af 0) (ab (dC (.int 4)) ao)))) 4) (zi)
def Ci:DTS:=aR (db (dCB uQ (ab (dCB eE (ab (af 0) (ab (af 1) ao))) ao)) 3) (zj)
include T C_take C_vector in
¶HM:cW P w K mg base 2 "_law_near" IU CU Ci:=λ_ _ _ _ _ _ _ hr =>
  ah (aN xu.nd (eK (Hn hr) T.b_dict Ls (aa (ar C_vector hr (aa ac (aa ac ad))) ad)))
  (ah (aN xu.nd (bO aF (bO vO (aX ac ae) ae) (ar C_take hr (aa ac (aa ae ad)))))
  (ah (aP (aE vP ac ae) (al (Kn hr ac (aX ac ae) ac)) aB)
  (al (am (eK iA T.b_tuple bp (aa (yq hr ac T.b_sorted) ad))))))
¶Iq{M B:Mem}{R:DK}{n k:Nat}{kvs:List (D×D)}{y1 y2 y4:Option D}(hk:HKv kvs)(nd:(kvs.map (·.1)).Nodup)(kl:kvs.length<=20)(g:B[k]?=some (.dkt kvs))(wm:WM M n B)(h:∀(hs:List (D×Int)) (B:Mem),(∀p∈hs,Hd p.1)->(hs.map (·.1)).Nodup->hs.length<=20->WM M n B->R (.tup (BL hs)) B) :
  qZ (EE M R) [some (.ref n),y1,y2,some (.ref k),y4] B:=by
 simp only[qZ]
 @"dl"
 !⟨kvs,g,KA hk ¤,λys hp up=>⟨ys,ax,?_⟩⟩
 #⟨hs,rfl,q1,q2,q3⟩:=FT hk nd hp
 ~.inl (h hs _ q1 q2 ¤ (wm.app _))
¶Jc:WpT ls 5 Ci:=by
 rintro ds M R ⟨n,c,ps,r,t,hd,num,r2,rfl,hn,few,hh,h⟩
 have nM:n<M.length:=(AA2.mp hn).1
 have hl:=dz few.2
 have f4:=few.1
 simp only[Ci]
 @"dl"
 !⟨n,c,ps,r,rfl,hn,few,λvs B1 vok wm1=>?_⟩
 #⟨hs,rfl,hsub,hpos⟩:=vok
 have hsl:=hsub.length_le
 rw[AA6]at hsl
 have hh1:HKv (hs.map λp=>(p.1,D.int p.2)):=λp hp=>by
  #⟨q,hq,rfl⟩:=AAN.mp hp
  ~⟨vS (hsub.subset (AAN.mpr ⟨q,hq,rfl⟩)),_,rfl⟩
 !⟨hs.map λp=>(p.1,.int p.2),by rw[AAi];rfl,λp hp=>?_,by rw[AA6];&,?_⟩
 ·#⟨h1,_⟩:=hh1 p hp
  !⟨NA h1,?_⟩
  #⟨z,i,e⟩:=h1
  rw[e]
  rfl
 have hk:HKv (dictOf (hs.map λp=>(p.1,D.int p.2))):=zU _ _ hh1 (λ_ z=>nomatch z)
 have nd:((dictOf (hs.map λp=>(p.1,D.int p.2))).map (·.1)).Nodup:=DJ _ [] ADJ
 have dl:=kY (ps:=hs.map λp=>(p.1,D.int p.2))
 rw[AA6]at dl
 generalize dictOf (hs.map λp=>(p.1,D.int p.2))=kvs at hk nd dl ⊢
 have wm2:=wm1.app [MO.dkt kvs]
 have g2:(B1++[MO.dkt kvs])[B1.length]?=some (.dkt kvs):=bo
 have b1:=wm1.len
 #⟨c2,hc2⟩:=wm2.get hn
 generalize B1++[MO.dkt kvs]=B2 at wm2 g2 hc2 ⊢
 generalize B1.length=k at g2 b1 ⊢
 simp only[zj]
 @"dl"
 !⟨n,c2,4,rfl,hc2,by decide,by decide,λi c3 i0 i4=>?_⟩
 have wm3:WM M n (B2.set n (ay c3)):=wm2.set hn _
 have g3:(B2.set n (ay c3))[k]?=some (.dkt kvs):=bK ¤ g2
 generalize B2.set n (ay c3)=B3 at wm3 g3
 simp only[zi]
 @"dl"
 cases decide (0<num-1+i) with
 | true =>
  #⟨z,j,rfl⟩:=hh
  have pl:=rL (kvs:=kvs) (k:=.tup [.str z,.int j]) (d:=.int (num-1+i))
  ~bb ⟨kvs,g3,rfl,small1000 ¤,Iq (Ey hk ⟨_,_,rfl⟩) (rK nd) ¤ (hZ g3) (wm3.hi ¤) h⟩
 | false=>~bH (Iq hk nd ¤ g3 wm3 h)
include T C_take C_vector in
¶JV:Cal P w K mg base 3 "_law_near" uY ls :=
 Cal.byH T.f_near xu GS (HM T C_take C_vector) Jc
variable(C_near:Cal P w K mg base 3 "_law_near" uY ls)
¶zQ{hd:D}{num:Int}:∀{hs:List (D×Int)},(hs.map (·.1)).Nodup->(hs.filter λp=>decide (p.1=hd)&&decide (num<p.2)).isEmpty = !gj hs hd num
 | [],_=>rfl
 | p::hs,nd=>by
  rw[AAL,ABG]at nd
  unfold gj
  rw[List.filter_cons,AB7]
  by_cases e:p.1=hd
  ·rw[decide_eq_true e,AAx]
   have:(hs.filter λp=>decide (p.1=hd)&&decide (num<p.2))=[]:=List.filter_eq_nil_iff.mpr λq hq=>by
    have:q.1≠hd:=λz=>nd.1 (by rw[e,←z];~ACn hq)
    rw[decide_eq_false this,AAw];decide
   rw[this]
   by_cases k:num<p.2
   ·show (if decide (num<p.2)=true then[p]else[]).isEmpty = !decide (num<p.2)
    rw[decide_eq_true k];rfl
   ·show (if decide (num<p.2)=true then[p]else[]).isEmpty = !decide (num<p.2)
    rw[decide_eq_false k];rfl
  ·rw[decide_eq_false e,AAw]
   ~zQ nd.2
noncomputable def hitD(hd:D)(num:Int):D->Bool
 | .tup (x::.int k::_)=>decide (x=hd)&&decide (num<k)
 | _=>false
def cntD:D->D
 | .tup (_::k::_)=>k
 | _=>.non
¶KB{hd:D}{num:Int}(hs:List (D×Int)):((BL hs).filter (hitD hd num)).map cntD=(hs.filter λp=>decide (p.1=hd)&&decide (num<p.2)).map λp=>.int p.2:=by
 unfold BL
 rw[List.filter_map,AAi]
 rfl
def VecN(y:D):Prop:=∃hs:List (D×Int),y=.tup (BL hs)/\(∀p∈hs,Hd p.1)/\(hs.map (·.1)).Nodup/\hs.length<=20
def fi:DSp:=λds M R=>∃(n:Nat) (c:Int) (ps:List (Str×Int)) (r:List D) (t:Int) (hd:D) (num:Int) (act:D),ds=[.ref n,.tup (.tup (ps.map aK)::r),.tup [.int t,hd,.int num,act]]/\M[n]?=some (ay c)/\Few ps/\(aI ps).Nodup/\Hd hd/\∀B:Mem,WM M n B->R (.bl true) B
¶xX:du fi gO:=by rintro ds M R ⟨n,c,ps,r,t,hd,num,act,rfl,_⟩;rfl
¶lst_wm{M B:Mem}{n q:Nat}{xs:List D}(w:WM M n B)(hq:q≠n)(l:aA M q xs):aA B q xs:=by
 #⟨c,L,rfl⟩:=w
 ~(bI hq l).more L
¶io:FnScope wE gO (ak ny):=by @"sc"
def mD:DTS:=aU (dC (.bl true))
def fB:DTS:=dIf (gi (az (dCB iD (ab (dCB dg (ab (af 2) (ab (af 4) ao))) (ab (af 5) ao))))) (aU (dC (.bl false))) aO
def mE:DTS:=aR (yP (cN (gf (ab (gh ao) (ab (dCB eE (ab (af 0) (ab (af 1) ao))) (ab (dCB ls (ab (af 0) (ab (af 1) (ab (af 2) ao)))) (ab (dCB ls (ab (af 0) (ab (af 1) (ab (af 2) ao)))) ao)))))) (aH 4) (aR (db (dOp qNe (dLC 2 [2] (cN (af 4)) (iF 2 (bw (aH 0) (bw (aH 1) iG))) (Fb (az (dOp qEq (af 0) (dOp qIx (af 2) (dC (.int 1))))) (az (dOp qGt (af 1) (dOp qIx (af 2) (dC (.int 2)))))) (af 1)) (gf ao)) 5) (fB))) (mD)
def mF:DTS:=aR (dIf (dOr (gi (az (dCB iq (ab (af 3) (ab (dC (.ty "tuple")) ao))))) (dOr (az (dOp qNe (af 3) (gh (ab (dOp qIx (af 2) (dC (.int 0))) (ab (dOp qIx (af 2) (dC (.int 1))) ao))))) (az (dCB iq (ab (dOp qIx (af 3) (dC (.int 0))) (ab (dC (.ty "bool")) ao)))))) (aU (dC (.bl false))) aO) (mE)
def mG:DTS:=aR (db (dCB eF (ab (af 2) ao)) 3) (mF)
include T C_stamp_of C_is_within C_vector C_truth C_near in
¶yE:cW P w K mg base 3 "_law_of_deed" wE ny mG:=λ_ _ _ _ _ _ _ hr =>
  ah (aN io.nd (ar C_stamp_of hr (aa ac ad)))
  (ah (aP (pS (eS (bj (bm (av br T.b_isinstance aq (aa ac (aa (bq T.b_tuple bp) ad))))) (eS (aE (pT hr) ac (ck (aa (aX ac ae) (aa (aX ac ae) ad)))) (dZ (bm (av br T.b_isinstance aq (aa (aX ac ae) (aa (bq T.b_bool jw) ad)))))))) (al (am jr)) aB)
  (ah (hV (ca (cq (aa (ck ad) (aa (ar C_vector hr (aa ac (aa ac ad))) (aa (ar C_near hr (aa ac (aa ac (aa ac ad)))) (aa (ar C_near hr (aa ac (aa ac (aa ac ad)))) ad)))))) (cH io.nd) (ah (aN io.nd (er (pT hr) (sv (N':=["_law_hand","_law_count","_law_deed"]) (nt:=2) (js:=[2]) (ca ac) (λ_ _ _ _=>iL (bg (bv (show AB4 (["_law_hand","_law_count","_law_deed"]:List Str) by decide +kernel)) (bg (bv (show AB4 (["_law_hand","_law_count","_law_deed"]:List Str) by decide +kernel)) eT))) (λ_ _ _ _=>oz (pS (qD (aE (bc hr) ac (aX ac ae)) (kT (aE vP ac (aX ac ae)))))) (λ_ _ _ _=>ac)) (cq ad)))
  (al (aP (bj (bm (ar C_truth hr (aa (ar C_is_within hr (aa ac (aa ac ad))) (aa ac ad))))) (al (am jr)) aB))))
  (al (am jr))))
¶JW{B:Mem}{E:DEnds}{y:D}{y0 y1 y3 y5:Option D}{t num:Int}{hd act:D}(hy:VecN y)(hh:Hd hd)(hE:∀(a:Option D) (L:Mem),E.nx [y0,y1,some (.tup [.int t,hd,.int num,act]),y3,some y,a] (B++L)) :
  (aR (db (dOp qNe (dLC 2 [2] (cN (af 4)) (iF 2 (bw (aH 0) (bw (aH 1) iG))) (Fb (az (dOp qEq (af 0) (dOp qIx (af 2) (dC (.int 1))))) (az (dOp qGt (af 1) (dOp qIx (af 2) (dC (.int 2)))))) (af 1)) (gf ao)) 5) (fB)) E [y0,y1,some (.tup [.int t,hd,.int num,act]),y3,some y,y5] B:=by
 #⟨hs,rfl,hv,nd,hl⟩:=hy
 @"dl"
 intro hz
 !cS (hitD hd num) cntD (λS=>∃a b,S=[a,b,some (.tup [.int t,hd,.int num,act])]) trivial _ _ _ ?_ ⟨_,_,rfl⟩ (by simpa using hz) ?_
 ·rintro y hy S ⟨a,b,rfl⟩
  #⟨p,hp,rfl⟩:=AAN.mp hy
  !⟨[some p.1,some (.int p.2),some (.tup [.int t,hd,.int num,act])],⟨_,_,rfl⟩,λY Z hYZ=>?_⟩
  have hp1:=hv p hp
  @"dl"
  !⟨trivial,⟨Hm hp1,Hm hh⟩,?_⟩
  have e1:hitD hd num (.tup [p.1,.int p.2])=(decide (p.1=hd)&&decide (num<p.2)):=rfl
  rw[e1]at hYZ
  cases hb:eqD B eqN p.1 hd with
  | true =>
   rw[decide_eq_true ((EA (n:=29) hp1 hh).mp hb),AAx]at hYZ
   ~bb hYZ
  | false =>
   have e:p.1≠hd:=λz=>by
    have:=(EA (M:=B) (n:=29) hp1 hh).mpr z
    rw[show eqD B (29+1) p.1 hd=eqD B eqN p.1 hd from rfl,hb]at this
    cases this
   rw[decide_eq_false e,AAw]at hYZ
   ~bH hYZ
 ·rw[AAr,KB]
  have ek:=zQ (hd:=hd) (num:=num) nd
  generalize (hs.filter λp=>decide (p.1=hd)&&decide (num<p.2))=fs at ek ⊢
  #⟨okk,enil⟩:=mt (M:=B++[MO.lst (fs.map λp=>.int p.2)]) (n:=B.length) (xs:=fs.map λp=>.int p.2) ax λx hx=>by
   #⟨p,_,rfl⟩:=AAN.mp hx
   ~aw
  !⟨AAT _,okk,?_⟩
  rw[enil]
  simp only[fB]
  @"dl"
  !⟨.int t,hd,num,[act],hs,rfl,hh,hv,¤,gj hs hd num,_,rfl,?_⟩
  have e2:(gj hs hd num == !(fs.map λp=>D.int p.2).isEmpty)=true:=by
   rw[List.isEmpty_map,ek,Bool.not_not,beq_self_eq_true]
  first | rw[e2] | simp only[e2]
  @"ifs"
  rw[ABT]
  ~hE _ _
¶JX{M C0 C:Mem}{E:DEnds}{n q:Nat}{L:List D}{y0 y1 y3 y4 y5:Option D}{t num:Int}{hd act:D}(hh:Hd hd)(hL:aA C q L)(hv:∀y∈L,VecN y)(wm:WM M n C)(hE:∀S' M',WM M n M'->E.nx S' M') :
  pW (λM=>aA M q L) (aH 4) (aR (db (dOp qNe (dLC 2 [2] (cN (af 4)) (iF 2 (bw (aH 0) (bw (aH 1) iG))) (Fb (az (dOp qEq (af 0) (dOp qIx (af 2) (dC (.int 1))))) (az (dOp qGt (af 1) (dOp qIx (af 2) (dC (.int 2)))))) (af 1)) (gf ao)) 5) (fB)) E C0 L [y0,y1,some (.tup [.int t,hd,.int num,act]),y3,y4,y5] C:=by
 !eL (λi S M'=>aA M' q L/\WM M n M'/\∃a b,S=[y0,y1,some (.tup [.int t,hd,.int num,act]),y3,a,b]) ?_ ?_ ⟨hL,wm,_,_,rfl⟩
 ·rintro S M' ⟨l,w,_⟩
  ~⟨l,hE S M' w⟩
 ·rintro i y S M' hy ⟨l,w,a,b,rfl⟩ G hG
  !⟨l,?_⟩
  simp only[aH,ADf,List.set_cons_succ]
  ~JW (hv y (AAu hy)) hh λa K=>Fgt.now (hG _ _ ⟨l.more K,w.app K,_,_,rfl⟩)
¶Ao:WpT fi 6 mG:=by
 rintro ds M R ⟨n,c,ps,r,t,hd,num,act,rfl,hn,few,hnd,hh,h⟩
 have hl:=dz few.2
 have f4:=few.1
 have pl:Pln 2 (.tup [.int t,hd]):=.tup (.cons (.int _) (.cons (KC hh) .nil))
 simp only[mG]
 @"dl"
 !⟨_,_,_,rfl,?_⟩
 simp only[mF]
 @"dl"
 !⟨by decide,?_⟩
 rw[show iw "tuple" "tuple" = true from rfl]
 @"ifs"
 !⟨aC ¤,⟨(Di 2 eqN _ (by decide) pl).1,(Di 2 eqN _ (by decide) pl).1⟩,?_⟩
 rw[(Di 2 eqN _ (by decide) pl).2]
 @"ifs"
 !⟨by decide,?_⟩
 show (if iw "int" "bool" = true then _ else _)
 rw[show iw "int" "bool" = false from rfl]
 @"ifs"
 simp only[mE]
 @"dl"
 !⟨AAT _,n,c,ps,r,rfl,hn,few,λvs B1 vok wm1=>?_⟩
 #⟨hs,rfl,hsub,hpos⟩:=vok
 have hsl:=hsub.length_le
 rw[AA6]at hsl
 #⟨c1,hc1⟩:=wm1.get hn
 !⟨n,c1,ps,r,.int t,hd,num,[act],rfl,hc1,few,hh,λh2 B2 p2 n2 l2 w2=>?_⟩
 have wm2:=wm1.trans hn w2
 #⟨c2,hc2⟩:=wm2.get hn
 !⟨n,c2,ps,r,.int t,hd,num,[act],rfl,hc2,few,hh,λh3 B3 p3 n3 l3 w3=>?_⟩
 have wm3:=wm2.trans hn w3
 !⟨aC ¤,_,ax,λ_=>?_⟩
 !JX hh ax (λy hy=>?_) (wm3.app _) λS' M' w=>?_
 ·simp only[AAH,AAf,or_false]at hy
  rcases hy with rfl | rfl | rfl | rfl
  ·~⟨[],rfl,(λ_ z=>nomatch z),ADJ,by simp⟩
  ·~⟨hs,rfl,λp hp=>vS (hsub.subset (AAN.mpr ⟨p,hp,rfl⟩)),List.Nodup.sublist hsub hnd,¤⟩
  ·~⟨h2,rfl,p2,n2,l2⟩
  ·~⟨h3,rfl,p3,n3,l3⟩
 ·simp only[mD]
  @"dl"
  ~.inl (h _ w)
include T C_stamp_of C_is_within C_vector C_truth C_near in
¶AX:Cal P w K mg base 4 "_law_of_deed" gO fi :=
 Cal.byH T.f_of_deed io xX (yE T C_stamp_of C_is_within C_vector C_truth C_near) Ao
variable(C_of_deed:Cal P w K mg base 4 "_law_of_deed" gO fi)
¶Ki:∀ds M R,Iu ds M R->ds.length=["_law_script"].length:=by rintro ds M R ⟨ns,mo,_,_,rfl,_⟩;rfl
¶WM.lst{M B:Mem}{n q:Nat}{xs:List D}(w:WM M n B)(hq:q≠n)(l:aA M q xs):aA B q xs:=by
 #⟨c,L,rfl⟩:=w
 ~(bI hq l).more L
def Fs(M:Mem)(q:Nat)(ys:List D):Prop:=∀y∈ys,∃(w:Nat) (c:Int),y=.ref w/\w≠q/\M[w]?=some (ay c)
¶Fs.wm{M B:Mem}{n q:Nat}{c:Int}{ys:List D}(h:Fs M q ys)(hn:M[n]?=some (ay c))(w:WM M n B):Fs B q ys:=λy hy=>by
 #⟨v,c',e,ne,g⟩:=h y hy
 by_cases hv:v=n
 ·subst hv
  #⟨c2,h2⟩:=w.get hn
  ~⟨v,c2,e,ne,h2⟩
 ·~⟨v,c',e,ne,w.other hv g⟩
¶Bv{ps:List (Str×Int)}(h:1<=ps.length)(hm:∀p∈ps,1<=p.2/\p.2<=3):1<=(aI ps).length:=by
 cases ps with
 | nil=>simp at h
 | cons p ps =>
  have:=(hm p (by simp)).1
  rw[aI,List.flatMap_cons,AA8,jt]
  &
¶Lc{M:Mem}{ps:List (Str×Int)}{rs:List (Str×List Str)}{d:D}(h:sT M ps rs d=true):∃(t:Int) (hd:D) (num:Int) (act:D),d=.tup [.int t,hd,.int num,act]/\Hd hd:=by
 rcases yA d with⟨a,b,c,e,rfl⟩|⟨_,e2⟩
 ·simp only[sT,cO,AAD]at h
  #⟨⟨h1,h2⟩,h3,_⟩:=h
  cases a with
  | int t =>
   cases c with
   | int num=>~⟨t,b,num,e,rfl,sA h2⟩
   | _=>cases h3
  | _=>cases h1
 ·rw[my e2]at h
  cases h
¶zV:∀{ps:List (Str×Int)},(ps.map (·.1)).Nodup->(aI ps).Nodup
 | [],_=>ADJ
 | p::ps,nd=>by
  rw[AAL,ABG]at nd
  show (eA p++aI ps).Nodup
  !List.nodup_append.mpr ⟨?_,zV nd.2,λa ha b hb e=>?_⟩
  ·unfold eA tj
   rw[AAi]
   !List.Pairwise.map _ (λa b hab z=>hab ?_) AE2
   simp only[Function.comp,D.tup.injEq,AED,D.int.injEq,true_and,and_true]at z
   &
  ·subst e
   #⟨k,_,rfl⟩:=AAN.mp ha
   #⟨q,hq,hb⟩:=List.mem_flatMap.mp hb
   #⟨l,_,z⟩:=AAN.mp hb
   injection z with z
   injection z with z _
   injection z with z
   ~nd.1 (z ▸ ACn hq)
¶zD:FnScope OB Gu (ak s_law):=by @"sc"
def Cl:DTS:=aU (dC (.bl true))
def Cm:DTS:=dIf (Fb (az (dCB cz (ab (af 1) (ab (af 3) ao)))) (gi (az (dCB fi (ab (af 2) (ab (af 1) (ab (af 3) ao))))))) (aU (dC (.bl false))) aO
def rh:DTS:=aR (dIf (gi (az (dCB iD (ab (dCB fy (ab (af 1) (ab (af 3) ao))) (ab (dCB cz (ab (af 1) (ab (af 3) ao))) ao))))) (aU (dC (.bl false))) aO) (Cm)
def Cn:DTS:=aR (yP (cN (dOp bf (dCB kw (ab (af 0) (ab (dC (.int 1)) (ab (dC (.int 30)) ao)))) (gf (ab (gf (ab (dC (.int 0)) ao)) (ab (gf (ab (dC (.int 1)) ao)) (ab (gf (ab (dC (.int 2)) ao)) ao)))))) (aH 2) (aR (db (dCB fX (ab (af 2) (ab (af 1) ao))) 3) (rh))) (Cl)
def Jh:DTS:=aR (db (dCB kx (ab (dCB pe (ab (dCB dD (ab (af 0) (ab (dC (.int 0)) ao))) (ab (dC (.int 1)) ao))) ao)) 1) (Cn)
include T C_is_deed C_cell_at C_well C_wells C_house C_l_is_deed C_truth C_drawn C_of_deed in
¶KZ:cW P w K mg base 12 "law" OB s_law Jh:=λ_ _ _ _ _ _ _ hr =>
  ah (aN zD.nd (ar C_house hr (aa (ar C_well hr (aa (ar C_cell_at hr (aa ac (aa ae ad))) (aa ae ad))) ad)))
  (ah (hV (ca (bO aF (ar C_wells hr (aa ac (aa ae (aa ae ad)))) (cq (aa (cq (aa ae ad)) (aa (cq (aa ae ad)) (aa (cq (aa ae ad)) ad)))))) (cH zD.nd) (ah (aN zD.nd (ar C_drawn hr (aa ac (aa ac ad))))
  (ah (aP (bj (bm (ar C_truth hr (aa (ar C_is_deed hr (aa ac (aa ac ad))) (aa (ar C_l_is_deed hr (aa ac (aa ac ad))) ad))))) (al (am jr)) aB)
  (al (aP (pS (qD (bm (ar C_l_is_deed hr (aa ac (aa ac ad)))) (kT (bj (bm (ar C_of_deed hr (aa ac (aa ac (aa ac ad))))))))) (al (am jr)) aB)))))
  (al (am jr)))
¶GU{B:Mem}{E:DEnds}{p:Str×Int}{ps:List (Str×Int)}{rs:List (Str×List Str)}{r:List D}{w:Nat}{c:Int}{y0 y3:Option D}(hw:B[w]?=some (ay c))(few:Few (p::ps))(h1:1<=(aI (p::ps)).length)(h8:∀q∈p::ps,q.1.length<=8)(r8:∀q∈rs,q.1.length<=8)(r1:1<=rs.length)(r4:rs.length<=4)(nd:((p::ps).map (·.1)).Nodup)
  (hE:∀d C,WM B w C->E.nx [y0,some (.tup (.tup ((p::ps).map aK)::.tup (rs.map bP)::r)),some (.ref w),some d] C) :
  (aR (db (dCB fX (ab (af 2) (ab (af 1) ao))) 3) (rh)) E [y0,some (.tup (.tup ((p::ps).map aK)::.tup (rs.map bP)::r)),some (.ref w),y3] B:=by
 @"dl"
 !⟨w,c,p,ps,rs,r,rfl,hw,few,h1,h8,r8,r1,r4,λd C wm g=>?_⟩
 simp only[rh]
 @"dl"
 !⟨6,p::ps,rs,r,d,rfl,g,6,p::ps,rs,r,d,rfl,nd,g,_,_,rfl,?_⟩
 rw[beq_self_eq_true]
 @"ifs"
 simp only[Cm]
 @"dl"
 !⟨6,p::ps,rs,r,d,rfl,nd,g,?_⟩
 cases e:sT C (p::ps) rs d with
 | false =>
  @"ifs"
  ~hE d C wm
 | true =>
  @"ifs"
  #⟨t,hd,num,act,rfl,hh⟩:=Lc e
  #⟨c2,hc2⟩:=wm.get hw
  !⟨w,c2,p::ps,_,t,hd,num,act,rfl,hc2,few,zV nd,hh,λC2 w2=>?_⟩
  @"ifs"
  ~hE _ C2 (wm.trans hw w2)
¶GV{C0 C:Mem}{E:DEnds}{p:Str×Int}{ps:List (Str×Int)}{rs:List (Str×List Str)}{r L:List D}{q:Nat}{y0 y2 y3:Option D}(few:Few (p::ps))(h1:1<=(aI (p::ps)).length)(h8:∀q∈p::ps,q.1.length<=8)(r8:∀q∈rs,q.1.length<=8)(r1:1<=rs.length)(r4:rs.length<=4)(nd:((p::ps).map (·.1)).Nodup)(hL:aA C q L)(hW:Fs C q L)
  (hE:∀S' M',(∃a b,S'=[y0,some (.tup (.tup ((p::ps).map aK)::.tup (rs.map bP)::r)),a,b])->E.nx S' M') :
  pW (λM=>aA M q L) (aH 2) (aR (db (dCB fX (ab (af 2) (ab (af 1) ao))) 3) (rh)) E C0 L [y0,some (.tup (.tup ((p::ps).map aK)::.tup (rs.map bP)::r)),y2,y3] C:=by
 !eL (λi S M'=>aA M' q L/\Fs M' q L/\∃a b,S=[y0,some (.tup (.tup ((p::ps).map aK)::.tup (rs.map bP)::r)),a,b]) ?_ ?_ ⟨hL,hW,_,_,rfl⟩
 ·rintro S M' ⟨l,_,hS⟩
  ~⟨l,hE S M' hS⟩
 ·rintro i y S M' hy ⟨l,ws,a,b,rfl⟩ G hG
  #⟨w,c,rfl,wq,hw⟩:=ws y (AAu hy)
  !⟨l,?_⟩
  simp only[aH,ADf,List.set_cons_succ]
  ~GU hw few h1 h8 r8 r1 r4 nd λd C wm=>Fgt.now (hG _ _ ⟨wm.lst (AAz wq) l,ws.wm hw wm,_,_,rfl⟩)
¶LK:∀ds M R,Iu ds M R->Jh (EE M R) (cQ ["_law_script","_law_house_here","_law_well_here","_law_thing_here"] ds) M:=by
 rintro ds M R ⟨ns,mo,h63,⟨hmo,hml⟩,rfl,rfl,h⟩
 have hL0:∀L:Mem,aA ([mo]++L) 0 (ns.map D.int):=λL=>by
  have:=oq (M:=[mo]++L) (n:=0) (mo:=mo) rfl hml
  rw[hmo]at this
  ~this
 simp only[Jh]
 @"dl"
 !⟨0,ns,0,rfl,hL0 [],_,1,rfl,by decide,by decide,λi=>?_⟩
 !⟨1,i,rfl,rfl,λps rs B hw wm=>?_⟩
 obtain⟨p,ps,rfl⟩:∃p qs,ps=p::qs:=by
  cases ps with
  | nil=>~absurd hw.len.1 (by decide)
  | cons p qs=>~⟨p,qs,rfl⟩
 simp only[Cn]
 @"dl"
 !⟨0,ns,1,30,rfl,wm.lst (by decide) (hL0 [ay i]),¤,by decide,by decide,λws C pC w100 hws=>?_⟩
 !⟨aC ¤,aC ¤,aC ¤,aC ¤,?_⟩
 !⟨ws.map .ref,_,aW (aW (aW (aW bo))),bo,?_,_,ax,λ_=>?_⟩
 ·rw[AA6]
  ~aC (by simp only[AAA,AAW];&)
 !GV (r:=[]) ⟨hw.len.2,λp hp=>⟨by have:=hw.many p hp;&,(hw.many p hp).2⟩⟩ (Bv hw.len.1 hw.many) (λp hp=>(hw.nm p hp).2.1) (λp hp=>(hw.rn p hp).2.1) hw.rl.1 hw.rl.2 hw.nd ax (λy hy=>?_) λS' M' hS=>?_
 ·rcases AAk.mp hy with hy | hy
  ·#⟨w,hm,rfl⟩:=AAN.mp hy
   #⟨_,c,hc⟩:=hws w hm
   !⟨w,c,rfl,?_,aW (aW (aW (aW (aW (aW hc)))))⟩
   have:=(AA2.mp hc).1
   simp only[AA8,AAX]
   &
  ·simp only[AAH,AAf,or_false]at hy
   rcases hy with rfl | rfl | rfl
   ·~⟨_,0,rfl,by simp only[AA8,AAX];&,aW (aW (aW (aW bo)))⟩
   ·~⟨_,1,rfl,by simp only[AA8,AAX];&,aW (aW (aW bo))⟩
   ·~⟨_,2,rfl,by simp only[AA8,AAX];&,aW (aW bo)⟩
 ·#⟨a,b,rfl⟩:=hS
  simp only[Cl]
  @"dl"
  ~.inl (h _)
include T C_is_deed C_cell_at C_well C_wells C_house C_l_is_deed C_truth C_drawn C_of_deed in
¶MP{f:Addr}{fd:FuncData}(F:Fun K "law" "law" s_law f fd):FnOk P w K mg base CX0 13 f fd Gu (spL K Iu) :=
 Hr F zD Ki (KZ T C_is_deed C_cell_at C_well C_wells C_house C_l_is_deed C_truth C_drawn C_of_deed) LK
end
¶all_ok{P:Program}{w:World}{K:AA5}{mg:Str->Option Value}(T:Tops w K mg)(base:Heap)(f:Addr)(fd:FuncData)(F:Fun K "law" "law" s_law f fd):FnOk P w K mg base CX0 13 f fd Gu (spL K Iu):=by
 have C_is_whole:=xP (P:=P) (w:=w) (base:=base) T
 have C_is_whole_from:=lZ (P:=P) (w:=w) (base:=base) T C_is_whole
 have C_is_tuple_of:=pO (P:=P) (w:=w) (base:=base) T
 have C_is_rising:=vn (P:=P) (w:=w) (base:=base) T
 have C_is_letter:=vq (P:=P) (w:=w) (base:=base) T
 have C_is_sign:=Ba (P:=P) (w:=w) (base:=base) T
 have C_is_name:=Be (P:=P) (w:=w) (base:=base) T C_is_letter
 have C_is_saying:=vm (P:=P) (w:=w) (base:=base) T C_is_sign
 have C_firsts_of:=vt (P:=P) (w:=w) (base:=base) T
 have C_many_of:=AY (P:=P) (w:=w) (base:=base) T
 have C_is_person:=vp (P:=P) (w:=w) (base:=base) T C_firsts_of
 have C_is_room:=Bb (P:=P) (w:=w) (base:=base) T C_firsts_of
 have C_is_hand:=Bf (P:=P) (w:=w) (base:=base) T C_is_whole C_is_tuple_of C_many_of
 have C_is_stamp:=xQ (P:=P) (w:=w) (base:=base) T C_is_whole_from C_is_tuple_of C_is_hand
 have C_is_hand_count:=md (P:=P) (w:=w) (base:=base) T C_is_whole_from C_is_tuple_of C_is_hand
 have C_is_vector:=vk (P:=P) (w:=w) (base:=base) T C_is_rising C_is_hand_count
 have C_is_what:=AZ (P:=P) (w:=w) (base:=base) T C_is_tuple_of C_is_person C_is_room C_is_stamp
 have C_is_part:=Bc (P:=P) (w:=w) (base:=base) T C_is_name C_is_saying C_is_room C_is_stamp C_is_vector C_is_what
 have C_is_act:=DB (P:=P) (w:=w) (base:=base) T C_is_part
 have C_is_deed:=Bg (P:=P) (w:=w) (base:=base) T C_is_whole_from C_is_tuple_of C_is_stamp C_is_act
 have C_stamp_of:=xN (P:=P) (w:=w) (base:=base) T
 have C_is_within:=vj (P:=P) (w:=w) (base:=base) T
 have C_cell_at:=Bh (P:=P) (w:=w) (base:=base) T
 have C_take:=JT (P:=P) (w:=w) (base:=base) T
 have C_mix:=MN (P:=P) (w:=w) (base:=base) T
 have C_rich:=JU (P:=P) (w:=w) (base:=base) T C_mix
 have C_well:=JS (P:=P) (w:=w) (base:=base) T C_rich
 have C_wells:=Gy (P:=P) (w:=w) (base:=base) T C_cell_at C_rich
 have C_word:=JQ (P:=P) (w:=w) (base:=base) T C_take
 have C_words:=Gx (P:=P) (w:=w) (base:=base) T C_take C_word
 have C_house:=GB (P:=P) (w:=w) (base:=base) T C_take C_words
 have C_hands:=GC (P:=P) (w:=w) (base:=base) T
 have C_saying:=Dz (P:=P) (w:=w) (base:=base) T C_take
 have C_stamp:=GA (P:=P) (w:=w) (base:=base) T C_take C_hands
 have C_vector:=Dy (P:=P) (w:=w) (base:=base) T C_take C_hands
 have C_what:=JR (P:=P) (w:=w) (base:=base) T C_take C_stamp
 have C_act:=MQ (P:=P) (w:=w) (base:=base) T C_take C_word C_saying C_stamp C_vector C_what
 have C_thing:=zJ (P:=P) (w:=w) (base:=base) T C_take 5
 have C_bent:=DC (P:=P) (w:=w) (base:=base) T C_take C_thing 5
 have C_l_is_whole:=rO (P:=P) (w:=w) (base:=base) T
 have C_l_is_hand:=ve (P:=P) (w:=w) (base:=base) T C_l_is_whole
 have C_l_is_stamp:=rP (P:=P) (w:=w) (base:=base) T C_l_is_whole C_l_is_hand
 have C_l_is_vector:=pM (P:=P) (w:=w) (base:=base) T C_l_is_whole C_l_is_hand
 have C_l_is_name:=vd (P:=P) (w:=w) (base:=base) T
 have C_l_is_saying:=pN (P:=P) (w:=w) (base:=base) T
 have C_l_is_room:=vc (P:=P) (w:=w) (base:=base) T
 have C_l_is_what:=vb (P:=P) (w:=w) (base:=base) T C_l_is_stamp C_l_is_room
 have C_l_is_act:=xO (P:=P) (w:=w) (base:=base) T C_l_is_stamp C_l_is_vector C_l_is_name C_l_is_saying C_l_is_room C_l_is_what
 have C_l_is_deed:=vh (P:=P) (w:=w) (base:=base) T C_l_is_whole C_l_is_stamp C_l_is_act
 have C_truth:=Gz (P:=P) (w:=w) (base:=base) T
 have C_drawn:=GD (P:=P) (w:=w) (base:=base) T C_take C_stamp C_act C_thing C_bent
 have C_near:=JV (P:=P) (w:=w) (base:=base) T C_take C_vector
 have C_of_deed:=AX (P:=P) (w:=w) (base:=base) T C_stamp_of C_is_within C_vector C_truth C_near
 ~MP T C_is_deed C_cell_at C_well C_wells C_house C_l_is_deed C_truth C_drawn C_of_deed F
end LW
local macro_rules | `(tactic| walk_at "f1")=>`(tactic| (refine' L2.fnat_mk (by assumption) (by assumption) ?a ?l ?c ?k (λ_ _ _ _ _ _ us hl=>match us,hl with | [_],_=>rfl);(case a=>k_is);(case l=>k_is);(case c=>k_is);(case k=>k_is)))
local macro_rules | `(tactic| walk_at "f2")=>`(tactic| (refine' L2.fnat_mk (by assumption) (by assumption) ?a ?l ?c ?k (λ_ _ _ _ _ _ us hl=>match us,hl with | [_,_],_=>rfl);(case a=>k_is);(case l=>k_is);(case c=>k_is);(case k=>k_is)))
local macro_rules | `(tactic| walk_at "f3")=>`(tactic| (refine' L2.fnat_mk (by assumption) (by assumption) ?a ?l ?c ?k (λ_ _ _ _ _ _ us hl=>match us,hl with | [_,_,_],_=>rfl);(case a=>k_is);(case l=>k_is);(case c=>k_is);(case k=>k_is)))
local macro_rules | `(tactic| walk_at "f4")=>`(tactic| (refine' L2.fnat_mk (by assumption) (by assumption) ?a ?l ?c ?k (λ_ _ _ _ _ _ us hl=>match us,hl with | [_,_,_,_],_=>rfl);(case a=>k_is);(case l=>k_is);(case c=>k_is);(case k=>k_is)))
local macro_rules | `(tactic| walk_at "f5")=>`(tactic| (refine' L2.fnat_mk (by assumption) (by assumption) ?a ?l ?c ?k (λ_ _ _ _ _ _ us hl=>match us,hl with | [_,_,_,_,_],_=>rfl);(case a=>k_is);(case l=>k_is);(case c=>k_is);(case k=>k_is)))
open PySem PySem.W PyProof.Rows
set_option maxRecDepth 100000 in
set_option maxHeartbeats 0 in
theorem PySem.Challenge.cw_talkmarks_k12_deeds_holds : PySem.Challenge.rw_talkmarks_k12_deeds.Holds := by
 w_on; o_law; k_head; (case hw=>w_witness2)
 k_fill
 refine L2.law_walk (l:=PySem.Challenge.rw_talkmarks_k12_deeds) (k:=13) (st:=LW.s_law) (x:="_law_script") rfl rfl rfl ⟨rfl,by decide,by decide⟩ (fun w h Y=>PySem.W.kIn_of Y) ?F (fun _ _ _ _ _ _ _=>rfl)
 case F =>
  intro w mg h KX G
  have T:LW.Tops w (L2.KOf KX) mg:=by
   dsimp only [L2.KOf]
   constructor
   ·walk_at "f1"
   ·walk_at "f2"
   ·walk_at "f2"
   ·walk_at "f1"
   ·walk_at "f1"
   ·walk_at "f1"
   ·walk_at "f1"
   ·walk_at "f1"
   ·walk_at "f1"
   ·walk_at "f2"
   ·walk_at "f2"
   ·walk_at "f2"
   ·walk_at "f2"
   ·walk_at "f2"
   ·walk_at "f2"
   ·walk_at "f2"
   ·walk_at "f2"
   ·walk_at "f3"
   ·walk_at "f2"
   ·walk_at "f2"
   ·walk_at "f1"
   ·walk_at "f2"
   ·walk_at "f2"
   ·walk_at "f2"
   ·walk_at "f2"
   ·walk_at "f2"
   ·walk_at "f2"
   ·walk_at "f3"
   ·walk_at "f1"
   ·walk_at "f2"
   ·walk_at "f1"
   ·walk_at "f1"
   ·walk_at "f2"
   ·walk_at "f3"
   ·walk_at "f2"
   ·walk_at "f3"
   ·walk_at "f3"
   ·walk_at "f2"
   ·walk_at "f3"
   ·walk_at "f2"
   ·walk_at "f2"
   ·walk_at "f2"
   ·walk_at "f2"
   ·walk_at "f1"
   ·walk_at "f1"
   ·walk_at "f2"
   ·walk_at "f2"
   ·walk_at "f2"
   ·walk_at "f2"
   ·walk_at "f2"
   ·walk_at "f2"
   ·walk_at "f3"
   ·walk_at "f3"
   ·walk_at "f1"
   ·refine' L2.glob_mk KX G ?a ?b; (case a=>k_is); (case b=>exact ⟨_,rfl⟩)
   ·refine' L2.glob_mk KX G ?a ?b; (case a=>k_is); (case b=>exact ⟨_,rfl⟩)
   ·refine' L2.glob_mk KX G ?a ?b; (case a=>k_is); (case b=>exact ⟨_,rfl⟩)
   ·refine' L2.glob_mk KX G ?a ?b; (case a=>k_is); (case b=>exact ⟨_,rfl⟩)
   ·refine' L2.gdict_mk KX G ?a ?s ?l ?e; (case a=>k_is); (case l=>k_is); (case s=>rfl)
    refine' L2.ents_cons ?l ?s ?v ?_; (case l=>k_is); (case s=>exact Nat.le_of_lt (L2.small1000 (by decide))); (case v=>exact .cons ⟨_,rfl⟩ (.cons ⟨_,rfl⟩ (.cons ⟨_,rfl⟩ (.nil))))
    refine' L2.ents_cons ?l ?s ?v ?_; (case l=>k_is); (case s=>exact Nat.le_of_lt (L2.small1000 (by decide))); (case v=>exact .cons ⟨_,rfl⟩ (.cons ⟨_,rfl⟩ (.nil)))
    refine' L2.ents_cons ?l ?s ?v ?_; (case l=>k_is); (case s=>exact Nat.le_of_lt (L2.small1000 (by decide))); (case v=>exact .cons ⟨_,rfl⟩ (.nil))
    refine' L2.ents_cons ?l ?s ?v ?_; (case l=>k_is); (case s=>exact Nat.le_of_lt (L2.small1000 (by decide))); (case v=>exact .cons ⟨_,rfl⟩ (.cons ⟨_,rfl⟩ (.cons ⟨_,rfl⟩ (.nil))))
    refine' L2.ents_cons ?l ?s ?v ?_; (case l=>k_is); (case s=>exact Nat.le_of_lt (L2.small1000 (by decide))); (case v=>exact .cons ⟨_,rfl⟩ (.cons ⟨_,rfl⟩ (.nil)))
    refine' L2.ents_cons ?l ?s ?v ?_; (case l=>k_is); (case s=>exact Nat.le_of_lt (L2.small1000 (by decide))); (case v=>exact .cons ⟨_,rfl⟩ (.nil))
    refine' L2.ents_cons ?l ?s ?v ?_; (case l=>k_is); (case s=>exact Nat.le_of_lt (L2.small1000 (by decide))); (case v=>exact .cons ⟨_,rfl⟩ (.cons ⟨_,rfl⟩ (.nil)))
    refine' L2.ents_cons ?l ?s ?v ?_; (case l=>k_is); (case s=>exact Nat.le_of_lt (L2.small1000 (by decide))); (case v=>exact .cons ⟨_,rfl⟩ (.nil))
    exact True.intro
   ·refine' PySem.W.mg_none_of KX G ?a; (case a=>k_is)
   ·refine' PySem.W.mg_none_of KX G ?a; (case a=>k_is)
   ·refine' PySem.W.mg_none_of KX G ?a; (case a=>k_is)
   ·refine' PySem.W.mg_none_of KX G ?a; (case a=>k_is)
   ·refine' PySem.W.mg_none_of KX G ?a; (case a=>k_is)
   ·refine' PySem.W.mg_none_of KX G ?a; (case a=>k_is)
   ·refine' PySem.W.mg_none_of KX G ?a; (case a=>k_is)
   ·refine' PySem.W.mg_none_of KX G ?a; (case a=>k_is)
   ·refine' PySem.W.mg_none_of KX G ?a; (case a=>k_is)
   ·refine' PySem.W.mg_none_of KX G ?a; (case a=>k_is)
   ·refine' PySem.W.mg_none_of KX G ?a; (case a=>k_is)
   ·refine' PySem.W.mg_none_of KX G ?a; (case a=>k_is)
   ·refine' PySem.W.mg_none_of KX G ?a; (case a=>k_is)
   ·refine' PySem.W.mg_none_of KX G ?a; (case a=>k_is)
  exact ⟨T.f_law,fun base f fd F=>LW.all_ok T base f fd F⟩
