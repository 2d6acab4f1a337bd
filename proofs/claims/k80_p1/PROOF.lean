import PyProof.Rows.All
import Wide.All
import OpenK.AllK
import Wide.FinOn
import Lean
import PyProof.EqAt
import PyProof.EqKinds
import PyProof.TupleCall
import PyProof.CompFree
import PyProof.NeKinds
import KE.KSortTup
import KE.KRevSl
import KE.KDictSum
import KE.KEqDict
import PyProof.Conv_int_bool
import PyProof.AttrMissHeap
import KE.KLam
import KE.KRevIter
import KE.KTryMore
import PyProof.ExcArgsOwn
import PySem.Challenge.RW_talkmarks_k80_stamps_written_and_read
open PySem.W renaming Frag->AA,kitOne->AAl,keepIn->ABF,nsIn->ABI,kas_desc->ABJ,fnOf->ABN,findIn->ABZ,hideAll->ABe,kas_rev->AC1,kas_place->AC3,mg_of->ACF,excIn->ACI,cellsFrom_some->ACK,kas_asc->ACQ,codeIn->ACS,kas_descPart->ACZ,of_hideAll->ACt,callWith_K->ACx,kas_sort->ACy,exmOne->AD1,methodObj->AD2
open PySem renaming wpAny_bind->AA0,Spec->AA5,wpAny_pure->AAD,wpAny_field->AAY,wpAny_mono->AAo,wpAny_newObj_type->AAs,mem_of_lookup->AAx,wpAny_callSpecial?_slot->AB,wpAny_call_entry->ABB,wpAny_holding->ABE,wpAny_truthy_bool->ABO,wpAny_setField_rec->ABX,wpAny_seqItems->ABc,wpAny_execs_nil->ABf,wpAny_passesOwn->ABg,wpAny_Call_Name_kw->ABq,sizeLine_eq->ABr,wpAny_loadPart'->ABt,wpAny_setField->AC4,wpAny_execs_cons->ACa,wpAny_onRaise->ACf,wpAny_attempt->ACg,Value->ACo,codeAny_mono->ACw
open List renaming getElem?_eq_getElem->AA1,getElem?_eq_some_iff->AA4,length_map->AA6,size_toArray->AA7,mem_cons->AA9,mem_cons_of_mem->AAA,getElem?_append_left->AAC,getD_eq_getElem?_getD->AAE,mem_cons_self->AAI,mem_map->AAJ,length_append->AAL,mem_append_right->AAO,getElem?_map->AAP,map_cons->AAQ,getElem?_append_right->AAR,append_assoc->AAT,map_map->AAV,length_cons->AAW,nodup_iff_pairwise_ne->AAa,range->AAb,all_eq_true->AAc,not_mem_nil->AAd,cons_lt_cons_iff->AAe,getElem?_set_self->AAg,nodup_cons->AAi,length_nil->AAk,getElem?_set_ne->AAt,prefix_append->AAu,getElem?_take_of_lt->AAv,append_nil->AAw,take_of_length_le->AB1,nil_append->AB2,lookup_cons->AB3,getElem_mem->AB4,mem_range->AB6,find?_cons->AB8,length_take->ABA,length_singleton->ABH,zip_cons_cons->ABK,length_drop->ABL,all_cons->ABM,mem_append->ABQ,takeWhile_cons->ABS,cons_append->ABT,getElem?_eq_none->ABV,mem_singleton->ABY,replicate->ABa,mem_of_getElem?->ABd,pairwise_map->ABj,getElem?_replicate->ABk,map_congr_left->ABn,length_replicate->ABs,length_set->ABu,prefix_rfl->ABv,map_append->ABx,take_sublist->ABy,mem_append_left->AC0,filterMap_cons->AC8,drop_eq_nil_of_le->ACN,map_id->ACR,drop_zero->ACT,lt_irrefl->ACU,take_length->ACb,getElem_map->ACc,getElem?_of_mem->ACe,of_mem_zip->ACh,forIn_cons->ACj,getElem?_range->ACl,toArray->ACz,length->AD4
open PySem.Str renaming ofString->AA2,empty->ACW
open PySem.Heap renaming get?_push_of_some->AA3,lt_size->AAB,get?_push_size->AAH,size_push->AB7,get?_update_other->ABD,get?_update_self->ABU,get?_update_ne->ABm,SameBut->ACu,MadeExcOf->AD0
open Nat renaming le_refl->AA8,lt_of_lt_of_le->AAF,ne_of_lt->AAK,zero_le->AAZ,lt_irrefl->AAh,le_trans->AAn,lt_succ_of_lt->ABP,lt_succ_self->AC7,not_lt_zero->ACE,sub_self->ACX,le_of_ble_eq_true->ACY
open Bool renaming and_eq_true->AAG,false_eq_true->AAU,false_ne_true->ABp,eq_false_iff->ABz,or_eq_true->ACk
open Int renaming emod_lt_of_pos->AAM,emod_nonneg->AAS,toNat_natCast->AAz,zero_add->AD
open Option.some renaming inj->AAN
open Array renaming getD_eq_getD_getElem?->AAX,getElem?_eq_some_iff->AC,length_toList->AC9
open PySem.Builtin.SmallTypes renaming nextOf->AAf,ownedTupleIsFree->AB5,ownedTupleHandOut->AC5
open PyProof.Rows renaming slot_tuple_getitem->AAj,callWith_type1->ABR,get?_update_seq->ACm,envOfC->ACn
open Ne renaming symm->AAm
open False renaming elim->AAp
open PySem.NameKind renaming free->AAq,cell->ABl
open PySem.NumText renaming digitsVal->AAr,AllDigits->ABo
open PySem.Builtin.Str renaming strSliceIndices->AAy
open PySem.Value renaming none->AB0,ref->ABC,builtin->AD7
open PySem.Txt renaming slice->AB9,lstripChars->ACJ,startswith->ACV
open Sum renaming inr->ABG
open PySem.Obj renaming data_mapFields->ABW,mapSeq->ABi,isFreed_of_fields->ABw,mapFields->ACH
open PySem.Builtin.Slice renaming slicePlaces->ABb,sliceAdjust->AC2,sliceApplied->ACp
open PySem.Builtin.Tuple renaming tupleExact->ABh,tupleItemsOf->ACq
open PySem.SetTable renaming Probe->AC6,leap->ACG,bits->AD6
open Option renaming isSome_iff_exists->ACA,map_eq_some_iff->ACM,getD_some->ACd
open PySem.F renaming args_tuple_add_2->ACB,entry_tuple_add->ACD,slot_tuple_add->ACL
open PySem.Builtin.List renaming listTooLong->ACC
open True renaming intro->ACO
open PySem.SeqAt renaming EqAt->ACP
open ForInStep renaming yield->ACi
open PySem.SeqAt.EqAt renaming int_str->ACr,str_int->ACs
open PySem.Calls renaming spliced_cons->ACv
open List.Pairwise renaming nil->AD3
open List.cons renaming inj->AD5
set_option autoImplicit true
set_option relaxedAutoImplicit true
set_option compiler.extract_closed false
set_option Elab.async false
set_option linter.all false
set_option maxRecDepth 100000
-- CHANGE: your row's module here,as the last of these rows
theorem dF_{p:Prop}[Decidable p](h:¬p):decide p=false:=decide_eq_false h
theorem dT_{p:Prop}[Decidable p](h:p):decide p=true:=decide_eq_true h
namespace L2
open PySem PySem.Spec PyProof.Rows
noncomputable abbrev Key:=Sum Int Str
noncomputable def kR:Key->Value->Bool
 | .inl k,v=>Value.isInt k v
 | .inr x,v=>Value.isStrOf x v
noncomputable def keyH(w:World):Key->Int
 | .inl k=>hashInt k
 | .inr x=>hashStr w x
theorem aC:∀{k:Key}{v:Value},kR k v=true->(∃i t,k=Sum.inl i/\v=Value.int i t)\/(∃x t,k=ABG x/\v=Value.str x t)
 | .inl i,v,h=>by
  obtain⟨t,e⟩:=Value.isInt_shape (k:=i) (v:=v) h
  exact .inl ⟨i,t,rfl,e⟩
 | .inr x,v,h=>by
  obtain⟨t,e⟩:=Value.isStrOf_shape (x:=x) (v:=v) h
  exact .inr ⟨x,t,rfl,e⟩
theorem pz(i:Int)(t:Tok):kR (.inl i) (.int i t)=true:=by simp[kR,Value.isInt]
theorem pv(x:Str)(t:Tok):kR (.inr x) (.str x t)=true:=by simp[kR,Value.isStrOf]
theorem yd(a b:Int):decide ((Sum.inl a:Key)=Sum.inl b)=(a==b):=by
 by_cases e:a=b
 ·subst e;simp
 ·have h:¬(Sum.inl a:Key)=Sum.inl b:=λq=>e (Sum.inl.inj q)
  rw[dF_ h]
  exact(beq_eq_false_iff_ne.mpr e).symm
theorem tL(a b:Str):decide ((ABG a:Key)=ABG b)=decide (a=b):=by
 by_cases e:a=b
 ·subst e;simp
 ·have h:¬(ABG a:Key)=ABG b:=λq=>e (Sum.inr.inj q)
  rw[dF_ h,dF_ e]
theorem yc(a:Int)(b:Str):decide ((Sum.inl a:Key)=ABG b)=false:=dF_ (λq=>nomatch q)
theorem yb(a:Str)(b:Int):decide ((ABG a:Key)=Sum.inl b)=false:=dF_ (λq=>nomatch q)
noncomputable def bb(prog:Program)(w:World):PySem.KeyKind prog w Key where
 is:=kR
 hash:=keyH w
 inj:=λv a b ha hb=>by
  rcases aC ha with⟨i,t,rfl,rfl⟩|⟨x,t,rfl,rfl⟩
  ·rcases aC hb with⟨j,u,rfl,e⟩|⟨y,u,rfl,e⟩
   ·injection e with e1 _;rw[e1]
   ·exact nomatch e
  ·rcases aC hb with⟨j,u,rfl,e⟩|⟨y,u,rfl,e⟩
   ·exact nomatch e
   ·injection e with e1 _;rw[e1]
 byValue:=λk v h=>by
  rcases aC h with⟨i,t,rfl,rfl⟩|⟨x,t,rfl,rfl⟩<;>rfl
 pyHash:=λhv h=>by
  rcases aC hv with⟨i,t,rfl,rfl⟩|⟨x,t,rfl,rfl⟩
  ·exact wpAny_pyHash_int h
  ·exact wpAny_pyHash_str h
 eqBool:=λhu hv h=>by
  rcases aC hu with⟨i,t,rfl,rfl⟩|⟨x,t,rfl,rfl⟩
  ·rcases aC hv with⟨j,u,rfl,rfl⟩|⟨y,u,rfl,rfl⟩
   ·rw[yd]at h;exact wpAny_eqBool_int h
   ·rw[yc]at h;exact ACr i t y u _ _ _ _ h
  ·rcases aC hv with⟨j,u,rfl,rfl⟩|⟨y,u,rfl,rfl⟩
   ·rw[yb]at h;exact ACs x t j u _ _ _ _ h
   ·rw[tL]at h;exact wpAny_eqBool_str h
 «strs»:=λk x t v h=>by
  rcases aC h with⟨i,u,rfl,e⟩|⟨y,u,rfl,e⟩
  ·exact nomatch e
  ·injection e with e1 _
   subst e1
   cases v<;>rfl
theorem kK(prog:Program)(w:World)(i:Int)(t:Tok):(bb prog w).is (.inl i) (.int i t)=true:=pz i t
theorem kJ(prog:Program)(w:World)(x:Str)(t:Tok):(bb prog w).is (.inr x) (.str x t)=true:=pv x t
inductive V where
 | non | bl (b:Bool) | int (i:Int) | str (x:Str) | byt (b:Array UInt8) | flt (b:UInt64) | ref (a:Addr) | ty (n:String)
 deriving DecidableEq
def aH:V->Value->Prop
 | .non,u=>u=AB0
 | .bl b,u=>u=Value.bool b
 | .int i,u=>∃t,u=Value.int i t
 | .str x,u=>∃t,u=Value.str x t
 | .byt b,u=>∃t,u=Value.bytes b t
 | .flt b,u=>∃t,u=Value.float b t
 | .ref a,u=>u=ABC a
 | .ty n,u=>u=Value.type n
abbrev aq:List V->List Value->Prop:=Paired aH
theorem aq.length(r:aq xs us):xs.length=us.length:=Paired.length r
theorem aq.get:∀{xs:List V}{us:List Value}{i:Nat}{x:V},aq xs us->xs[i]?=some x->∃u,us[i]?=some u/\aH x u
 | _,_,_,_,.nil,e=>by simp at e
 | _,_,0,_,.cons r _,e=>by simp at e;subst e;exact⟨_,rfl,r⟩
 | _,_,i+1,x,.cons _ t,e=>by
  obtain⟨u,h1,h2⟩:=aq.get (i:=i) (x:=x) t (by simpa using e)
  exact⟨u,by simpa using h1,h2⟩
theorem aq.set(r:aH x u):∀{xs:List V}{us:List Value} (i:Nat),aq xs us->aq (xs.set i x) (us.set i u)
 | _,_,_,.nil=>.nil
 | _,_,0,.cons _ t=>.cons r t
 | _,_,i+1,.cons q t=>.cons q (aq.set r i t)
theorem aq.append(h:aq xs us)(s:aq ys ws):aq (xs++ys) (us++ws):=by
 induction h with
 | nil=>exact s
 | cons r t ih=>exact .cons r ih
theorem aq.take:∀{xs:List V}{us:List Value} (n:Nat),aq xs us->aq (xs.take n) (us.take n)
 | _,_,0,_=>.nil
 | _,_,_+1,.nil=>.nil
 | _,_,n+1,.cons r t=>.cons r (aq.take n t)
theorem aq.drop:∀{xs:List V}{us:List Value} (n:Nat),aq xs us->aq (xs.drop n) (us.drop n)
 | _,_,0,r=>r
 | _,_,_+1,.nil=>.nil
 | _,_,n+1,.cons _ t=>aq.drop n t
def qD:Option V->Option Value->Prop
 | some v,some u=>aH v u
 | none,none=>True
 | _,_=>False
def KV{κ:Type}:List (κ×V)->List (κ×Value)->Prop:=Paired λ(p:κ×V) (q:κ×Value)=>p.1=q.1/\aH p.2 q.2
noncomputable def kV:Key->V
 | .inl i=>.int i
 | .inr x=>.str x
inductive HO where
 | lst (xs:List V)
 | tup (xs:List V)
 | dK (kvs:List (Key×V)) | dT (kvs:List (List Key×V))
 | set (S:Int->Bool) (n:Nat)
 | ins (C dx:Addr) (fs:List (Str×V))
 | own (x:Addr)
 | xd (fs:List (Str×V))
 | met (f x:Addr)
 | rng (lo hi:Int)
 | frz (o:Obj) (u:HO)
 | tbl (ps:Array Value)
 | ext (φ:Program->World->Heap->Prop)
abbrev Hp:=Addr->Option HO
noncomputable def upd(H:Hp)(a:Addr)(o:HO):Hp:=λb=>if b=a then some o else H b
theorem aL:upd H a o a=some o:=by unfold upd;rw[if_pos rfl]
theorem ag(h:b≠a):upd H a o b=H b:=by unfold upd;rw[if_neg h]
theorem oM{H:Hp}{a b:Addr}{o u:HO}(h:H a=some o)(h':H b=some u)(d:o≠u):a≠b:=by
 intro e;subst e;rw[h]at h';exact d (AAN h')
theorem ac{H:Hp}{a b:Addr}{o:HO}(h:H a=some o)(h':H b=none):a≠b:=by
 intro e;subst e;rw[h]at h';cases h'
section
variable(P:Program)(w:World)
def tR(h:Heap)(a:Addr)(items:Array Value):Prop:=∃o,h.get? a=some o/\o.cls=.type "tuple"/\(∃n,o.data=.seq items n)/\o.dict=none
theorem tR.tup:tR h a items->IsTup h a items:=λ⟨o,e,c,⟨n,d⟩,_⟩=>⟨o,e,c,n,d⟩
theorem tR.new(h:Heap)(items:Array Value):tR (h.push { cls:=.type "tuple",data:=.seq items }) h.objs.size items:=⟨_,AAH _ rfl,rfl,⟨_,rfl⟩,rfl⟩
def br(H:Hp)(h:Heap)(a:Addr):HO->Prop
 | .lst xs=>xs.length<=sizeLine/\∃(its:List Value) (n:Nat),aq xs its/\h.get? a=some { cls:=.type "list",data:=.seq its.toArray n }
 | .tup xs=>xs.length<=sizeLine/\∃its:List Value,aq xs its/\tR h a its.toArray
 | .dK kvs=>kvs.length<=sizeLine/\(a==sysModules)=false/\∃vs,KV kvs vs/\h.DictOf (bb P w) a vs
 | .dT kvs=>kvs.length<=sizeLine/\(a==sysModules)=false/\∃xs:List (List Key×Addr×Value),
   Paired (λ(p:List Key×V) (q:List Key×Addr×Value)=>p.1=q.1/\H q.2.1=some (.tup (p.1.map kV))/\aH p.2 q.2.2) kvs xs /\
   ∃o es ep,h.get? a=some o/\o.ExactDict/\o.data=.dict es ep/\es.toList=xs.map (entryOfKey (tupleKind (bb P w)))/\(xs.map (·.1)).Nodup
 | .set S n=>h.SetOf (intKind P w) a S n
 | .ins C dx fs=>H dx=some (.own a)/\fs.length<=1000/\dx≠a/\h.get? a=some (PySem.W.instObj C dx) /\
   ∃mA,h.Ns1 dx mA/\(∀f,qD (fs.lookup f) (mA f))/\PySem.Within mA (fs.map (·.1))
 | .own _=>∃o,h.get? a=some o
 | .xd fs=>∃mA,h.Ns1 a mA/\∀f,qD (fs.lookup f) (mA f)
 | .rng lo hi=>∃t u v,h.get? a=some { cls:=.type "range",data:=.fields #[.int lo t,.int hi u,.int 1 v] }
 | .frz o u=>h.get? a=some o/\br H h a u
 | .tbl ps=>h.get? a=some { cls:=.none,data:=.fields ps }
 | .met f x=>h.get? a=some (AD2 (.ref f) (.ref x))
 | .ext φ=>φ P w h/\(∃o,h.get? a=some o)/\∀h1 h2:Heap,φ P w h1->(∀o,h1.get? a=some o->h2.get? a=some o)->φ P w h2
def HOk(H:Hp)(h:Heap):Prop:=∀a o,H a=some o->br P w H h a o
end
theorem br.lt(x:br P w H h a o):a<h.objs.size:=by
 cases o with
 | lst xs=>obtain⟨_,_,_,_,e⟩:=x;exact AAB e
 | tup xs=>obtain⟨_,_,_,p⟩:=x;exact p.tup.lt
 | dK kvs=>obtain⟨_,_,_,_,o,_,_,e,_⟩:=x;exact AAB e
 | dT kvs=>obtain⟨_,_,_,_,o,_,_,e,_⟩:=x;exact AAB e
 | set S n=>obtain⟨o,_,_,_,e,_⟩:=x;exact AAB e
 | ins C dx fs=>obtain⟨_,_,_,e,_⟩:=x;exact AAB e
 | own y=>obtain⟨_,e⟩:=x;exact AAB e
 | xd fs=>obtain⟨_,⟨_,_,_,e,_⟩,_⟩:=x;exact AAB e
 | rng lo hi=>obtain⟨_,_,_,e⟩:=x;exact AAB e
 | frz ob u=>obtain⟨e,_⟩:=x;exact AAB e
 | tbl ps=>exact AAB (show h.get? a=some _ from x)
 | met f y=>exact AAB (show h.get? a=some _ from x)
 | ext φ=>obtain⟨_,⟨_,e⟩,_⟩:=x;exact AAB e
theorem Paired.mapP{α β:Type}{F G:α->β->Prop}:∀{l₁:List α}{l₂:List β},Paired F l₁ l₂->(∀a b,F a b->G a b)->Paired G l₁ l₂
 | _,_,.nil,_=>.nil
 | _,_,.cons r t,f=>.cons (f _ _ r) (Paired.mapP t f)
theorem br.stay(x:br P w H h a o)(k:∀b u,(b=a\/H b=some (.own a))->h.get? b=some u->h'.get? b=some u)
  (ho:∀b,H b=some (.own a)->H' b=some (.own a)) (ht:∀b xs,H b=some (.tup xs)->H' b=some (.tup xs)):br P w H' h' a o:=by
 induction o with
 | lst xs=>obtain⟨z,its,n,r,e⟩:=x;exact⟨z,its,n,r,k _ _ (.inl rfl) e⟩
 | tup xs=>obtain⟨z,its,r,ob,e,c⟩:=x;exact⟨z,its,r,ob,k _ _ (.inl rfl) e,c⟩
 | dK kvs=>obtain⟨z,y,vs,r,ob,es,ep,e,c⟩:=x;exact⟨z,y,vs,r,ob,es,ep,k _ _ (.inl rfl) e,c⟩
 | dT kvs =>
  obtain⟨z,y,xs,r,ob,es,ep,e,c⟩:=x
  exact⟨z,y,xs,Paired.mapP r λp q z=>⟨z.1,ht _ _ z.2.1,z.2.2⟩,ob,es,ep,k _ _ (.inl rfl) e,c⟩
 | set S n=>obtain⟨ob,es,ep,t,e,c⟩:=x;exact⟨ob,es,ep,t,k _ _ (.inl rfl) e,c⟩
 | ins C dx fs =>
  obtain⟨d,z,ne,e,mA,⟨od,es,ep,e2,c⟩,r⟩:=x
  exact⟨ho _ d,z,ne,k _ _ (.inl rfl) e,mA,⟨od,es,ep,k _ _ (.inr d) e2,c⟩,r⟩
 | own y=>obtain⟨ob,e⟩:=x;exact⟨ob,k _ _ (.inl rfl) e⟩
 | xd fs=>obtain⟨mA,⟨od,es,ep,e,c⟩,r⟩:=x;exact⟨mA,⟨od,es,ep,k _ _ (.inl rfl) e,c⟩,r⟩
 | rng lo hi=>obtain⟨t,u,v,e⟩:=x;exact⟨t,u,v,k _ _ (.inl rfl) e⟩
 | frz ob u ih=>obtain⟨e,q⟩:=x;exact⟨k _ _ (.inl rfl) e,ih q⟩
 | tbl ps =>
  have e:h.get? a=some { cls:=.none,data:=.fields ps }:=x
  show h'.get? a=some { cls:=.none,data:=.fields ps }
  exact k a _ (.inl rfl) e
 | met f y =>
  have e:h.get? a=some (AD2 (.ref f) (.ref y)):=x
  show h'.get? a=some (AD2 (.ref f) (.ref y))
  exact k a _ (.inl rfl) e
 | ext φ=>obtain⟨p,⟨o,e⟩,st⟩:=x;exact⟨st _ _ p λo q=>k _ _ (.inl rfl) q,⟨o,k _ _ (.inl rfl) e⟩,st⟩
theorem HOk.lt(x:HOk P w H h)(e:H a=some o):a<h.objs.size:=(x a o e).lt
theorem HOk.fresh(x:HOk P w H h)(e:h.objs.size<=a):H a=none:=by
 cases q:H a with
 | none=>rfl
 | some u=>exact absurd (AAF (x.lt q) e) (AAh _)
theorem HOk.kept(x:HOk P w H h)(k:∀b u,h.get? b=some u->h'.get? b=some u):HOk P w H h':=λa o e =>
 (x a o e).stay (λb u _ q=>k b u q) (λ_ q=>q) λ_ _ q=>q
theorem HOk.laid(x:HOk P w H h)(k:∀b u,h.get? b=some u->h'.get? b=some u)(hp:h.objs.size<=a)(new:br P w (upd H a o) h' a o):HOk P w (upd H a o) h':=λb u e=>by
 have hn:=x.fresh hp
 by_cases hb:b=a
 ·subst hb;rw[aL]at e;cases e;exact new
 ·rw[ag hb]at e
  exact(x b u e).stay (λc v _ q=>k c v q) (λc q=>by rw[ag (ac q hn)];exact q) λc xs q=>by rw[ag (ac q hn)];exact q
def Rd(H:Hp)(a:Addr)(u:HO):Prop:=H a=some u\/∃o,H a=some (.frz o u)
theorem Rd.ok(r:Rd H a u)(x:HOk P w H h):br P w H h a u:=by
 rcases r with r | ⟨o,r⟩
 ·exact x a u r
 ·obtain⟨_,q⟩:=x a _ r
  exact q
def Mut:Option HO->Prop
 | some (.lst _)=>True
 | some (.dK _)=>True
 | some (.dT _)=>True
 | some (.set _ _)=>True
 | some (.ins _ _ _)=>True
 | some (.ext _)=>True
 | _=>False
theorem HOk.write(ok:HOk P w H h)(mu:Mut (H x))(he:e=x\/H e=some (.own x))(k:∀b u,b≠e->h.get? b=some u->h'.get? b=some u)(heo:∃u,h'.get? e=some u)
  (new:br P w (upd H x o') h' x o'):HOk P w (upd H x o') h':=λb u q=>by
 have nown:∀c y,H c=some (.own y)->c≠x:=λc y r z=>by subst z;rw[r]at mu;exact mu
 have ntup:∀c xs,H c=some (.tup xs)->c≠x:=λc xs r z=>by subst z;rw[r]at mu;exact mu
 by_cases hb:b=x
 ·subst hb;rw[aL]at q;cases q;exact new
 ·rw[ag hb]at q
  by_cases hbe:b=e
  ·have q':H b=some (.own x):=by
    rcases he with z | z
    ·exact absurd (hbe.trans z) hb
    ·rw[hbe];exact z
   rw[q]at q';cases q'
   obtain⟨v,hv⟩:=heo
   exact⟨v,by rw[hbe];exact hv⟩
  ·refine(ok b u q).stay (λc v hc r=>k c v ?_ r) (λc r=>by rw[ag (nown c b r)];exact r) λc xs r=>by rw[ag (ntup c xs r)];exact r
   rcases hc with rfl | hc
   ·exact hbe
   ·rintro rfl
    rcases he with z | z
    ·exact nown c b hc z
    ·rw[hc]at z;cases z;exact hb rfl
structure Un(fs ex:List Addr)(H H':Hp)(h h':Heap):Prop where
 keep:∀b o,h.get? b=some o->H b=none->b∉fs->b∉ex->h'.get? b=some o
 slot:∀b o,h.get? b=some o->H b=none->b∈fs->b∉ex->∃sl,h'.get? b=some { o with slots:=sl }
 free:∀b o,h.get? b=some o->H b=none->b∉ex->H' b=none
 there:∀b o,h.get? b=some o->b∉ex->∃o',h'.get? b=some o'
 tups:∀b xs,H b=some (.tup xs)->H' b=some (.tup xs)
 frzs:∀b o u,H b=some (.frz o u)->H' b=some (.frz o u)
 tbls:∀b ps,H b=some (.tbl ps)->∃more,H' b=some (.tbl (ps++more))
theorem Un.any(u:Un fs ex H H1 h h1)(q:h.get? b=some ob)(n:H b=none)(hx:b∉ex):∃sl,h1.get? b=some { ob with slots:=sl }:=by
 by_cases hb:b∈fs
 ·exact u.slot b ob q n hb hx
 ·exact⟨ob.slots,u.keep b ob q n hb hx⟩
theorem Un.kept(k:∀b u,h.get? b=some u->h'.get? b=some u):Un fs ex H H h h' :=
 ⟨λb ob q _ _ _=>k b ob q,λb ob q _ _ _=>⟨ob.slots,k b ob q⟩,λ_ _ _ n _=>n,λb ob q _=>⟨ob,k b ob q⟩,λ_ _ q=>q,λ_ _ _ q=>q,λ_ ps q=>⟨#[],by rw[q];simp⟩⟩
theorem Un.refl:Un fs ex H H h h:=Un.kept λ_ _ q=>q
theorem Un.laid(k:∀b u,h.get? b=some u->h'.get? b=some u)(hp:h.objs.size<=a)(hn:H a=none):Un fs ex H (upd H a o) h h' where
 keep:=λb u q _ _ _=>k b u q
 slot:=λb u q _ _ _=>⟨u.slots,k b u q⟩
 free:=λb u q n _=>by rw[ag (AAK (AAF (AAB q) hp))];exact n
 there:=λb u q _=>⟨u,k b u q⟩
 tups:=λb xs q=>by rw[ag (ac q hn)];exact q
 frzs:=λb u xs q=>by rw[ag (ac q hn)];exact q
 tbls:=λb ps q=>⟨#[],by rw[ag (ac q hn),q];simp⟩
theorem Un.write(mu:Mut (H x))(he:e=x\/H e=some (.own x))(k:∀b u,b≠e->h.get? b=some u->h'.get? b=some u)(heo:∃u,h'.get? e=some u):Un fs ex H (upd H x o) h h':=by
 have hx:∀b,H b=none->b≠x:=λb n z=>by subst z;rw[n]at mu;exact mu
 have hb:∀b,H b=none->b≠e:=λb n z=>by
  subst z
  rcases he with r | r
  ·exact hx b n r
  ·rw[n]at r;cases r
 have hm:∀b u,H b=some u->¬Mut (some u)->b≠x:=λb u q nm z=>by subst z;rw[q]at mu;exact nm mu
 refine⟨λb u q n _ _=>k b u (hb b n) q,λb u q n _ _=>⟨u.slots,k b u (hb b n) q⟩,λb u q n _=>by rw[ag (hx b n)];exact n,λb u q _=>?_,
  λb xs q=>by rw[ag (hm b _ q λz=>z)];exact q,λb u xs q=>by rw[ag (hm b _ q λz=>z)];exact q,λb ps q=>⟨#[],by rw[ag (hm b _ q λz=>z),q];simp⟩⟩
 by_cases hbe:b=e
 ·subst hbe;exact heo
 ·exact⟨u,k b u hbe q⟩
noncomputable def trk(h:Heap)(H:Hp):List Addr:=(AAb h.objs.size).filter λa=>(H a).isSome
noncomputable def sj(h:Heap)(H:Hp):Heap:=ABe h (trk h H)
theorem pI(h:Heap)(H:Hp):(sj h H).objs.size=h.objs.size:=PySem.W.hideAll_size _ _
theorem sh(e:h.get? b=some o)(n:H b=none):(sj h H).get? b=some o :=
 PySem.W.hideAll_get _ e λhm=>by
  have q:(H b).isSome=true:=(List.mem_filter.mp hm).2
  rw[n]at q;simp at q
theorem uN(e:(sj h H).get? b=some o):h.get? b=some o/\H b=none:=by
 have e':h.get? b=some o:=ACt (trk h H) e
 refine⟨e',?_⟩
 cases q:H b with
 | none=>rfl
 | some x =>
  have hm:b∈trk h H:=List.mem_filter.mpr ⟨AB6.mpr (AAB e'),by simp[q]⟩
  have z:(sj h H).get? b=none:=PySem.W.hideAll_none (trk h H) hm
  rw[z]at e;cases e
noncomputable def wu(g h:Heap)(L:Addr):List (Addr×Obj):=(AAb h.objs.size).filterMap λa=>if a=L\/(g.get? a).isSome=true then none else(h.get? a).map λo=>(a,o)
noncomputable def az(g h:Heap)(L d:Addr):List (Addr×Obj):=(wu g h L).filter λp=>decide (p.1≠d)
structure Mod(K:AA)(mg:Str->Option Value)(base:Heap):Prop where
 kin:K.In base
 glob:base.Ns mainGlobals mg
 blt:∃mb,base.Ns builtinsNs mb/\∀x:Str,x≠"__name__"->mb x=bootBuiltins x
 nolimit:base.NoLimit
/-- the context: a def's body (or a comprehension's block) running. base: fixed through the whole law;s₀,H₀: the entry;outer: the frames whose slots others may change (a def's callers);stack: all frames that run;
  ex: iterators that were made zj of the entry and are walked here (a comprehension's);fn: the names whose cells were made at the entry (a def: all;a comprehension's block: its own);calm: not within an except suite;pn: pins that every state bears;xe: what is wanted of an exception that leaves the code -/
structure Cx where
 prog:Program
 w:World
 K:AA
 mg:Str->Option Value
 base:Heap
 A:Around
 N:List Str
 s₀:Shared
 H₀:Hp
 env:Env
 outer:List Env
 stack:List Env
 ex:List Addr
 fn:Str->Bool
 calm:Bool
 pn:List (Addr×Obj)
 xe:Value->Shared->Prop
noncomputable def frs(l:List Env):List Addr:=l.filterMap (·.frame)
noncomputable abbrev Cx.fs(X:Cx):List Addr:=frs X.outer
def Vis(sc:Scope)(x:Str):Prop:=sc.names.lookup x=some .local\/sc.names.lookup x=some .cell\/sc.names.lookup x=some .free
def Loc(sc:Scope)(x:Str):Prop:=sc.names.lookup x=some .local\/sc.names.lookup x=some .cell
def Look(env:Env)(h:Heap)(m:Str->Option Value)(x:Str)(u:Value):Prop :=
 (env.kindOf x=some .local/\m x=some u)\/((env.kindOf x=some .cell\/env.kindOf x=some .free)/\∃c,env.cells.lookup x=some c/\h.IsCell c (some u))
structure Cx.Ok(X:Cx):Prop where
 mod:Mod X.K X.mg X.base
 kind:X.env.scope.kind=.function
 glob:X.env.globals=mainGlobals
 blt:X.env.builtins=builtinsNs
 above:X.s₀.heap.objs.size<=X.env.locals
 inj:∀x y c,X.env.cells.lookup x=some c->X.env.cells.lookup y=some c->x=y
 has:∀x,(X.env.kindOf x=some .cell\/X.env.kindOf x=some .free)->∃c,X.env.cells.lookup x=some c
 cab:∀x c,X.fn x=true->X.env.cells.lookup x=some c->X.s₀.heap.objs.size<=c
 hd:X.calm=true->X.A.handled=none
 frames:X.A.frames=some X.stack
 stk:X.stack=X.outer\/(X.stack=X.env::X.outer/\X.env.frame=some X.env.locals)
 exf:∀b∈X.ex,b≠X.env.locals/\∀x c,X.env.cells.lookup x=some c->c≠b
 bs:∀b o,X.base.get? b=some o->X.s₀.heap.get? b=some o/\X.H₀ b=none
 bsz:X.base.objs.size<=X.s₀.heap.objs.size
 noex:∀b o,X.base.get? b=some o->b∉X.ex
 exfs:∀b∈X.ex,b∉X.fs
 funs:X.s₀.heap.FunFrames X.base X.outer
 frf:∀b∈X.fs,X.H₀ b=none
structure Inv(X:Cx)(pins:List (Addr×Obj))(σ:List (Option V))(H:Hp)(s:Shared):Prop where
 ok:X.Ok
 os:s.os=X.s₀.os
 bare:AllBare s.gens
 base:Un X.fs X.ex X.H₀ H X.s₀.heap s.heap
 loc:∃m,s.heap.Ns X.env.locals m/\∀(i:Nat) (x:Str) (v:V),X.N[i]?=some x->σ[i]?=some (some v)->Vis X.env.scope x->∃u,aH v u/\Look X.env s.heap m x u
 cell:∀x c,X.env.cells.lookup x=some c->∃v,s.heap.IsCell c v
 free:H X.env.locals=none
 freeC:∀x c,X.env.cells.lookup x=some c->H c=none
 pin:∀p∈X.pn++pins,s.heap.get? p.1=some p.2/\H p.1=none/\p.1≠X.env.locals/\p.1∉X.fs/\∀v,p.2.data≠.cell v
 hok:HOk X.prog X.w H s.heap
 len:σ.length=X.N.length
theorem Cx.Ok.nofr{X:Cx}(ok:X.Ok)(e:X.base.get? b=some o):b∉X.fs:=λhb=>by
 have:=(ok.funs.mem hb).1
 rw[e]at this;cases this
theorem Inv.bs{X:Cx}{pins:List (Addr×Obj)}{σ:List (Option V)}{H:Hp}{s:Shared}(I:Inv X pins σ H s):∀b o,X.base.get? b=some o->s.heap.get? b=some o/\H b=none:=λb o e =>
 ⟨I.base.keep b o (I.ok.bs b o e).1 (I.ok.bs b o e).2 (I.ok.nofr e) (I.ok.noex b o e),I.base.free b o (I.ok.bs b o e).1 (I.ok.bs b o e).2 (I.ok.noex b o e)⟩
theorem Inv.bk(I:Inv X pins σ H s):∀b o,X.base.get? b=some o->s.heap.get? b=some o:=λb o e=>(I.bs b o e).1
theorem Inv.mod(I:Inv X pins σ H s):Mod X.K X.mg X.base:=I.ok.mod
theorem Inv.kIn(I:Inv X pins σ H s):X.K.In s.heap:=I.ok.mod.kin.keeps I.bk
theorem Inv.lt(I:Inv X pins σ H s):X.env.locals<s.heap.objs.size:=let ⟨_,hn,_⟩:=I.loc;hn.lt
theorem Inv.sz(I:Inv X pins σ H s):X.s₀.heap.objs.size<=s.heap.objs.size:=AAn I.ok.above (Nat.le_of_lt I.lt)
theorem Inv.nofs(I:Inv X pins σ H s)(h:s.heap.objs.size<=a):a∉X.fs:=λhb=>by
 obtain⟨_,o,ho,_⟩:=I.ok.funs.mem hb
 exact absurd (AAF (AAB ho) (AAn I.sz h)) (AAh _)
theorem Inv.cne(I:Inv X pins σ H s):∀x c,X.env.cells.lookup x=some c->c≠X.env.locals:=λx c e z=>by
 obtain⟨v,o,ho,hd⟩:=I.cell x c e
 obtain⟨m,⟨o',es,ep,ho',hd',_⟩,_⟩:=I.loc
 rw[z,ho']at ho;cases ho;rw[hd']at hd;cases hd
theorem Inv.funs(I:Inv X pins σ H s):s.heap.FunFrames X.base X.outer:=by
 have all:∀(l:List Env),(∀b∈frs l,b∈X.fs)->X.s₀.heap.FunFrames X.base l->s.heap.FunFrames X.base l:=by
  intro l
  induction l with
  | nil=>intro _ _;trivial
  | cons env r ih =>
   intro hs hl
   obtain⟨hk,⟨L,o,hf,hn,ho,hd⟩,hr⟩:=hl
   have hL:L∈X.fs:=hs L (by unfold frs;rw[AC8,hf];exact AAI)
   obtain⟨sl,e⟩:=I.base.slot L o ho (I.ok.frf L hL) hL λz=>I.ok.exfs L z hL
   exact⟨hk,⟨L,_,hf,hn,e,hd⟩,ih (λb hb=>hs b (by unfold frs;rw[AC8,hf];exact AAA _ hb)) hr⟩
 exact all X.outer (λ_ hb=>hb) I.ok.funs
theorem Inv.stack(I:Inv X pins σ H s):s.heap.FunFrames X.base X.stack:=by
 rcases I.ok.stk with e | ⟨e,hf⟩
 ·rw[e];exact I.funs
 ·rw[e]
  obtain⟨m,hn,_⟩:=I.loc
  refine .cons (by rw[I.ok.kind];decide) hf hn ?_ I.funs
  exact Heap.get?_none_of_le (AAn I.ok.bsz I.ok.above)
theorem Inv.stkSub(I:Inv X pins σ H s):∀b∈frs X.stack,b∈X.env.locals::X.fs:=λb hb=>by
 rcases I.ok.stk with e | ⟨e,hf⟩
 ·rw[e]at hb;exact AAA _ hb
 ·rw[e]at hb
  unfold frs at hb
  rw[AC8,hf]at hb
  exact hb
theorem Inv.stkFree(I:Inv X pins σ H s):∀b∈frs X.stack,H b=none:=λb hb=>by
 rcases AA9.mp (I.stkSub b hb)with e | hb
 ·rw[e];exact I.free
 ·obtain⟨_,o,ho,_⟩:=I.ok.funs.mem hb
  exact I.base.free b o ho (I.ok.frf b hb) λz=>I.ok.exfs b z hb
theorem Inv.step{g':Array GenState}{t':Nat}{d':Drawn}{ch:List Addr}(I:Inv X pins σ H s)
  (hch:∀b∈ch,(b∈X.ex\/X.s₀.heap.objs.size<=b)/\b≠X.env.locals/\(∀x c,X.env.cells.lookup x=some c->c≠b)/\∀p∈X.pn++pins,p.1≠b)
  (keep:∀b o,b≠X.env.locals->b∉X.fs->b∉ch->s.heap.get? b=some o->H b=none->h'.get? b=some o)
  (slot:∀b o,b≠X.env.locals->b∈X.fs->b∉ch->s.heap.get? b=some o->H b=none->∃sl,h'.get? b=some { o with slots:=sl }) (free:∀b o,b∉ch->s.heap.get? b=some o->H b=none->H' b=none)
  (there:∀b o,b∉ch->s.heap.get? b=some o->∃o',h'.get? b=some o')
  (tups:∀b xs,H b=some (.tup xs)->H' b=some (.tup xs)) (frzs:∀b o u,H b=some (.frz o u)->H' b=some (.frz o u)) (tbls:∀b ps,H b=some (.tbl ps)->∃more,H' b=some (.tbl (ps++more)))
  (ns:∀m,s.heap.Ns X.env.locals m->h'.Ns X.env.locals m) (hok:HOk X.prog X.w H' h') (hg:AllBare g') :
  Inv X pins σ H' { s with heap:=h',gens:=g',drawn:=d',toks:=t' }:=by
 have neL:∀b o,X.s₀.heap.get? b=some o->b≠X.env.locals:=λb o e=>AAK (AAF (AAB e) I.ok.above)
 have neC:∀b o,X.s₀.heap.get? b=some o->b∉X.ex->b∉ch:=λb o e hx hb=>by
  rcases(hch b hb).1 with z | z
  ·exact hx z
  ·exact absurd (AAF (AAB e) z) (AAh _)
 have cellK:∀x c,X.env.cells.lookup x=some c->∀v,s.heap.IsCell c v->h'.IsCell c v:=λx c e v ⟨o,ho,hd⟩=>by
  have nch:c∉ch:=λz=>(hch c z).2.2.1 x c e rfl
  by_cases hc:c∈X.fs
  ·obtain⟨sl,q⟩:=slot c o (I.cne x c e) hc nch ho (I.freeC x c e)
   exact⟨_,q,hd⟩
  ·exact⟨o,keep c o (I.cne x c e) hc nch ho (I.freeC x c e),hd⟩
 refine⟨I.ok,I.os,hg,⟨λb o e n hb hx=>?_,λb o e n hb hx=>?_,λb o e n hx=>?_,λb o e hx=>?_,λb xs e=>tups b xs (I.base.tups b xs e),λb o xs e=>frzs b o xs (I.base.frzs b o xs e),λb ps e=>?_⟩,?_,λx c e=>?_,?_,λx c e=>?_,λp hp=>?_,hok,I.len⟩
 ·exact keep b o (neL b o e) hb (neC b o e hx) (I.base.keep b o e n hb hx) (I.base.free b o e n hx)
 ·obtain⟨sl,e1⟩:=I.base.slot b o e n hb hx
  obtain⟨sl',e2⟩:=slot b _ (neL b o e) hb (neC b o e hx) e1 (I.base.free b o e n hx)
  exact⟨sl',e2⟩
 ·obtain⟨o',e1⟩:=I.base.there b o e hx
  exact free b o' (neC b o e hx) e1 (I.base.free b o e n hx)
 ·obtain⟨o',e1⟩:=I.base.there b o e hx
  exact there b o' (neC b o e hx) e1
 ·obtain⟨m1,e1⟩:=I.base.tbls b ps e
  obtain⟨m2,e2⟩:=tbls b _ e1
  exact⟨m1++m2,by rw[e2,Array.append_assoc]⟩
 ·obtain⟨m,hn,hl⟩:=I.loc
  refine⟨m,ns m hn,λi x v e1 e2 e3=>?_⟩
  obtain⟨u,r,l⟩:=hl i x v e1 e2 e3
  refine⟨u,r,?_⟩
  rcases l with l | ⟨k,c,e,z⟩
  ·exact .inl l
  ·exact .inr ⟨k,c,e,cellK x c e _ z⟩
 ·obtain⟨v,z⟩:=I.cell x c e
  exact⟨v,cellK x c e v z⟩
 ·obtain⟨m,⟨o,_,_,ho,_⟩,_⟩:=I.loc
  exact free _ o (λz=>(hch _ z).2.1 rfl) ho I.free
 ·obtain⟨v,o,ho,hd⟩:=I.cell x c e
  exact free c o (λz=>(hch c z).2.2.1 x c e rfl) ho (I.freeC x c e)
 ·obtain⟨e,n,ne,nf,d⟩:=I.pin p hp
  have nch:p.1∉ch:=λz=>(hch p.1 z).2.2.2 p hp rfl
  exact⟨keep p.1 p.2 ne nf nch e n,free p.1 p.2 nch e n,ne,nf,d⟩
theorem Inv.un{t':Nat}(I:Inv X pins σ H s)(u:Un X.fs [] H H' s.heap h')(hok:HOk X.prog X.w H' h'):Inv X pins σ H' { s with heap:=h',toks:=t' }:=by
 obtain⟨m,⟨o,es,ep,ho,r⟩,_⟩:=id I.loc
 obtain⟨sl,hL⟩:=u.any ho I.free (by simp)
 exact I.step (g':=s.gens) (d':=s.drawn) (ch:=[]) (λ_ z=>nomatch z) (λb o _ hb _ e n=>u.keep b o e n hb (by simp)) (λb o _ hb _ e n=>u.slot b o e n hb (by simp)) (λb o _ e n=>u.free b o e n (by simp)) (λb o _ e=>u.there b o e (by simp)) u.tups u.frzs u.tbls (λm' hm=>by
  obtain⟨o',es',ep',ho',r'⟩:=hm
  rw[ho]at ho';cases ho'
  exact⟨_,es',ep',hL,r'⟩) hok I.bare
theorem Inv.call{g':Array GenState}{t':Nat}{d':Drawn}{ch:List Addr}(I:Inv X pins σ H s)(u:Un (frs X.stack) ch H H' s.heap h')(hok:HOk X.prog X.w H' h')(hg:AllBare g')
  (hch:∀b∈ch,(b∈X.ex\/X.s₀.heap.objs.size<=b)/\b≠X.env.locals/\(∀x c,X.env.cells.lookup x=some c->c≠b)/\∀p∈X.pn++pins,p.1≠b) :
  Inv X pins σ H' { s with heap:=h',gens:=g',drawn:=d',toks:=t' }:=by
 obtain⟨m,⟨o,es,ep,ho,r⟩,_⟩:=id I.loc
 obtain⟨sl,hL⟩:=u.any ho I.free λz=>(hch _ z).2.1 rfl
 exact I.step (ch:=ch) hch (λb o hL hb hc e n=>u.keep b o e n (λz=>(AA9.mp (I.stkSub b z)).elim hL hb) hc) (λb o _ _ hc e n=>u.any e n hc) (λb o hc e n=>u.free b o e n hc) (λb o hc e=>u.there b o e hc) u.tups u.frzs u.tbls (λm' hm=>by
  obtain⟨o',es',ep',ho',r'⟩:=hm
  rw[ho]at ho';cases ho'
  exact⟨_,es',ep',hL,r'⟩) hok hg
theorem Inv.turned{t':Nat}{it:Addr}(I:Inv X pins σ H s)(k:∀b o,b≠it->s.heap.get? b=some o->h'.get? b=some o)(hn:H it=none)(hL:it≠X.env.locals)
  (h1:it∈X.ex\/X.s₀.heap.objs.size<=it) (h2:∀x c,X.env.cells.lookup x=some c->c≠it) (h3:∀p∈X.pn++pins,p.1≠it):Inv X pins σ H { s with heap:=h',toks:=t' }:=by
 have nit:∀b u,H b=some u->b≠it:=λb u e z=>by rw[z,hn]at e;cases e
 refine I.step (g':=s.gens) (d':=s.drawn) (ch:=[it]) (λb hb=>?_) (λb o _ _ hc e _=>k b o (λz=>hc (by simp[z])) e) (λb o _ _ hc e _=>⟨o.slots,k b o (λz=>hc (by simp[z])) e⟩) (λ_ _ _ _ n=>n)
  (λb o hc e=>⟨o,k b o (λz=>hc (by simp[z])) e⟩) (λ_ _ e=>e) (λ_ _ _ e=>e) (λb ps e=>⟨#[],by rw[e];simp⟩) (λm hm=>?_) (λb u e=>?_) I.bare
 ·have e:b=it:=by simpa using hb
  subst e
  exact⟨h1,hL,h2,h3⟩
 ·obtain⟨o,es,ep,ho,r⟩:=hm
  exact⟨o,es,ep,k _ o (AAm hL) ho,r⟩
 ·refine(I.hok b u e).stay (λc v hc q=>k c v ?_ q) (λ_ q=>q) λ_ _ q=>q
  rcases hc with z | z
  ·rw[z];exact nit b u e
  ·exact nit c _ z
theorem Inv.tok(I:Inv X pins σ H s)(t:Nat):Inv X pins σ H { s with toks:=t }:=I.un (h':=s.heap) (t':=t) Un.refl I.hok
theorem Inv.kept(I:Inv X pins σ H s)(k:∀b u,s.heap.get? b=some u->h'.get? b=some u):Inv X pins σ H { s with heap:=h',toks:=t' }:=I.un (Un.kept k) (I.hok.kept k)
theorem Inv.laid(I:Inv X pins σ H s)(k:∀b u,s.heap.get? b=some u->h'.get? b=some u)(hp:s.heap.objs.size<=a)(new:br X.prog X.w (upd H a o) h' a o) :
  Inv X pins σ (upd H a o) { s with heap:=h',toks:=t' }:=I.un (Un.laid k hp (I.hok.fresh hp)) (I.hok.laid k hp new)
theorem Inv.write(I:Inv X pins σ H s)(mu:Mut (H x))(he:e=x\/H e=some (.own x))(k:∀b u,b≠e->s.heap.get? b=some u->h'.get? b=some u)(heo:∃u,h'.get? e=some u)
  (new:br X.prog X.w (upd H x o) h' x o):Inv X pins σ (upd H x o) { s with heap:=h',toks:=t' }:=I.un (Un.write mu he k heo) (I.hok.write mu he k heo new)
theorem Inv.pins_of(I:Inv X pins σ H s)(h:∀p∈pins',s.heap.get? p.1=some p.2/\H p.1=none/\p.1≠X.env.locals/\p.1∉X.fs/\∀v,p.2.data≠.cell v):Inv X pins' σ H s :=
 ⟨I.ok,I.os,I.bare,I.base,I.loc,I.cell,I.free,I.freeC,λp hp=>(ABQ.mp hp).elim (λz=>I.pin p (AC0 _ z)) (h p),I.hok,I.len⟩
theorem im{N:List Str}(hN:N.Nodup){i j:Nat}{x:Str}(a:N[i]?=some x)(b:N[j]?=some x):i=j:=by
 obtain⟨h1,e1⟩:=AA4.mp a
 obtain⟨h2,e2⟩:=AA4.mp b
 exact(List.getElem_inj hN).mp (e1.trans e2.symm)
theorem og{M:Model}{A:Around}{E:Value->Shared->Prop}{i:Nat}{x:Str}{v:V}{u:Value}{Q:Unit->Shared->Prop}(I:Inv X pins σ H s)(hN:X.N.Nodup)(hi:X.N[i]?=some x)(hx:Loc X.env.scope x)(r:aH v u)
  (h:∀s',Inv X pins (σ.set i (some v)) H s'->(∃a,ACu a s.heap s'.heap/\(a=X.env.locals\/X.env.cells.lookup x=some a))->Q () s') (hf:X.fn x=true\/X.env.scope.names.lookup x=some .local:=by first | exact .inl rfl | exact .inr rfl | assumption):wpAny M A (storeName X.env x u) Q E s:=by
 obtain⟨m,hn,hl⟩:=id I.loc
 have hcls:(X.env.scope.kind==.class||(X.env.scope.kind==.module&&X.env.locals != X.env.globals))=false:=by rw[I.ok.kind];rfl
 have hiσ:i<σ.length:=by rw[I.len];exact(AA4.mp hi).1
 have cne:=I.cne
 have tracked:∀{a:Addr}{h':Heap},(∃o,s.heap.get? a=some o/\H a=none)->ACu a s.heap h'->HOk X.prog X.w H h':=λ{a h'} ha hs b ob e=>by
  obtain⟨_,_,hfree⟩:=ha
  refine(I.hok b ob e).stay (λc w' hc q=>(hs.2 c ?_).trans q) (λ_ q=>q) λ_ _ q=>q
  rintro rfl
  rcases hc with rfl | hc
  ·rw[hfree]at e;cases e
  ·rw[hfree]at hc;cases hc
 rcases hx with hk | hk
 ·refine wpAny_storeName_local hk hn (λh' hn' hs=>?_) hcls
  obtain⟨oL,_,_,hoL,_⟩:=id hn
  refine h _ ⟨I.ok,I.os,I.bare,⟨λb o e n hb hx=>?_,λb o e n hb hx=>?_,I.base.free,λb o e hx=>?_,I.base.tups,I.base.frzs,I.base.tbls⟩,⟨_,hn',λj y v' e1 e2 e3=>?_⟩,λy c e=>?_,I.free,I.freeC,λp hp=>?_,tracked ⟨oL,hoL,I.free⟩ hs,by simpa using I.len⟩ ⟨_,hs,.inl rfl⟩
  ·exact(hs.2 b (AAK (AAF (AAB e) I.ok.above))).trans (I.base.keep b o e n hb hx)
  ·obtain⟨sl,e1⟩:=I.base.slot b o e n hb hx
   exact⟨sl,(hs.2 b (AAK (AAF (AAB e) I.ok.above))).trans e1⟩
  ·obtain⟨o',e1⟩:=I.base.there b o e hx
   exact⟨o',(hs.2 b (AAK (AAF (AAB e) I.ok.above))).trans e1⟩
  ·by_cases hj:j=i
   ·subst hj
    rw[hi]at e1;cases e1
    rw[AAg hiσ]at e2
    cases e2
    exact⟨u,r,.inl ⟨hk,by simp⟩⟩
   ·rw[AAt (AAm hj)]at e2
    obtain⟨u',r',q⟩:=hl j y v' e1 e2 e3
    refine⟨u',r',?_⟩
    rcases q with⟨k,e⟩|⟨k,c,e,z⟩
    ·refine .inl ⟨k,?_⟩
     have:y≠x:=λe=>hj (im hN e1 (e ▸ hi))
     simp[this,e]
    ·exact .inr ⟨k,c,e,z.sameBut hs (cne y c e)⟩
  ·obtain⟨w',z⟩:=I.cell y c e
   exact⟨w',z.sameBut hs (cne y c e)⟩
  ·obtain⟨e,n,ne,nf,d⟩:=I.pin p hp
   exact⟨(hs.2 p.1 ne).trans e,n,ne,nf,d⟩
 ·have hfn:X.fn x=true:=by
   rcases hf with z | z
   ·exact z
   ·rw[z]at hk;cases hk
  obtain⟨c,hc⟩:=I.ok.has x (.inl hk)
  obtain⟨w',z⟩:=I.cell x c hc
  refine wpAny_storeName_cell I.ok.kind hk hc z (λh' hc' hs=>?_)
  obtain⟨oc,hoc,hocd⟩:=id z
  refine h { s with heap:=h' } ⟨I.ok,I.os,I.bare,⟨λb o e n hb hx=>?_,λb o e n hb hx=>?_,I.base.free,λb o e hx=>?_,I.base.tups,I.base.frzs,I.base.tbls⟩,⟨m,hn.sameBut hs (AAm (cne x c hc)),λj y v' e1 e2 e3=>?_⟩,λy c' e=>?_,I.free,I.freeC,λp hp=>?_,tracked ⟨oc,hoc,I.freeC x c hc⟩ hs,by simpa using I.len⟩ ⟨c,hs,.inr hc⟩
  ·exact(hs.2 b (AAK (AAF (AAB e) (I.ok.cab x c hfn hc)))).trans (I.base.keep b o e n hb hx)
  ·obtain⟨sl,e1⟩:=I.base.slot b o e n hb hx
   exact⟨sl,(hs.2 b (AAK (AAF (AAB e) (I.ok.cab x c hfn hc)))).trans e1⟩
  ·obtain⟨o',e1⟩:=I.base.there b o e hx
   exact⟨o',(hs.2 b (AAK (AAF (AAB e) (I.ok.cab x c hfn hc)))).trans e1⟩
  ·by_cases hj:j=i
   ·subst hj
    rw[hi]at e1;cases e1
    rw[AAg hiσ]at e2
    cases e2
    exact⟨u,r,.inr ⟨.inl hk,c,hc,hc'⟩⟩
   ·rw[AAt (AAm hj)]at e2
    obtain⟨u',r',q⟩:=hl j y v' e1 e2 e3
    refine⟨u',r',?_⟩
    rcases q with q | ⟨k,c',e,z'⟩
    ·exact .inl q
    ·refine .inr ⟨k,c',e,z'.sameBut hs ?_⟩
     rintro rfl
     exact hj (im hN e1 (I.ok.inj _ _ _ e hc ▸ hi))
  ·by_cases hcc:c'=c
   ·subst hcc;exact⟨_,hc'⟩
   ·obtain⟨w2,z2⟩:=I.cell y c' e
    exact⟨w2,z2.sameBut hs hcc⟩
  ·obtain⟨e,n,ne,nf,d⟩:=I.pin p hp
   refine⟨(hs.2 p.1 ?_).trans e,n,ne,nf,d⟩
   intro q
   rw[q,hoc]at e
   have q':oc=p.2:=AAN e
   exact d w' (by rw[<-q'];exact hocd)
theorem dq(I:Inv X pins σ H s)(hN:X.N.Nodup)(hi:X.N[i]?=some x)(hx:Loc X.env.scope x)(r:aH v u)
  (h:∀s',Inv X pins (σ.set i (some v)) H s'->Q () s') (hf:X.fn x=true\/X.env.scope.names.lookup x=some .local:=by first | exact .inl rfl | exact .inr rfl | assumption):wpAny M A (storeName X.env x u) Q E s :=
 og I hN hi hx r (λs' I' _=>h s' I') hf
theorem Inv.call'(I:Inv X pins σ H s)(ho:s'.os=s.os)(u:Un (frs X.stack) ch H H' s.heap s'.heap)(hok:HOk X.prog X.w H' s'.heap)(hg:AllBare s'.gens)
  (hch:∀b∈ch,(b∈X.ex\/X.s₀.heap.objs.size<=b)/\b≠X.env.locals/\(∀x c,X.env.cells.lookup x=some c->c≠b)/\∀p∈X.pn++pins,p.1≠b):Inv X pins σ H' s':=by
 obtain⟨h',g',d',t',o'⟩:=s'
 have e:o'=s.os:=ho
 subst e
 exact I.call (g':=g') (t':=t') (d':=d') u hok hg hch
abbrev XK:=Value->Option Addr->Hp->Prop
noncomputable abbrev St:=List (Option V)
abbrev VK:=V->Hp->Prop
abbrev TE:=St->Hp->VK->Prop
abbrev TT:=St->Hp->(Bool->Hp->Prop)->Prop
abbrev TA:=St->Hp->(List V->Hp->Prop)->Prop
structure Ends where
 nx:St->Hp->Prop
 rt:VK
 bk:St->Hp->Prop:=λ_ _=>False
 ct:St->Hp->Prop:=λ_ _=>False
abbrev TS:=Ends->St->Hp->Prop
inductive EP(X:Cx)(pins:List (Addr×Obj))(σ:St)(Q:VK)(u:Value)(s':Shared):Prop
 | mk (v:_) (H':_) (f0:Inv X pins σ H' s') (f1:aH v u) (f2:Q v H')
inductive TP(X:Cx)(pins:List (Addr×Obj))(σ:St)(Q:Bool->Hp->Prop)(b:Bool)(s':Shared):Prop
 | mk (H':_) (f0:Inv X pins σ H' s') (f1:Q b H')
inductive AP(X:Cx)(pins:List (Addr×Obj))(σ:St)(Q:List V->Hp->Prop)(us:List Value)(s':Shared):Prop
 | mk (vs:_) (H':_) (f0:Inv X pins σ H' s') (f1:aq vs us) (f2:Q vs H')
def SP(X:Cx)(pins:List (Addr×Obj))(D:Ends)(f:Flow)(s':Shared):Prop :=
 match f with
 | .next=>∃σ' H',Inv X pins σ' H' s'/\D.nx σ' H'
 | .brk=>∃σ' H',Inv X pins σ' H' s'/\D.bk σ' H'
 | .cont=>∃σ' H',Inv X pins σ' H' s'/\D.ct σ' H'
 | .ret u=>∃v σ' H',Inv X pins σ' H' s'/\aH v u/\D.rt v H'
def PE(X:Cx)(e:Expr)(t:TE):Prop :=
 ∀(pins:List (Addr×Obj)) (s:Shared) (σ:St) (H:Hp) (Q:VK),Inv X pins σ H s->t σ H Q->wpAny (model X.prog X.w) X.A (eval e X.env) (EP X pins σ Q) X.xe s
def PT(X:Cx)(e:Expr)(t:TT):Prop :=
 ∀(pins:List (Addr×Obj)) (s:Shared) (σ:St) (H:Hp) (Q:Bool->Hp->Prop),Inv X pins σ H s->t σ H Q->wpAny (model X.prog X.w) X.A (isTrue e X.env (eval e X.env)) (TP X pins σ Q) X.xe s
def PW(X:Cx)(e:Expr)(t:TT):Prop :=
 ∀(whole:Sem Value) (pins:List (Addr×Obj)) (s:Shared) (σ:St) (H:Hp) (Q:Bool->Hp->Prop),Inv X pins σ H s->t σ H Q->wpAny (model X.prog X.w) X.A (isTrue e X.env whole) (TP X pins σ Q) X.xe s
theorem PW.pt(h:PW X e t):PT X e t:=h _
def PA(X:Cx)(es:List Expr)(t:TA):Prop :=
 ∀(pos:Pos) (pins:List (Addr×Obj)) (s:Shared) (σ:St) (H:Hp) (Q:List V->Hp->Prop),Inv X pins σ H s->t σ H Q->wpAny (model X.prog X.w) X.A (spliced (backTo pos (starEach es X.env))) (AP X pins σ Q) X.xe s
def PS(X:Cx)(st:Stmt)(t:TS):Prop :=
 ∀(pins:List (Addr×Obj)) (s:Shared) (σ:St) (H:Hp) (D:Ends),Inv X pins σ H s->t D σ H->wpAny (model X.prog X.w) X.A (exec st X.env) (SP X pins D) X.xe s
def PSs(X:Cx)(st:List Stmt)(t:TS):Prop :=
 ∀(pins:List (Addr×Obj)) (s:Shared) (σ:St) (H:Hp) (D:Ends),Inv X pins σ H s->t D σ H->wpAny (model X.prog X.w) X.A (execs st X.env) (SP X pins D) X.xe s
theorem thn{α:Type}{t:Sem α}{Q Q':α->Shared->Prop}{M:Model}{A:Around}{E:Value->Shared->Prop}{s:Shared}(h:wpAny M A t Q E s)(hQ:∀a s,Q a s->Q' a s):wpAny M A t Q' E s:=AAo h hQ λ_ _ x=>x
section
variable{X:Cx}
def tVar(i:Nat):TE:=λσ H Q=>∃v,σ[i]?=some (some v)/\Q v H
def tC(v:V):TE:=λ_ H Q=>Q v H
theorem xj(hN:X.N[i]?=some x)(hv:Vis X.env.scope x)(hd:(x==("__debug__":Str))=false:=by decide)(hcd:(x==("__classdict__":Str))=false:=by decide):PE X (.Name x pos) (tVar i):=by
 intro pins s σ H Q I h
 obtain⟨v,e,h⟩:=h
 obtain⟨m,hn,hl⟩:=I.loc
 obtain⟨u,r,l⟩:=hl i x v hN e hv
 have fin:EP X pins σ Q u s:=⟨v,H,I,r,h⟩
 rcases l with⟨hk,hm⟩|⟨hk,c,hc,hcell⟩
 ·exact wpAny_Name (wpAny_loadName_local I.ok.kind hk hn hm fin) hd
 ·rcases hk with hk | hk
  ·exact wpAny_Name (wpAny_loadName_cell I.ok.kind hk hc hcell fin) hd
  ·exact wpAny_Name (wpAny_loadName_free I.ok.kind hk hc hcell fin hcd) hd
theorem xr{i j pos}:PE X (.Constant (.int i) j pos) (tC (.int i)):=λ_ _ _ H _ I h=>wpAny_Constant_int ⟨.int i,H,I.tok _,⟨_,rfl⟩,h⟩
theorem pe_bl{b j pos}:PE X (.Constant (.bool b) j pos) (tC (.bl b)):=λ_ _ _ H _ I h=>Constant_bool ⟨.bl b,H,I,rfl,h⟩
theorem xp{j pos}:PE X (.Constant .none j pos) (tC .non):=λ_ _ _ H _ I h=>Constant_none ⟨.non,H,I,rfl,h⟩
theorem xm{x j pos}:PE X (.Constant (.str x) j pos) (tC (.str x)):=λ_ _ _ H _ I h=>Calls.Constant_str ⟨.str x,H,I.tok _,⟨_,rfl⟩,h⟩
def Gl(X:Cx)(x:Str):Prop:=X.env.kindOf x=some .globalImplicit
theorem dP(I:Inv X pins σ H s)(hg:Gl X x)(hm:X.mg x=some u)(h:Q u s)
  (hd:(x==("__debug__":Str))=false:=by decide):wpAny (model X.prog X.w) X.A (eval (.Name x pos) X.env) Q E s :=
 Calls.Name_function_global I.ok.kind hg (Calls.loadGlobal_global (by rw[I.ok.glob];exact I.mod.glob.keeps I.bk) hm h) hd
theorem gI(I:Inv X pins σ H s)(hg:Gl X x)(hm:X.mg x=none)(hv:bootBuiltins x=some u)(h:Q u s)
  (hn:x≠"__name__":=by decide) (hd:(x==("__debug__":Str))=false:=by decide):wpAny (model X.prog X.w) X.A (eval (.Name x pos) X.env) Q E s:=by
 obtain⟨mb,h1,h2⟩:=I.mod.blt
 exact Calls.Name_function_global I.ok.kind hg (Calls.loadGlobal_builtin (by rw[I.ok.glob];exact I.mod.glob.keeps I.bk) hm (by rw[I.ok.blt];exact h1.keeps I.bk) ((h2 x hn).trans hv) h) hd
theorem oB(hg:Gl X x)(hm:X.mg x=some u)(r:aH v u)(hd:(x==("__debug__":Str))=false:=by decide):PE X (.Name x pos) (tC v) :=
 λ_ _ _ H _ I h=>dP I hg hm ⟨v,H,I,r,h⟩ hd
theorem oF(hg:Gl X x)(hm:X.mg x=none)(hv:bootBuiltins x=some u)(r:aH v u)(hn:x≠"__name__":=by decide)(hd:(x==("__debug__":Str))=false:=by decide):PE X (.Name x pos) (tC v) :=
 λ_ _ _ H _ I h=>gI I hg hm hv ⟨v,H,I,r,h⟩ hn hd
variable{a b:Expr}{ta tb:TE}{pos:Pos}
theorem aH.none_iff(r:aH x v):(v==AB0)=decide (x=.non):=by
 cases x with
 | non=>cases r;rfl
 | bl _=>cases r;rfl
 | int _=>obtain⟨t,rfl⟩:=r;rfl
 | str _=>obtain⟨t,rfl⟩:=r;rfl
 | byt _=>obtain⟨t,rfl⟩:=r;rfl
 | flt _=>obtain⟨t,rfl⟩:=r;rfl
 | ref _=>cases r;rfl
 | ty _=>cases r;rfl
def tB(t:TE):TT:=λσ H Q=>t σ H λx H1=>∃c,x=.bl c/\Q c H1
theorem wZ(h:PE X e t)(he:∀whole,isTrue e X.env whole=(do let v <-whole;standAt e.pos;holding [v] (truthy v)):=by intro _;rfl):PT X e (tB t):=by
 intro pins s σ H Q I hw
 refine isTrue_plain (thn (h pins s σ H _ I hw) ?_) (he _)
 rintro v s1 ⟨x,H1,I1,r1,q1⟩
 obtain⟨d,rfl,q⟩:=q1
 cases r1
 exact ABO ⟨H1,I1,q⟩
variable{tA tB':TT}{az:List Expr}
def tAnd(t u:TT):TT:=λσ H Q=>t σ H λc H1=>if c=true then u σ H1 Q else Q false H1
def tOr(t u:TT):TT:=λσ H Q=>t σ H λc H1=>if c=true then Q true H1 else u σ H1 Q
def tNot(t:TT):TT:=λσ H Q=>t σ H λc H1=>Q (!c) H1
theorem um(ha:PT X a tA):PW X (.BoolOp .And [a] pos) tA:=by
 intro wh pins s σ H Q I h
 refine isTrue_and (thn (ha pins s σ H Q I h) λc s1 e=>?_)
 cases c with
 | true=>exact isTrue_and_nil e
 | false=>exact e
theorem wX(ha:PT X a tA):PW X (.BoolOp .Or [a] pos) tA:=by
 intro wh pins s σ H Q I h
 refine isTrue_or (thn (ha pins s σ H Q I h) λc s1 e=>?_)
 cases c with
 | false=>exact isTrue_or_nil e
 | true=>exact e
theorem wY(ha:PT X a tA)(hb:PW X (.BoolOp .And (b::az) pos) tB'):PW X (.BoolOp .And (a::b::az) pos) (tAnd tA tB'):=by
 intro wh pins s σ H Q I h
 refine isTrue_and (thn (ha pins s σ H _ I h) ?_)
 rintro c s1 ⟨H1,I1,q1⟩
 cases c with
 | true=>exact hb wh pins s1 σ H1 Q I1 q1
 | false=>exact⟨H1,I1,q1⟩
theorem pw_or(ha:PT X a tA)(hb:PW X (.BoolOp .Or (b::az) pos) tB'):PW X (.BoolOp .Or (a::b::az) pos) (tOr tA tB'):=by
 intro wh pins s σ H Q I h
 refine isTrue_or (thn (ha pins s σ H _ I h) ?_)
 rintro c s1 ⟨H1,I1,q1⟩
 cases c with
 | true=>exact⟨H1,I1,q1⟩
 | false=>exact hb wh pins s1 σ H1 Q I1 q1
theorem xa(ha:PT X a tA):PT X (.UnaryOp .Not a pos) (tNot tA):=by
 intro pins s σ H Q I h
 refine isTrue_not (thn (ha pins s σ H (λc H1=>Q (!c) H1) I h) ?_)
 rintro c s1 ⟨H1,I1,q1⟩
 exact⟨H1,I1,q1⟩
def tAndV(ta tb:TE):TE:=λσ H Q=>ta σ H λx H1=>∃c,x=.bl c/\if c=true then tb σ H1 Q else Q (.bl false) H1
def tOrV(ta tb:TE):TE:=λσ H Q=>ta σ H λx H1=>∃c,x=.bl c/\if c=true then Q (.bl true) H1 else tb σ H1 Q
def tNotV(ta:TE):TE:=λσ H Q=>ta σ H λx H1=>∃c,x=.bl c/\Q (.bl (!c)) H1
theorem xn{op}(h:PE X a t):PE X (.BoolOp op [a] pos) t:=λpins s σ H Q I hw=>BoolOp_one (h pins s σ H Q I hw)
theorem xu(ha:PE X a ta)(hb:PE X (.BoolOp .And (b::az) pos) tb):PE X (.BoolOp .And (a::b::az) pos) (tAndV ta tb):=by
 intro pins s σ H Q I h
 refine BoolOp_and (thn (ha pins s σ H _ I h) ?_)
 rintro v s1 ⟨x,H1,I1,r1,q1⟩
 obtain⟨c,rfl,q1⟩:=q1
 cases r1
 refine ABO ?_
 cases c with
 | true=>exact hb pins s1 σ H1 Q I1 q1
 | false=>exact⟨.bl false,H1,I1,rfl,q1⟩
theorem pe_or(ha:PE X a ta)(hb:PE X (.BoolOp .Or (b::az) pos) tb):PE X (.BoolOp .Or (a::b::az) pos) (tOrV ta tb):=by
 intro pins s σ H Q I h
 refine BoolOp_or (thn (ha pins s σ H _ I h) ?_)
 rintro v s1 ⟨x,H1,I1,r1,q1⟩
 obtain⟨c,rfl,q1⟩:=q1
 cases r1
 refine ABO ?_
 cases c with
 | false=>exact hb pins s1 σ H1 Q I1 q1
 | true=>exact⟨.bl true,H1,I1,rfl,q1⟩
theorem xo(ha:PE X a ta):PE X (.UnaryOp .Not a pos) (tNotV ta):=by
 intro pins s σ H Q I h
 refine UnaryOp_ (thn (ha pins s σ H _ I h) ?_)
 rintro v s1 ⟨x,H1,I1,r1,q1⟩
 obtain⟨c,rfl,q1⟩:=q1
 cases r1
 exact not_of (ABO ⟨.bl (!c),H1,I1,rfl,q1⟩)
end
def SqL(K:AA)(H:Hp)(a:Addr)(xs:List V):Prop :=
 Rd H a (.lst xs) \/
  ∃(o:Obj) (its:Array Value) (n:Nat),K.lookup a=some o/\o.cls=.type "list"/\o.dict=none/\o.data=.seq its n/\its.size<=sizeLine/\aq xs its.toList
def SqT(K:AA)(H:Hp)(a:Addr)(xs:List V):Prop :=
 Rd H a (.tup xs) \/
  ∃(o:Obj) (its:Array Value) (n:Nat),K.lookup a=some o/\o.cls=.type "tuple"/\o.dict=none/\o.data=.seq its n/\its.size<=sizeLine/\aq xs its.toList
noncomputable def absV:Value->Option V
 | .none=>some .non
 | .bool b=>some (.bl b)
 | .int i _=>some (.int i)
 | .str x _=>some (.str x)
 | .bytes b _=>some (.byt b)
 | .float b _=>some (.flt b)
 | .ref a=>some (.ref a)
 | .type n=>some (.ty n)
 | _=>none
theorem aH.abs(r:aH x u):absV u=some x:=by
 cases x with
 | non=>cases r;rfl
 | bl _=>cases r;rfl
 | int _=>obtain⟨t,rfl⟩:=r;rfl
 | str _=>obtain⟨t,rfl⟩:=r;rfl
 | byt _=>obtain⟨t,rfl⟩:=r;rfl
 | flt _=>obtain⟨t,rfl⟩:=r;rfl
 | ref _=>cases r;rfl
 | ty _=>cases r;rfl
theorem aH.inj(r:aH x u)(q:aH y u):x=y:=AAN (r.abs.symm.trans q.abs)
theorem aq.inj(h:aq xs us)(h':aq ys us):xs=ys:=by
 induction h generalizing ys with
 | nil=>cases h';rfl
 | cons r t ih=>cases h' with
  | cons r' t'=>rw[r.inj r',ih t']
theorem SqT.of{K:AA}(h:H a=some (.tup xs)):SqT K H a xs:=.inl (.inl h)
theorem Inv.list(I:Inv X pins σ H s)(h:SqL X.K H a xs):∃its:List Value,aq xs its/\PlainL s.heap a its.toArray/\xs.length<=sizeLine:=by
 rcases h with h | ⟨o,its,n,hk,hc,hd,hs,hz,r⟩
 ·obtain⟨z,its,n,r,e⟩:=h.ok I.hok
  exact⟨its,r,⟨_,n,e,rfl,rfl,rfl⟩,z⟩
 ·refine⟨its.toList,r,⟨o,n,I.kIn a o hk,hc,hd,by simpa using hs⟩,?_⟩
  have e:=r.length
  simp only[AC9]at e
  lia
theorem Inv.tuple(I:Inv X pins σ H s)(h:SqT X.K H a xs):∃its:List Value,aq xs its/\IsTup s.heap a its.toArray/\xs.length<=sizeLine:=by
 rcases h with h | ⟨o,its,n,hk,hc,_,hs,hz,r⟩
 ·obtain⟨z,its,r,p⟩:=h.ok I.hok
  exact⟨its,r,p.tup,z⟩
 ·refine⟨its.toList,r,⟨o,I.kIn a o hk,hc,n,by simpa using hs⟩,?_⟩
  have e:=r.length
  simp only[AC9]at e
  lia
theorem Inv.list_inj(I:Inv X pins σ H s)(h:SqL X.K H a xs)(h':SqL X.K H a ys):xs=ys:=by
 obtain⟨its,r,⟨o,n,e,_,_,d⟩,_⟩:=I.list h
 obtain⟨its',r',⟨o',n',e',_,_,d'⟩,_⟩:=I.list h'
 rw[e]at e';cases e'
 rw[d]at d'
 injection d' with d1 _
 have:its=its':=by simpa using congrArg Array.toList d1
 subst this
 exact r.inj r'
theorem Inv.tuple_inj(I:Inv X pins σ H s)(h:SqT X.K H a xs)(h':SqT X.K H a ys):xs=ys:=by
 obtain⟨its,r,⟨o,e,_,n,d⟩,_⟩:=I.tuple h
 obtain⟨its',r',⟨o',e',_,n',d'⟩,_⟩:=I.tuple h'
 rw[e]at e';cases e'
 rw[d]at d'
 injection d' with d1 _
 have:its=its':=by simpa using congrArg Array.toList d1
 subst this
 exact r.inj r'
noncomputable abbrev Cx.wish(X:Cx)(E:Value->Shared->Prop):Cx:={ X with xe:=E }
noncomputable abbrev Cx.nox(X:Cx):Cx:=X.wish λ_ _=>False
theorem Cx.Ok.wish{X:Cx}(ok:X.Ok)(E:Value->Shared->Prop):(X.wish E).Ok :=
 ⟨ok.mod,ok.kind,ok.glob,ok.blt,ok.above,ok.inj,ok.has,ok.cab,ok.hd,ok.frames,ok.stk,ok.exf,ok.bs,ok.bsz,ok.noex,ok.exfs,ok.funs,ok.frf⟩
theorem Cx.Ok.unwish{X:Cx}{E:Value->Shared->Prop}(ok:(X.wish E).Ok):X.Ok :=
 ⟨ok.mod,ok.kind,ok.glob,ok.blt,ok.above,ok.inj,ok.has,ok.cab,ok.hd,ok.frames,ok.stk,ok.exf,ok.bs,ok.bsz,ok.noex,ok.exfs,ok.funs,ok.frf⟩
theorem Inv.wish(I:Inv X pins σ H s)(E:Value->Shared->Prop):Inv (X.wish E) pins σ H s:=⟨I.ok.wish E,I.os,I.bare,I.base,I.loc,I.cell,I.free,I.freeC,I.pin,I.hok,I.len⟩
theorem Inv.unwish(I:Inv (X.wish E) pins σ H s):Inv X pins σ H s:=⟨I.ok.unwish,I.os,I.bare,I.base,I.loc,I.cell,I.free,I.freeC,I.pin,I.hok,I.len⟩
theorem SP.unwish(h:SP (X.wish E) pins D f s'):SP X pins D f s':=by
 cases f with
 | next=>obtain⟨σ',H',I,q⟩:=h;exact⟨σ',H',I.unwish,q⟩
 | brk=>obtain⟨σ',H',I,q⟩:=h;exact⟨σ',H',I.unwish,q⟩
 | cont=>obtain⟨σ',H',I,q⟩:=h;exact⟨σ',H',I.unwish,q⟩
 | ret u=>obtain⟨v,σ',H',I,r,q⟩:=h;exact⟨v,σ',H',I.unwish,r,q⟩
theorem PSs.nox{st:List Stmt}{t:TS}(h:PSs X.nox st t):PSs X st t:=λpins s σ H D I hw =>
 AAo (h pins s σ H D (I.wish _) hw) (λ_ _ q=>q.unwish) λ_ _ z=>AAp z
def tNext:TS:=λD σ H=>D.nx σ H
def tSeq(t u:TS):TS:=λD σ H=>t { D with nx:=u D } σ H
theorem uv:PSs X [] tNext:=λ_ _ σ H _ I h=>ABf ⟨σ,H,I,h⟩
theorem qZ{X:Cx}{st:Stmt}{az:List Stmt}{t u:TS}(h1:PS X st t)(h2:PSs X az u):PSs X (st::az) (tSeq t u):=by
 intro pins s σ H D I h
 refine ACa (thn (h1 pins s σ H { D with nx:=u D } I h) λf s1 q=>?_)
 cases f with
 | next =>
  obtain⟨σ',H',I',q⟩:=q
  exact h2 pins s1 σ' H' D I' q
 | ret v=>exact q
 | brk=>exact q
 | cont=>exact q
theorem uu{X:Cx}{st:Stmt}{t:TS}(h1:PS X st t):PSs X [st] t:=by
 intro pins s σ H D I h
 refine ACa (thn (h1 pins s σ H D I h) λf s1 q=>?_)
 cases f with
 | next=>exact ABf q
 | ret v=>exact q
 | brk=>exact q
 | cont=>exact q
theorem Inv.quiet(I:Inv X pins σ H s):interactive X.env=false:=by simp[interactive,I.ok.kind]
def tDrop(te:TE):TS:=λD σ H=>te σ H λ_ H1=>D.nx σ H1
theorem uw(he:PE X e te)(hs:swapsWith e none pos.line X.env=pure false:=by rfl):PS X (.Expr e pos) (tDrop te):=by
 intro pins s σ H D I h
 exact wpAny_Expr_any (thn (he pins s σ H _ I h) λv s1 ⟨x,H1,I1,r1,q1⟩=>⟨σ,H1,I1,q1⟩) I.quiet hs
def tRet(te:TE):TS:=λD σ H=>te σ H D.rt
theorem xc(he:PE X e te):PS X (.Return (some e) pos) (tRet te):=by
 intro pins s σ H D I h
 refine wpAny_Return_some (thn (he pins s σ H _ I h) ?_)
 rintro v s1 ⟨x,H1,I1,r1,q1⟩
 exact⟨x,σ,H1,I1,r1,q1⟩
def tIfS(c:TT)(t u:TS):TS:=λD σ H=>c σ H λb H1=>if b=true then t D σ H1 else u D σ H1
theorem ps_if(hc:PT X c tc)(ha:PSs X a t)(hb:PSs X b u):PS X (.If c a b pos) (tIfS tc t u):=by
 intro pins s σ H D I h
 refine wpAny_If (thn (hc pins s σ H _ I h) ?_)
 rintro d s1 ⟨H1,I1,q1⟩
 cases d with
 | true=>exact ha pins s1 σ H1 D I1 q1
 | false=>exact hb pins s1 σ H1 D I1 q1
abbrev TG:=V->St->Hp->(St->Hp->Prop)->Prop
abbrev TGs:=List V->St->Hp->(St->Hp->Prop)->Prop
def PG(X:Cx)(target:Expr)(t:TG):Prop :=
 ∀(pins:List (Addr×Obj)) (s:Shared) (σ:St) (H:Hp) (v:V) (u:Value) (Q:St->Hp->Prop),Inv X pins σ H s->aH v u->t v σ H Q ->
  wpAny (model X.prog X.w) X.A (assign target X.env u) (λ_ s'=>∃σ' H',Inv X pins σ' H' s'/\Q σ' H') X.xe s
def PGs(X:Cx)(ts:List Expr)(t:TGs):Prop :=
 ∀(pins:List (Addr×Obj)) (s:Shared) (σ:St) (H:Hp) (vs:List V) (us:List Value) (Q:St->Hp->Prop),Inv X pins σ H s->aq vs us->t vs σ H Q ->
  wpAny (model X.prog X.w) X.A (assignInOrder ((assignEach ts X.env).map (·.2)) us) (λ_ s'=>∃σ' H',Inv X pins σ' H' s'/\Q σ' H') X.xe s
abbrev TSet:=V->V->V->Hp->(Hp->Prop)->Prop
def PSet(X:Cx)(t:TSet):Prop :=
 ∀(pins:List (Addr×Obj)) (s:Shared) (σ:St) (H:Hp) (o i v:V) (ov iv u:Value) (Q:Hp->Prop),Inv X pins σ H s->aH o ov->aH i iv->aH v u->t o i v H Q ->
  wpAny (model X.prog X.w) X.A (setItem ov iv u) (λ_ s'=>∃H',Inv X pins σ H' s'/\Q H') X.xe s
def yy(i:Nat):TG:=λv σ H Q=>Q (σ.set i (some v)) H
theorem uB(hN:X.N.Nodup)(hi:X.N[i]?=some x)(hx:Loc X.env.scope x)(hf:X.fn x=true\/X.env.scope.names.lookup x=some .local:=by first | exact .inl rfl | exact .inr rfl | assumption):PG X (.Name x pos) (yy i):=by
 intro pins s σ H v u Q I r h
 exact wpAny_assign_Name (dq I hN hi hx r (λs' I'=>⟨_,H,I',h⟩) hf)
def gNil:TGs:=λvs σ H Q=>vs=[]/\Q σ H
def gCons(t:TG)(u:TGs):TGs:=λvs σ H Q=>∃v r,vs=v::r/\t v σ H λσ' H'=>u r σ' H' Q
theorem uA:PGs X [] gNil:=by
 intro pins s σ H vs us Q I r h
 obtain⟨e,h⟩:=h
 subst e
 cases r
 exact assignInOrder_nil ⟨σ,H,I,h⟩
theorem rm(h1:PG X e t)(h2:PGs X es u)
  (hs:(assignEach (e::es) X.env).map (·.2)=assign e X.env::(assignEach es X.env).map (·.2):=by rfl):PGs X (e::es) (gCons t u):=by
 intro pins s σ H vs us Q I r h
 obtain⟨v,vr,e1,h⟩:=h
 subst e1
 cases r with
 | cons r rr =>
  rw[hs]
  refine assignInOrder_cons (thn (h1 pins s σ H _ _ _ I r h) ?_)
  rintro _ s1 ⟨σ1,H1,I1,q1⟩
  exact h2 pins s1 σ1 H1 _ _ Q I1 rr q1
def gTup(K:AA)(n:Nat)(t:TGs):TG:=λv σ H Q=>∃a xs,v=.ref a/\SqT K H a xs/\xs.length=n/\t xs σ H Q
theorem xh(hc:X.calm=true)(h:PGs X es t)
  (hn:(assignEach es X.env).length=n:=by rfl) (hst:(assignEach es X.env).findIdx? (·.1)=none:=by rfl):PG X (.Tuple es k pos) (gTup X.K n t):=by
 intro pins s σ H v u Q I r hw
 obtain⟨a,xs,e1,hq,hl,hw⟩:=hw
 subst e1
 cases r
 obtain⟨its,rv,ht,hz⟩:=I.tuple hq
 refine assign_Tuple_tuple (I.ok.hd hc) ht (by simp[hn,<-hl,rv.length]) hst λh' hx=>?_
 have I1:Inv X pins σ H { s with heap:=h' }:=I.kept (t':=s.toks) λb o e=>hx b o (AAK (AAB e)) e
 exact h pins _ σ H xs _ Q I1 (by simpa using rv) hw
def gSub(to ti:TE)(t:TSet):TG:=λv σ H Q=>to σ H λo H1=>ti σ H1 λi H2=>t o i v H2 λH3=>Q σ H3
theorem xi(ho:PE X o to)(hi:PE X i ti)(hs:PSet X t)
  (ha:∀v,assign (.Subscript o i pos) X.env v=(do
   let ov <-holding [v] (eval o X.env)
   let iv <-holding [v,ov] (eval i X.env)
   standAt pos
   holding [v,ov,iv] (setItem ov iv v)
   release [v,ov,iv] []):=by intro _;rfl):PG X (.Subscript o i pos) (gSub to ti t):=by
 intro pins s σ H v u Q I r h
 rw[ha]
 refine AA0 (ABE (thn (ho pins s σ H _ I h) ?_))
 rintro ov s1 ⟨x,H1,I1,r1,q1⟩
 refine AA0 (ABE (thn (hi pins s1 σ H1 _ I1 q1) ?_))
 rintro iv s2 ⟨y,H2,I2,r2,q2⟩
 refine AA0 (wpAny_standAt (AA0 (ABE (thn (hs pins s2 σ H2 x y v ov iv u _ I2 r1 r2 r q2) ?_))))
 rintro _ s3 ⟨H3,I3,q3⟩
 exact wpAny_release ⟨σ,H3,I3,q3⟩
def tAsg(te:TE)(g:TG):TS:=λD σ H=>te σ H λx H1=>g x σ H1 D.nx
theorem xg(he:PE X e te)(hg:PG X tg g)(hs:swapsWithSole [tg] e pos.line X.env=pure false:=by rfl)(hw:swappedStores [tg] e X.env=pure none:=by rfl)
  (h1:(assignEach [tg] X.env).map (·.2)=[assign tg X.env]:=by rfl):PS X (.Assign [tg] e pos) (tAsg te g):=by
 intro pins s σ H D I h
 refine wpAny_Assign_stores (thn (he pins s σ H _ I h) ?_) hs hw
 rintro v s1 ⟨x,H1,I1,r1,q1⟩
 rw[h1]
 exact thn (hg pins s1 σ H1 x v _ I1 r1 q1) λ_ s2 q=>q
theorem xb(hN:X.N.Nodup)(hi:X.N[i]?=some x)(hx:Loc X.env.scope x)(he:PE X e te)(hs:swapsWith e (some (.Name x pos')) pos.line X.env=pure false:=by rfl)(hf:X.fn x=true\/X.env.scope.names.lookup x=some .local:=by first | exact .inl rfl | exact .inr rfl | assumption) :
  PS X (.Assign [.Name x pos'] e pos) (tAsg te (yy i)):=by
 intro pins s σ H D I h
 refine wpAny_Assign_Name (thn (he pins s σ H _ I h) ?_) hs
 rintro v s1 ⟨y,H1,I1,r1,q1⟩
 exact dq I1 hN hi hx r1 (λs2 I2=>⟨_,H1,I2,q1⟩) hf
def sY(c:TT)(tb:TS):TS:=λD σ H=>∃W:Nat->St->Hp->Prop,(∃m,W m σ H)/\∀m σ H,W m σ H ->
 c σ H λb H1=>if b=true then ∃N:St->Hp->Prop,(∀σ' H',N σ' H'->∃m',m' < m/\W m' σ' H')/\tb { D with nx:=N,ct:=N,bk:=D.nx } σ H1 else D.nx σ H1
theorem rh(hp:PassesOwn (model X.prog X.w) X.A X.env X.xe)(hc:PT X c tc)(hb:PSs X body tb):PS X (.While c body [] pos) (sY tc tb):=by
 intro pins s σ H D I h
 obtain⟨W,⟨m0,w0⟩,turn⟩:=h
 refine wpAny_While (codeAny_whileLoop (λn s'=>∃σ' H',Inv X pins σ' H' s'/\W n σ' H') ?_ m0 ⟨σ,H,I,w0⟩)
 rintro n s1 ⟨σ1,H1,I1,w1⟩
 refine ABg hp (thn (hc pins s1 σ1 H1 _ I1 (turn n σ1 H1 w1)) ?_)
 rintro b s2 ⟨H2,I2,q2⟩
 cases b with
 | true =>
  obtain⟨N,hN,q2⟩:=q2
  rw[if_pos rfl]
  refine ABg hp (thn (hb pins s2 σ1 H2 _ I2 q2) λf s3 q3=>?_)
  cases f with
  | next =>
   obtain⟨σ3,H3,I3,n3⟩:=q3
   obtain⟨m',hm,w3⟩:=hN σ3 H3 n3
   exact⟨m',hm,σ3,H3,I3,w3⟩
  | cont =>
   obtain⟨σ3,H3,I3,n3⟩:=q3
   obtain⟨m',hm,w3⟩:=hN σ3 H3 n3
   exact⟨m',hm,σ3,H3,I3,w3⟩
  | brk=>exact q3
  | ret v=>exact q3
 | false =>
  rw[if_neg ABp]
  exact ABf ⟨σ1,H2,I2,q2⟩
structure It where
 go:Nat->Hp->Prop
 yld:Nat->Hp->V->Hp->Prop
 stop:Nat->Hp->Prop
def iO(X:Cx)(pins:List (Addr×Obj))(H:Hp)(b:Addr):Prop :=
 H b=none/\b≠X.env.locals/\b∉X.fs/\(b∈X.ex\/X.s₀.heap.objs.size<=b)/\(∀x c,X.env.cells.lookup x=some c->c≠b)/\∀p∈X.pn++pins,p.1≠b
theorem Inv.fpOk(I:Inv X pins σ H s)(hb:s.heap.objs.size<=b)(hn:H' b=none):iO X pins H' b:=by
 refine⟨hn,Nat.ne_of_gt (AAF I.lt hb),I.nofs hb,.inr (AAn I.sz hb),λx c e z=>?_,λp hp z=>?_⟩
 ·obtain⟨v,q⟩:=I.cell x c e
  exact absurd (AAF q.lt (by rw[z];exact hb)) (AAh _)
 ·exact absurd (AAF (AAB (I.pin p hp).1) (by rw[z];exact hb)) (AAh _)
structure Turn(P:Program)(w:World)(K:AA)(tg:Expr)(J:It)(fp:List Addr)(it:Addr)(tn:Nat->Heap->Prop):Prop where
 mem:it∈fp
 obj:∀i h,tn i h->∀b∈fp,∃o,h.get? b=some o/\∀v,o.data≠.cell v
 keep:∀i h h',tn i h->(∀b∈fp,∀o,h.get? b=some o->h'.get? b=some o)->tn i h'
 item:∀(X:Cx),X.prog=P->X.w=w->X.K=K->X.calm=true->∀(i:Nat) (pins:List (Addr×Obj)) (s:Shared) (σ:St) (H:Hp) (E:Value->Shared->Prop),Inv X pins σ H s->(∀b∈fp,iO X pins H b)->tn i s.heap->J.go i H ->
  wpAny (model P w) X.A (pyNext (.ref it)) (λr s1=>∃u,r=some u /\
   wpAny (model P w) X.A (letOwnedTupleGo tg (.ref it) u) (λ_ s2=>∃x H',Inv X pins σ H' s2/\aH x u/\J.yld i H x H'/\tn (i+1) s2.heap/\∀b∈fp,H' b=none) E s1) E s
 done:∀(X:Cx),X.prog=P->X.w=w->X.K=K->X.calm=true->∀(i:Nat) (pins:List (Addr×Obj)) (s:Shared) (σ:St) (H:Hp) (E:Value->Shared->Prop),Inv X pins σ H s->(∀b∈fp,iO X pins H b)->tn i s.heap->J.stop i H ->
  wpAny (model P w) X.A (pyNext (.ref it)) (λr s1=>r=none/\Inv X pins σ H s1) E s
 self:∀(A:Around) (i:Nat) (s:Shared) (Q:Value->Shared->Prop) (E:Value->Shared->Prop),tn i s.heap->Q (.ref it) s->wpAny (model P w) A (pyIter (.ref it)) Q E s
abbrev TI:=St->Hp->(It->Hp->Prop)->Prop
inductive PIE(X:Cx)(pins:List (Addr×Obj))(σ:St)(tg:Expr)(R:It->Hp->Prop)(itv:Value)(s2:Shared):Prop
 | mk (it:Addr) (fp:List Addr) (tn:Nat->Heap->Prop) (J:It) (H':Hp) (f0:itv=.ref it) (f1:Inv X pins σ H' s2) (f2:Turn X.prog X.w X.K tg J fp it tn) (f3:tn 0 s2.heap) (f4:(∀b∈fp,iO X pins H' b)) (f5:R J H')
def PI(X:Cx)(tg iter:Expr)(wi:TI):Prop :=
 ∀(pins:List (Addr×Obj)) (s:Shared) (σ:St) (H:Hp) (R:It->Hp->Prop),Inv X pins σ H s->wi σ H R ->
  wpAny (model X.prog X.w) X.A (eval iter X.env) (λv s1=>wpAny (model X.prog X.w) X.A (pyIter v) (PIE X pins σ tg R) X.xe s1) X.xe s
theorem pO(ho:s.heap.get? it=some o)(hc:o.cls=.type n)(hd:o.data=.fields vs)
  (hn:["enumerate","zip","dict_itemiterator","dict_reverseitemiterator","odict_iterator","itertools.zip_longest","itertools.pairwise"].contains n=false) (hQ:Q () s):wpAny M A (letOwnedTupleGo tg (.ref it) u) Q E s:=by
 unfold letOwnedTupleGo
 cases tg<;>first
  | exact AAD hQ
  | (cases u<;>first
    | exact AAD hQ
    | (refine AA0 (wpAny_load ho ?_);rw[hc,hd];show wpAny M A (if (["enumerate","zip","dict_itemiterator","dict_reverseitemiterator","odict_iterator","itertools.zip_longest","itertools.pairwise"].contains n&&vs[0]?==some (rawInt _))=true then _ else _) Q E s;rw[if_neg (by intro h;rw[hn,Bool.false_and]at h;cases h)];exact AAD hQ))
noncomputable def Itl(K:AA)(a:Addr):It :=
 ⟨λi H=>∃xs x,SqL K H a xs/\xs[i]?=some x,λi H x H'=>H'=H/\∀xs,SqL K H a xs->xs[i]?=some x,λi H=>∃xs,SqL K H a xs/\xs.length<=i⟩
noncomputable def Itt(K:AA)(a:Addr):It :=
 ⟨λi H=>∃xs x,SqT K H a xs/\xs[i]?=some x,λi H x H'=>H'=H/\∀xs,SqT K H a xs->xs[i]?=some x,λi H=>∃xs,SqT K H a xs/\xs.length<=i⟩
noncomputable def Itr(lo:Int)(n:Nat):It:=⟨λi _=>i<n,λi H x H'=>H'=H/\x=.int (lo+i),λi _=>n<=i⟩
theorem nI{P:Program}{w:World}{K:AA}{tg:Expr}(a it:Addr):Turn P w K tg (Itl K a) [it] it (λi h=>h.IsListIter it a i) where
 mem:=by simp
 obj:=λi h st b hb=>by
  have e:b=it:=by simpa using hb
  subst e
  obtain⟨o,e,c,d⟩:=st
  exact⟨o,e,λv z=>by rw[d]at z;cases z⟩
 keep:=λi h h' st k=>st.at λo e=>k it (by simp) o e
 item:=by
  intro X hP hw hK hc i pins s σ H E I hf st hg
  subst hP hw hK
  obtain⟨xs,x,hq,hx⟩:=hg
  obtain⟨its,rv,p,hz⟩:=I.list hq
  obtain⟨u,hu,ru⟩:=rv.get hx
  obtain⟨f0,f1,f2,f3,f4,f5⟩:=hf it (by simp)
  refine wpAny_pyNext_list_item st p.isList (x:=u) (by simpa using hu) λh' st' sb=>?_
  have I1:Inv X pins σ H { s with heap:=h' }:=I.turned (t':=s.toks) (λb o hb e=>(sb.2 b hb).trans e) f0 f1 f3 f4 f5
  obtain⟨o,e,c,d⟩:=id st'
  exact⟨u,rfl,pO (s:={ s with heap:=h' }) e c d (by decide) ⟨x,H,I1,ru,⟨rfl,λys hy=>by rw[I.list_inj hy hq];exact hx⟩,st',λb hb=>(hf b hb).1⟩⟩
 done:=by
  intro X hP hw hK hc i pins s σ H E I hf st hg
  subst hP hw hK
  obtain⟨xs,hq,hx⟩:=hg
  obtain⟨its,rv,p,hz⟩:=I.list hq
  obtain⟨f0,f1,f2,f3,f4,f5⟩:=hf it (by simp)
  have hl:=rv.length
  exact wpAny_pyNext_list_end (I.ok.hd hc) st p.isList (by simp;lia) λh' eb=>⟨rfl,I.turned (t':=s.toks) (λb o hb e=>eb b o hb e) f0 f1 f3 f4 f5⟩
 self:=λ_ _ _ _ _ st h=>wpAny_pyIter_listiter st h
theorem mE{P:Program}{w:World}{K:AA}{tg:Expr}(a it:Addr):Turn P w K tg (Itt K a) [it] it (λi h=>h.IsTupleIter it a i) where
 mem:=by simp
 obj:=λi h st b hb=>by
  have e:b=it:=by simpa using hb
  subst e
  obtain⟨o,e,c,d⟩:=st
  exact⟨o,e,λv z=>by rw[d]at z;cases z⟩
 keep:=λi h h' st k=>st.at λo e=>k it (by simp) o e
 item:=by
  intro X hP hw hK hc i pins s σ H E I hf st hg
  subst hP hw hK
  obtain⟨xs,x,hq,hx⟩:=hg
  obtain⟨its,rv,p,hz⟩:=I.tuple hq
  obtain⟨u,hu,ru⟩:=rv.get hx
  obtain⟨f0,f1,f2,f3,f4,f5⟩:=hf it (by simp)
  refine wpAny_pyNext_tuple_item st (show s.heap.IsTuple a its.toArray from p) (x:=u) (by simpa using hu) λh' st' sb=>?_
  have I1:Inv X pins σ H { s with heap:=h' }:=I.turned (t':=s.toks) (λb o hb e=>(sb.2 b hb).trans e) f0 f1 f3 f4 f5
  obtain⟨o,e,c,d⟩:=id st'
  exact⟨u,rfl,pO (s:={ s with heap:=h' }) e c d (by decide) ⟨x,H,I1,ru,⟨rfl,λys hy=>by rw[I.tuple_inj hy hq];exact hx⟩,st',λb hb=>(hf b hb).1⟩⟩
 done:=by
  intro X hP hw hK hc i pins s σ H E I hf st hg
  subst hP hw hK
  obtain⟨xs,hq,hx⟩:=hg
  obtain⟨its,rv,p,hz⟩:=I.tuple hq
  obtain⟨f0,f1,f2,f3,f4,f5⟩:=hf it (by simp)
  have hl:=rv.length
  exact wpAny_pyNext_tuple_end (I.ok.hd hc) st (show s.heap.IsTuple a its.toArray from p) (by simp;lia) λh' eb=>⟨rfl,I.turned (t':=s.toks) (λb o hb e=>eb b o hb e) f0 f1 f3 f4 f5⟩
 self:=λ_ _ _ _ _ st h=>wpAny_pyIter_tupleiter st h
theorem gn{P:Program}{w:World}{K:AA}{tg:Expr}(it:Addr)(lo:Int)(n:Nat):Turn P w K tg (Itr lo n) [it] it (λi h=>IsRangeIter h it (lo+(i:Nat)*1) ((n:Int)-(i:Nat)) 1) where
 mem:=by simp
 obj:=λi h st b hb=>by
  have e:b=it:=by simpa using hb
  subst e
  exact⟨_,st,λv z=>by
   have z':Data.fields _=Data.cell v:=z
   cases z'⟩
 keep:=λi h h' st k=>k it (by simp) _ st
 item:=by
  intro X hP hw hK hc i pins s σ H E I hf st hg
  subst hP hw hK
  obtain⟨f0,f1,f2,f3,f4,f5⟩:=hf it (by simp)
  have W:=Walks.range (prog:=X.prog) (w:=X.w) (I.ok.hd hc) it lo 1 n
  refine W.item i s _ _ hg st λv h' tk hv st' kk=>?_
  obtain⟨t,rfl⟩:=hv
  have I1:Inv X pins σ H { s with heap:=h',toks:=tk }:=I.turned (λb o hb e=>kk b o (by simpa using hb) e) f0 f1 f3 f4 f5
  refine⟨_,rfl,pO (s:={ s with heap:=h',toks:=tk }) (n:="range_iterator") st' rfl rfl (by decide) ⟨.int (lo+i),H,I1,⟨t,?_⟩,⟨rfl,rfl⟩,st',λb hb=>(hf b hb).1⟩⟩
  rw[Int.mul_one]
 done:=by
  intro X hP hw hK hc i pins s σ H E I hf st hg
  subst hP hw hK
  obtain⟨f0,f1,f2,f3,f4,f5⟩:=hf it (by simp)
  exact wpAny_pyNext_range_end (I.ok.hd hc) st (by have:n<=i:=hg;lia) λh' eb=>⟨rfl,I.turned (t':=s.toks) (λb o hb e=>eb b o hb e) f0 f1 f3 f4 f5⟩
 self:=λ_ _ _ _ _ st h=>wpAny_pyIter_rangeiter st h
theorem qW{pins:List (Addr×Obj)}{σ:St}{H:Hp}{s:Shared}{R:It->Hp->Prop}{E:Value->Shared->Prop}{lo hi:Int}{t u v:Tok}{tk:Nat}(I:Inv X pins σ H s)(h1:-(2 ^ 62)<=lo)(h2:lo<2 ^ 62)(h3:-(2 ^ 62)<=hi)(h4:hi<2 ^ 62)
  (q:R (Itr lo (hi-lo).toNat) H):wpAny (model X.prog X.w) X.A (pyIter (.ref s.heap.objs.size)) (PIE X pins σ tg R) E { s with heap:=s.heap.push { cls:=.type "range",data:=.fields #[.int lo t,.int hi u,.int 1 v] },toks:=tk }:=by
 refine wpAny_pyIter_range (IsRange.new ..) (small_one h1 h2 h3 h4) ?_
 have I1:Inv X pins σ H { s with heap:=s.heap.push { cls:=.type "range",data:=.fields #[.int lo t,.int hi u,.int 1 v] },toks:=tk }:=I.kept λb o e=>AA3 _ e
 refine⟨(s.heap.push { cls:=.type "range",data:=.fields #[.int lo t,.int hi u,.int 1 v] }).objs.size,[(s.heap.push { cls:=.type "range",data:=.fields #[.int lo t,.int hi u,.int 1 v] }).objs.size],_,_,H,rfl,
  I1.kept (t':=tk) λb o e=>AA3 _ e,gn _ lo (hi-lo).toNat,?_,λb hb=>?_,q⟩
 ·have e1:lo+((0:Nat):Int)*1=lo:=by simp
  have e2:(((hi-lo).toNat:Nat):Int)-((0:Nat):Int)=Builtin.Range.rangeSize lo hi 1:=by rw[rangeSize_one];split<;>lia
  show IsRangeIter _ _ (lo+((0:Nat):Int)*1) ((((hi-lo).toNat:Nat):Int)-((0:Nat):Int)) 1
  rw[e1,e2]
  exact AAH _ rfl
 ·have e:b=(s.heap.push { cls:=.type "range",data:=.fields #[.int lo t,.int hi u,.int 1 v] }).objs.size:=by simpa using hb
  subst e
  exact I1.fpOk (AA8 _) (I1.hok.fresh (AA8 _))
def vM(ta:TA):TI:=λσ H R=>ta σ H λvs H1=>∃j:Int,vs=[.int j]/\-(2 ^ 62)<=j/\j<2 ^ 62/\R (Itr 0 j.toNat) H1
theorem oA{a:Expr}{ta:TA}{p pos:Pos}(hg:Gl X "range")(hm:X.mg "range" = none)(ha:PA X [a] ta)(hs:starEach [a] X.env=[(false,eval a X.env)]:=by rfl):PI X tg (.Call (.Name "range" p) [a] [] pos) (vM ta):=by
 intro pins s σ H R I h
 refine Call_ (gI I hg hm boot_range (ABR (thn (ha pos pins s σ H _ I h) ?_) hs rfl))
 rintro us s1 ⟨vs,H1,I1,r1,q1⟩
 obtain⟨j,e,q1,q2,q⟩:=q1
 subst e
 cases r1 with
 | cons r rr =>
  cases rr
  obtain⟨t,rfl⟩:=r
  exact call_range_1 (qW I1 (by lia) (by lia) q1 q2 (by simpa using q))
def tFor(wi:TI)(g:TG)(tb:TS):TS:=λD σ H=>wi σ H λJ H1=>∃W:Nat->Nat->St->Hp->Prop,(∃m,W 0 m σ H1)/\∀i m σ H,W i m σ H ->
 (J.stop i H/\D.nx σ H)\/(J.go i H/\∃N:St->Hp->Prop,(∀σ' H',N σ' H'->∃m',m' < m/\W (i+1) m' σ' H')/\∀x H',J.yld i H x H'->g x σ H' λσ2 H2=>tb { D with nx:=N,ct:=N,bk:=D.nx } σ2 H2)
noncomputable def dv(fp:List Addr)(h:Heap):List (Addr×Obj):=fp.filterMap λb=>(h.get? b).map λo=>(b,o)
theorem cG(hb:b∈fp)(e:h.get? b=some o):(b,o)∈dv fp h:=List.mem_filterMap.mpr ⟨b,hb,by rw[e];rfl⟩
theorem jI(hp:p∈dv fp h):p.1∈fp/\h.get? p.1=some p.2:=by
 obtain⟨b,hb,e⟩:=List.mem_filterMap.mp hp
 cases q:h.get? b with
 | none=>rw[q]at e;cases e
 | some o =>
  rw[q]at e
  have e':(b,o)=p:=AAN e
  subst e'
  exact⟨hb,q⟩
theorem Inv.pinned(I:Inv X pins σ H s)(hf:∀b∈fp,iO X pins H b)(ho:∀b∈fp,∃o,s.heap.get? b=some o/\∀v,o.data≠.cell v):Inv X (pins++dv fp s.heap) σ H s :=
 I.pins_of λp hp=>(ABQ.mp hp).elim (λz=>I.pin p (AAO _ z)) λz=>by
  obtain⟨hb,e⟩:=jI z
  obtain⟨f0,f1,f2,_⟩:=hf p.1 hb
  obtain⟨o,e',d⟩:=ho p.1 hb
  rw[e]at e';cases e'
  exact⟨e,f0,f1,f2,d⟩
theorem Inv.unpinned(I:Inv X (pins++pl) σ H s):Inv X pins σ H s:=I.pins_of λp hp=>I.pin p (AAO _ (AC0 _ hp))
theorem xf(hp:PassesOwn (model X.prog X.w) X.A X.env X.xe)(hc:X.calm=true)(hi:PI X tg iter wi)(hg:PG X tg g)(hb:PSs X body tb)
  (hs:∀x,foldedSetIterable iter X.env x=pure x:=by intro _;rfl):PS X (.For tg iter body [] pos) (tFor wi g tb):=by
 intro pins s σ H D I h
 refine wpAny_For (thn (hi pins s σ H _ I h) λv s1 h1=>thn h1 λitv s2 h2=>?_) hs
 obtain⟨it,fp,tn,J,H2,e,I2,T,st2,f2,W,⟨m0,w0⟩,turn⟩:=h2
 subst e
 -- what stays true of the iterator's objects through the loop
 have stat:∀{H':Hp},(∀b∈fp,H' b=none)->∀b∈fp,iO X pins H' b:=λhn b hb=>⟨hn b hb,(f2 b hb).2⟩
 refine codeAny_forLoop_any (λn s'=>∃i σ' H',Inv X pins σ' H' s'/\tn i s'.heap/\(∀b∈fp,H' b=none)/\W i n σ' H') ?_ m0 ⟨0,σ,H2,I2,st2,λb hb=>(f2 b hb).1,w0⟩
 rintro n s3 ⟨i,σ3,H3,I3,st3,fr3,w3⟩
 rcases turn i n σ3 H3 w3 with⟨stop,qn⟩|⟨go,N,hN,step⟩
 ·refine ABg hp (thn (T.done X rfl rfl rfl hc i pins s3 σ3 H3 X.xe I3 (stat fr3) st3 stop) ?_)
  rintro r s4 ⟨hr,I4⟩
  subst hr
  exact ABf ⟨σ3,H3,I4,qn⟩
 ·refine ABg hp (thn (T.item X rfl rfl rfl hc i pins s3 σ3 H3 X.xe I3 (stat fr3) st3 go) ?_)
  rintro r s4 ⟨u,hr,h4⟩
  subst hr
  refine ABg hp (thn h4 ?_)
  rintro _ s5 ⟨x,H5,I5,r5,y5,st5,fr5⟩
  have I5':=I5.pinned (stat fr5) (T.obj _ _ st5)
  refine ABg hp (thn (hg _ s5 σ3 H5 x u _ I5' r5 (step x H5 y5)) ?_)
  rintro _ s6 ⟨σ6,H6,I6,q6⟩
  refine ABg hp (thn (hb _ s6 σ6 H6 _ I6 q6) λf s7 q7=>?_)
  have again:∀{σ7:St}{H7:Hp},Inv X (pins++dv fp s5.heap) σ7 H7 s7->N σ7 H7->∃m,m<n/\∃i σ' H',Inv X pins σ' H' s7/\tn i s7.heap/\(∀b∈fp,H' b=none)/\W i m σ' H':=λ{σ7 H7} I7 n7=>by
   obtain⟨m',hm,w7⟩:=hN σ7 H7 n7
   refine⟨m',hm,i+1,σ7,H7,I7.unpinned,T.keep _ _ _ st5 λb hb o e=>(I7.pin (b,o) (AAO _ (AAO _ (cG hb e)))).1,λb hb=>?_,w7⟩
   obtain⟨o,e,d⟩:=T.obj _ _ st5 b hb
   exact(I7.pin (b,o) (AAO _ (AAO _ (cG hb e)))).2.1
  cases f with
  | next=>obtain⟨σ7,H7,I7,n7⟩:=q7;exact again I7 n7
  | cont=>obtain⟨σ7,H7,I7,n7⟩:=q7;exact again I7 n7
  | brk=>obtain⟨σ7,H7,I7,q7⟩:=q7;exact⟨σ7,H7,I7.unpinned,q7⟩
  | ret v=>obtain⟨x7,σ7,H7,I7,r7,q7⟩:=q7;exact⟨x7,σ7,H7,I7.unpinned,r7,q7⟩
abbrev R2:=V->V->Hp->VK->Prop
def OpR(X:Cx)(f:Value->Value->Sem Value)(r:R2):Prop :=
 ∀(pins:List (Addr×Obj)) (s:Shared) (σ:St) (H:Hp) (x y:V) (v u:Value) (Q:VK),Inv X pins σ H s->aH x v->aH y u->r x y H Q ->
  wpAny (model X.prog X.w) X.A (f v u) (EP X pins σ Q) X.xe s
def UnR(X:Cx)(f:Value->Sem Value)(r:V->Hp->VK->Prop):Prop :=
 ∀(pins:List (Addr×Obj)) (s:Shared) (σ:St) (H:Hp) (x:V) (v:Value) (Q:VK),Inv X pins σ H s->aH x v->r x H Q ->
  wpAny (model X.prog X.w) X.A (f v) (EP X pins σ Q) X.xe s
def cL(X:Cx)(f:Value)(r:List V->Hp->VK->Prop):Prop :=
 ∀(pins:List (Addr×Obj)) (s:Shared) (σ:St) (H:Hp) (xs:List V) (us:List Value) (Q:VK),Inv X pins σ H s->aq xs us->r xs H Q ->
  wpAny (model X.prog X.w) X.A (call f us) (EP X pins σ Q) X.xe s
def tOp(r:R2)(ta tb:TE):TE:=λσ H Q=>ta σ H λx H1=>tb σ H1 λy H2=>r x y H2 Q
def rI(C:Int->Int->Prop)(g:Int->Int->V):R2:=λx y H Q=>∃i j,x=.int i/\y=.int j/\C i j/\Q (g i j) H
def rI0(g:Int->Int->V):R2:=λx y H Q=>∃i j,x=.int i/\y=.int j/\Q (g i j) H
theorem binT(ha:PE X a ta)(hb:PE X b tb){pins:List (Addr×Obj)}{s:Shared}{σ:St}{H:Hp}{R:V->V->Hp->Prop}(I:Inv X pins σ H s)
  (h:ta σ H λx H1=>tb σ H1 λy H2=>R x y H2) {Q:Value->Shared->Prop}{f:Value->Value->Sem Value}
  (hf:∀v u s2 x y H2,Inv X pins σ H2 s2->aH x v->aH y u->R x y H2->wpAny (model X.prog X.w) X.A (f v u) Q X.xe s2) :
  wpAny (model X.prog X.w) X.A (eval a X.env) (λv s₁=>wpAny (model X.prog X.w) X.A (eval b X.env) (λu s₂=>wpAny (model X.prog X.w) X.A (f v u) Q X.xe s₂) X.xe s₁) X.xe s:=by
 refine thn (ha pins s σ H _ I h) ?_
 rintro v s1 ⟨x,H1,I1,r1,q1⟩
 refine thn (hb pins s1 σ H1 _ I1 q1) ?_
 rintro u s2 ⟨y,H2,I2,r2,q2⟩
 exact hf v u s2 x y H2 I2 r1 r2 q2
theorem pe_op{op:Operator}{r:R2}(ho:OpR X (binaryOp op) r)(ha:PE X a ta)(hb:PE X b tb):PE X (.BinOp a op b pos) (tOp r ta tb):=by
 intro pins s σ H Q I h
 exact wpAny_BinOp (binT ha hb I h λv u s2 x y H2 I2 rx ry q=>ho pins s2 σ H2 x y v u Q I2 rx ry q)
theorem opI{f:Value->Value->Sem Value}{C:Int->Int->Prop}{g:Int->Int->Int}
  (rule:∀(i j:Int) (t u:Tok) (s:Shared) (Q:Value->Shared->Prop) (E:Value->Shared->Prop),C i j->Q (.int (g i j) s.toks) { s with toks:=s.toks+1 }->wpAny (model X.prog X.w) X.A (f (.int i t) (.int j u)) Q E s) :
  OpR X f (rI C λi j=>.int (g i j)):=by
 intro pins s σ H x y v u Q I rx ry h
 obtain⟨i,j,rfl,rfl,hc,q⟩:=h
 obtain⟨t,rfl⟩:=rx
 obtain⟨t',rfl⟩:=ry
 exact rule i j t t' s _ _ hc ⟨.int (g i j),H,I.tok _,⟨_,rfl⟩,q⟩
theorem opI0{f:Value->Value->Sem Value}{g:Int->Int->Int}
  (rule:∀(i j:Int) (t u:Tok) (s:Shared) (Q:Value->Shared->Prop) (E:Value->Shared->Prop),Q (.int (g i j) s.toks) { s with toks:=s.toks+1 }->wpAny (model X.prog X.w) X.A (f (.int i t) (.int j u)) Q E s) :
  OpR X f (rI0 λi j=>.int (g i j)):=by
 intro pins s σ H x y v u Q I rx ry h
 obtain⟨i,j,rfl,rfl,q⟩:=h
 obtain⟨t,rfl⟩:=rx
 obtain⟨t',rfl⟩:=ry
 exact rule i j t t' s _ _ ⟨.int (g i j),H,I.tok _,⟨_,rfl⟩,q⟩
theorem opB0{f:Value->Value->Sem Value}{g:Int->Int->Bool}
  (rule:∀(i j:Int) (t u:Tok) (s:Shared) (Q:Value->Shared->Prop) (E:Value->Shared->Prop),Q (.bool (g i j)) s->wpAny (model X.prog X.w) X.A (f (.int i t) (.int j u)) Q E s) :
  OpR X f (rI0 λi j=>.bl (g i j)):=by
 intro pins s σ H x y v u Q I rx ry h
 obtain⟨i,j,rfl,rfl,q⟩:=h
 obtain⟨t,rfl⟩:=rx
 obtain⟨t',rfl⟩:=ry
 exact rule i j t t' s _ _ ⟨.bl (g i j),H,I,rfl,q⟩
def CPow(i j:Int):Prop:=0<=j/\j<=1000000/\i.natAbs<2 ^ 64
def CMul(i j:Int):Prop:=(-(2 ^ 64)<i/\i<2 ^ 64)\/(-(2 ^ 64)<j/\j<2 ^ 64)
theorem CMul.ok(h:CMul i j):IntMulOk i j:=by
 rcases h with⟨h1,h2⟩|⟨h1,h2⟩
 ·exact .of_left (intBits_le_64 h1 h2)
 ·exact .of_right (intBits_le_64 h1 h2)
theorem xC:OpR X (binaryOp .Add) (rI0 λi j=>.int (i+j)):=opI0 λ_ _ _ _ _ _ _ q=>add_int q
theorem xw:OpR X (binaryOp .Sub) (rI0 λi j=>.int (i-j)):=opI0 λ_ _ _ _ _ _ _ q=>sub_int q
theorem xz:OpR X (binaryOp .Mult) (rI CMul λi j=>.int (i*j)):=opI λ_ _ _ _ _ _ _ hc q=>mul_int q hc.ok
theorem xA:OpR X (binaryOp .Mod) (rI (λ_ j=>0<j) λi j=>.int (i % j)):=opI λi j _ _ _ _ _ hc q=>by
 have h1:(0:Int)<j:=hc
 exact mod_int' (by lia) (by rw[Int.fmod_eq_emod_of_nonneg i (by lia)];exact q)
theorem xy:OpR X (binaryOp .Pow) (rI CPow λi j=>.int (i ^ j.toNat)):=opI λ_ _ _ _ _ _ _ hc q=>pow_int_small hc.1 hc.2.1 hc.2.2 q
theorem op_lt:OpR X (compareOp .Lt) (rI0 λi j=>.bl (decide (i<j))):=opB0 λ_ _ _ _ _ _ _ q=>lt_int q
theorem op_le:OpR X (compareOp .LtE) (rI0 λi j=>.bl (decide (i<=j))):=opB0 λ_ _ _ _ _ _ _ q=>le_int q
theorem OpR.or(h:OpR X f r)(h':OpR X f r'):OpR X f (λx y H Q=>r x y H Q\/r' x y H Q):=by
 intro pins s σ H x y v u Q I rx ry q
 rcases q with q | q
 ·exact h pins s σ H x y v u Q I rx ry q
 ·exact h' pins s σ H x y v u Q I rx ry q
theorem uD(ho:OpR X (compareOp op) r)(ha:PE X a ta)(hb:PE X b tb)(hm:behindInMarks op b=false):PE X (.Compare a [op] [b] pos) (tOp r ta tb):=by
 intro pins s σ H Q I h
 exact wpAny_Compare1 (binT ha hb I h λv u s2 x y H2 I2 rx ry q=>ho pins s2 σ H2 x y v u Q I2 rx ry q) hm
def ua(t:TE):TT:=λσ H Q=>t σ H λx H'=>∃k,x=.bl k/\Q k H'
theorem ut(ho:OpR X (compareOp op) r)(ha:PE X a ta)(hb:PE X b tb)(hm:behindInMarks op b=false):PT X (.Compare a [op] [b] pos) (ua (tOp r ta tb)):=by
 intro pins s σ H Q I h
 refine wpAny_isTrue_Compare1 (thn (ha pins s σ H _ I h) λv s1 ⟨x,H1,I1,r1,q1⟩=>thn (hb pins s1 σ H1 _ I1 q1) λu s2 ⟨y,H2,I2,r2,q2⟩ =>
  thn (ho pins s2 σ H2 x y v u _ I2 r1 r2 q2) λc s3 ⟨z,H3,I3,r3,k,e,q3⟩=>?_) hm
 subst e
 cases r3
 exact ABO ⟨H3,I3,q3⟩
def sZ(r r':R2)(ta tb tc:TE):TE:=λσ H Q=>ta σ H λx H1=>tb σ H1 λy H2=>r x y H2 λz H3=>∃k,z=.bl k /\
 (if k=true then tc σ H3 λw' H4=>r' y w' H4 Q else Q (.bl false) H3)
theorem qY(ho:OpR X (compareOp op) r)(ho':OpR X (compareOp op') r')(ha:PE X a ta)(hb:PE X b tb)(hc:PE X c tc)
  (hm:lastMarks [op,op'] [b,c]=false:=by with_unfolding_all rfl):PT X (.Compare a [op,op'] [b,c] pos) (ua (sZ r r' ta tb tc)):=by
 intro pins s σ H Q I h
 refine isTrue_chain (thn (ha pins s σ H _ I h) λv s1 ⟨x,H1,I1,r1,q1⟩=>test_link (thn (hb pins s1 σ H1 _ I1 q1) λu s2 ⟨y,H2,I2,r2,q2⟩ =>
  thn (ho pins s2 σ H2 x y v u _ I2 r1 r2 q2) λd s3 ⟨z,H3,I3,r3,k,e,q3⟩=>?_)) hm
 subst e
 cases r3
 refine ABO ?_
 cases k with
 | false =>
  obtain⟨k',e',q'⟩:=q3
  cases e'
  exact ite_ff ⟨H3,I3,q'⟩
 | true =>
  refine ite_tt (test_last (thn (hc pins s3 σ H3 _ I3 q3) ?_))
  rintro w' s4 ⟨z',H4,I4,r4,q4⟩
  refine thn (ho' pins s4 σ H4 y z' u w' _ I4 r2 r4 q4) ?_
  rintro d' s5 ⟨z2,H5,I5,r5,k2,e2,q5⟩
  subst e2
  cases r5
  exact ABO ⟨H5,I5,q5⟩
theorem gH:(sizeLine:Nat)<2 ^ 63:=by rw[ABr];decide
theorem mK:OpR X (binaryOp .Add) (λx y H Q=>∃i j,x=.str i/\y=.str j/\i.length+j.length<=sizeLine/\Q (.str (i++j)) H):=by
 intro pins s σ H x y v u Q I rx ry h
 obtain⟨i,j,rfl,rfl,hz,q⟩:=h
 obtain⟨t,rfl⟩:=rx
 obtain⟨t',rfl⟩:=ry
 exact add_str (λt' tk=>⟨.str (i++j),H,I.tok _,⟨_,rfl⟩,q⟩) hz
theorem tX(r:aq [x] us):∃u,us=[u]/\aH x u:=by
 cases r with
 | cons r1 r2=>cases r2;exact⟨_,rfl,r1⟩
structure ObjM(h:Heap)(x dx C:Addr)(mA:Str->Option Value):Prop where
 obj:h.get? x=some (PySem.W.instObj C dx)
 ns:h.Ns1 dx mA
 ne:dx≠x
theorem qD.some_of(r:qD (some v) o):∃u,o=some u/\aH v u:=by
 cases o with
 | none=>exact(show False from r).elim
 | some u=>exact⟨u,rfl,r⟩
structure Cls(K:AA)(C:Addr):Prop where
 pg:PySem.W.plainGet K C ACW=true
 hd:PySem.W.hasDictIn K C=true
 po:PySem.W.plainOver K C=true
 sa:ABZ K (.ref C) "__setattr__" = some (some (.builtin "object.__setattr__"))
structure Con(K:AA)(C:Addr)(f:Str)(v:V)(u:Value):Prop where
 at_:ABZ K (.ref C) f=some (some u)
 rel:aH v u
 get:PySem.W.specialIn K u "__get__" = some none
 cp:PySem.W.copiedNames.contains f=false
structure Meth(K:AA)(C:Addr)(m:Str)(f:Addr):Prop where
 at_:ABZ K (.ref C) m=some (some (.ref f))
 fn:PySem.W.isFn K (.ref f)=true
 kp:ABF K (.ref f)=true
inductive TyOf(K:AA)(H:Hp):V->Value->Prop where
 | non:TyOf K H .non (.type "NoneType")
 | bl (x:Bool):TyOf K H (.bl x) (.type "bool")
 | int (i:Int):TyOf K H (.int i) (.type "int")
 | str (x:Str):TyOf K H (.str x) (.type "str")
 | flt (x:UInt64):TyOf K H (.flt x) (.type "float")
 | lst {a:Addr}{xs:List V} (e:H a=some (.lst xs)):TyOf K H (.ref a) (.type "list")
 | frz {a:Addr}{o:Obj}{xs:List V} (e:H a=some (.frz o (.lst xs))):TyOf K H (.ref a) (.type "list")
 | tup {a:Addr}{xs:List V} (e:H a=some (.tup xs)):TyOf K H (.ref a) (.type "tuple")
 | dK {a:Addr}{kvs:List (Key×V)} (e:H a=some (.dK kvs)):TyOf K H (.ref a) (.type "dict")
 | dT {a:Addr}{kvs:List (List Key×V)} (e:H a=some (.dT kvs)):TyOf K H (.ref a) (.type "dict")
 | ins {a C dx:Addr}{fs:List (Str×V)} (e:H a=some (.ins C dx fs)) (cl:Cls K C) (ha:ABZ K (.ref C) "__class__" = some (some (.builtin "object.__class__")))
   (hn:PySem.W.specialIn K (.builtin "object.__class__") "__get__" = some (some (.builtin "getset_descriptor.__get__"))) (htk:PySem.W.takesIn K (.builtin "object.__class__")=some true)
   (hm:PySem.W.mroIn K C (.type "object")=some true):TyOf K H (.ref a) (.ref C)
structure Room(k:Nat)(A:Around):Prop where
 hd:A.handled=none
 dp:A.depth+3*k+5<recursionLimit
 un:A.units+16*k+200<cLine
theorem Room.mono(r:Room k A)(h:j<=k):Room j A:=⟨r.hd,by have:=r.dp;lia,by have:=r.un;lia⟩
theorem Room.deeper(r:Room (k+1) A)(env:Env):Room k (A.deeper env) :=
 ⟨r.hd,by have:=r.dp;show A.depth+1+3*k+5<_;lia,by have:=r.un;show A.units+3+16*k+200<_;lia⟩
theorem Room.depth(r:Room k A):A.depth<recursionLimit:=by have:=r.dp;lia
def tNil:TA:=λ_ H Q=>Q [] H
def tCons(ta:TE)(tr:TA):TA:=λσ H Q=>ta σ H λx H1=>tr σ H1 λxs H2=>Q (x::xs) H2
theorem oG:PA X [] tNil:=λ_ _ _ _ H Q I h=>Calls.spliced_nil ⟨[],H,I,.nil,h⟩
theorem fw(ha:PE X e te)(hr:PA X es t)(hs:starEach (e::es) X.env=(false,eval e X.env)::starEach es X.env:=by rfl):PA X (e::es) (tCons te t):=by
 intro pos pins s σ H Q I h
 rw[hs]
 show wpAny _ _ (spliced ((false,eval e X.env)::backTo pos (starEach es X.env))) _ _ s
 refine ACv (thn (ha pins s σ H _ I h) ?_)
 rintro u s1 ⟨x,H1,I1,r1,q1⟩
 refine thn (hr pos pins s1 σ H1 _ I1 q1) ?_
 rintro us s2 ⟨xs,H2,I2,r2,q2⟩
 exact⟨x::xs,H2,I2,.cons r1 r2,q2⟩
def tTup(t:TA):TE:=λσ H Q=>t σ H λxs H1=>xs.length<=sizeLine/\∀p,H1 p=none->Q (.ref p) (upd H1 p (.tup xs))
def tLst(t:TA):TE:=λσ H Q=>t σ H λxs H1=>xs.length<=sizeLine/\∀p,H1 p=none->Q (.ref p) (upd H1 p (.lst xs))
theorem xk{x1}(h:PA X es t):PE X (.Tuple es x1 pos) (tTup t):=by
 intro pins s σ H Q I hq
 refine wpAny_Tuple_spliced (thn (h pos pins s σ H _ I hq) λus s1 ⟨xs,H1,I1,r,z,q⟩=>⟨by rw[<-r.length];exact z,?_⟩)
 have hf:H1 s1.heap.objs.size=none:=I1.hok.fresh (AA8 _)
 refine⟨.ref s1.heap.objs.size,upd H1 s1.heap.objs.size (.tup xs),I1.laid (t':=s1.toks) (λb u e=>AA3 _ e) (AA8 _) ?_,rfl,q _ hf⟩
 exact⟨z,us,r,⟨_,AAH _ rfl,rfl,⟨_,rfl⟩,rfl⟩⟩
theorem xq(h:PA X es t):PE X (.List es pos) (tLst t):=by
 intro pins s σ H Q I hq
 refine wpAny_List_spliced (thn (h pos pins s σ H _ I hq) λus s1 ⟨xs,H1,I1,r,z,q⟩=>⟨by rw[<-r.length];exact z,?_⟩)
 have hf:H1 s1.heap.objs.size=none:=I1.hok.fresh (AA8 _)
 refine⟨.ref s1.heap.objs.size,upd H1 s1.heap.objs.size (.lst xs),I1.laid (t':=s1.toks) (λb u e=>AA3 _ e) (AA8 _) ?_,rfl,q _ hf⟩
 exact⟨z,us,0,r,AAH _ rfl⟩
abbrev Sp:=List V->Hp->VK->XK->Prop
abbrev CXT:=List Env->Hp->Shared->XK->Value->Shared->Prop
structure Env0(P:Program)(w:World)(K:AA)(mg:Str->Option Value)(base:Heap)(A:Around)(outer:List Env)(s:Shared)(H:Hp):Prop where
 frames:A.frames=some outer
 mod:Mod K mg base
 bs:∀b o,base.get? b=some o->s.heap.get? b=some o/\H b=none
 bsz:base.objs.size<=s.heap.objs.size
 funs:s.heap.FunFrames base outer
 frf:∀b∈frs outer,H b=none
 hok:HOk P w H s.heap
 bare:AllBare s.gens
inductive CE(outer:List Env)(P:Program)(w:World)(H:Hp)(s:Shared)(Q:VK)(u:Value)(s':Shared):Prop
 | mk (v:_) (H':_) (f0:s'.os=s.os) (f1:AllBare s'.gens) (f2:Un (frs outer) [] H H' s.heap s'.heap) (f3:HOk P w H' s'.heap) (f4:aH v u) (f5:Q v H')
def CR(CX:CXT)(outer:List Env)(P:Program)(w:World)(H:Hp)(s:Shared)(Q:VK)(E:XK)(r:Result)(s':Shared):Prop :=
 match r with
 | .ok (.ret u)=>CE outer P w H s Q u s'
 | .ok _=>False
 | .error e=>CX outer H s E e s'
structure FnOk(P:Program)(w:World)(K:AA)(mg:Str->Option Value)(base:Heap)(CX:CXT)(k:Nat)(f:Addr)(fd:FuncData)(ps:List Str)(sp:Sp):Prop where
 len:∀vs H Q E,sp vs H Q E->vs.length=ps.length
 run:∀(A:Around) (outer:List Env) (s:Shared) (H:Hp) (args:Args) (us:List Value) (vs:List V) (Q:VK) (E:XK),Room k A->Env0 P w K mg base A outer s H->BindsTo s fd args (ps.zip us)->aq vs us->sp vs H Q E ->
  codeAny (model P w) A (.call (.ref f) args) (CR CX outer P w H s Q E) s
theorem Inv.env0(I:Inv X pins σ H s):Env0 X.prog X.w X.K X.mg X.base X.A X.stack s H :=
 ⟨I.ok.frames,I.ok.mod,I.bs,AAn I.ok.bsz I.sz,I.stack,I.stkFree,I.hok,I.bare⟩
theorem Inv.after(I:Inv X pins σ H s)(h:CE X.stack X.prog X.w H s Q u s'):EP X pins σ Q u s':=by
 obtain⟨v,H',os,bare,un,hok,r,q⟩:=h
 obtain⟨hh,g,d,t,os'⟩:=s'
 obtain rfl:os'=s.os:=os
 exact⟨v,H',I.call (h':=hh) (g':=g) (d':=d) (t':=t) (ch:=[]) un hok bare (λb z=>absurd z (by simp)),r,q⟩
def wP(sp:Sp)(dvs:List V)(E:XK)(t:TA):TE:=λσ H Q=>t σ H λvs H1=>sp (vs++dvs) H1 Q E
def gm(K:AA)(fd:FuncData)(ps:List Str)(ds:List Value):Prop :=
 ∀(s:Shared) (us:List Value),K.In s.heap->(us++ds).length=ps.length->BindsTo s fd ⟨us,[]⟩ (ps.zip (us++ds))
theorem gm.all{K:AA}{fd:FuncData}{ps:List Str}(h:∀us:List Value,us.length=ps.length->bindArgs fd ⟨us,[]⟩=pure (ps.zip us)):gm K fd ps []:=λs us _ hl=>by
 rw[AAw]at hl ⊢
 exact .of_eq (h us hl)
def mx(CX:CXT)(X:Cx)(E:XK):Prop:=∀(pins:List (Addr×Obj)) (σ:St) (H:Hp) (s:Shared) (e:Value) (s':Shared),Inv X pins σ H s->CX X.stack H s E e s'->X.xe e s'
theorem wU(F:FnOk X.prog X.w X.K X.mg X.base CX k f fd ps sp)(hr:Room k X.A)(hb:gm X.K fd ps ds)(hd:aq dvs ds)(hx:mx CX X E)
  (I:Inv X pins σ H s) (r:aq vs us) (h:sp (vs++dvs) H Q E):wpAny (model X.prog X.w) X.A (call (.ref f) us) (EP X pins σ Q) X.xe s:=by
 have r2:aq (vs++dvs) (us++ds):=r.append hd
 have hl:(us++ds).length=ps.length:=by rw[<-r2.length];exact F.len _ _ _ _ h
 refine wpAny_call (ACw (F.run X.A X.stack s H ⟨us,[]⟩ (us++ds) (vs++dvs) Q E hr I.env0 (hb s us I.kIn hl) r2 h) λr s' hq=>?_)
 cases r with
 | error e=>exact hx pins σ H s e s' I hq
 | ok fl =>
  cases fl with
  | ret u=>exact I.after hq
  | next=>exact AAp hq
  | brk=>exact AAp hq
  | cont=>exact AAp hq
theorem uE(F:FnOk X.prog X.w X.K X.mg X.base CX k f fd ps sp)(hr:Room k X.A)(hg:Gl X x)(hm:X.mg x=some (.ref f))(hk:ABF X.K (.ref f)=true)(hb:gm X.K fd ps ds)(hd:aq dvs ds)(hx:mx CX X E)
  (ha:PA X (e::es) t) (hdb:(x==("__debug__":Str))=false:=by decide) (he:starEach (e::es) X.env=(false,eval e X.env)::starEach es X.env:=by rfl) (hpl:(backTo pos (starEach es X.env)).any (·.1)=false:=by rfl) :
  PE X (.Call (.Name x p) (e::es) [] pos) (wP sp dvs E t):=by
 intro pins s σ H Q I h
 refine ABq (dP I hg hm ?_ hdb)
 refine ACx (h₀:=X.base) I.ok.mod.kin hk (thn (ha pos pins s σ H _ I h) λus s1 ⟨vs,H1,I1,r,q⟩=>⟨I1.kIn,?_⟩) he hpl
 exact wU F hr hb hd hx I1 r q
structure Mk(K:AA)(C f:Addr):Prop where
 makes:PySem.W.makesIn K C=true
 init:ABZ K (.ref C) "__init__" = some (some (.ref f))
 fn:PySem.W.isFn K (.ref f)=true
 kp:ABF K (.ref C)=true
structure KBinds(K:AA)(fd:FuncData)(ps ks:List Str)(g:List Value->List Value->List Value)(gV:List V->List V->List V):Prop where
 to:∀(s:Shared) (us ws:List Value),K.In s.heap->(g us ws).length=ps.length->BindsTo s fd ⟨us,ks.zip ws⟩ (ps.zip (g us ws))
 rel:∀{vs:List V}{us:List Value}{zs:List V}{ws:List Value},aq vs us->aq zs ws->aq (gV vs zs) (g us ws)
structure FnScope(N P:List Str)(sc:Scope):Prop where
 kind:sc.kind=.function
 co:sc.isCoroutine=false
 gen:sc.isGenerator=false
 nd:N.Nodup
 pre:N.take P.length=P
 par:∀x∈P,sc.names.lookup x=some .local\/sc.names.lookup x=some .cell
 nofree:∀y∈sc.names,y.2≠.free
theorem ki{kindOf:Str->Option NameKind}{x:Str}:∀{binds:List (Str×Value)}{m:Str->Option Value},(∀v,(x,v)∉binds)->bindL kindOf binds m x=m x
 | [],_,_=>rfl
 | (n,v)::r,m,h=>by
  unfold bindL
  rw[ki λw hw=>h w (AAA _ hw)]
  split
  ·have:x≠n:=by rintro rfl;exact h v AAI
   simp[this]
  ·rfl
theorem km{kindOf:Str->Option NameKind}{x:Str}:∀{binds:List (Str×Value)}{m:Str->Option Value},(∀v,(x,v)∉binds)->bindC kindOf binds m x=m x
 | [],_,_=>rfl
 | (n,v)::r,m,h=>by
  unfold bindC
  rw[km λw hw=>h w (AAA _ hw)]
  split
  ·rfl
  ·have:x≠n:=by rintro rfl;exact h v AAI
   simp[this]
theorem kj{kindOf:Str->Option NameKind}{x:Str}{v:Value}:∀{P:List Str}{vs:List Value}{i:Nat}{m:Str->Option Value},P.Nodup->P[i]?=some x->vs[i]?=some v->kindOf x=some .local ->
  bindL kindOf (P.zip vs) m x=some v
 | [],_,_,_,_,h,_,_=>by simp at h
 | _::_,[],_,_,_,_,h,_=>by simp at h
 | p::P,w::vs,0,m,nd,h1,h2,hk=>by
  simp at h1 h2;subst h1;subst h2
  show bindL kindOf ((p,w)::P.zip vs) m p=_
  unfold bindL
  rw[ki λv hv=>(AAi.mp nd).1 (ACh hv).1,if_pos hk]
  simp
 | p::P,w::vs,i+1,m,nd,h1,h2,hk=>by
  show bindL kindOf ((p,w)::P.zip vs) m x=_
  unfold bindL
  exact kj (i:=i) (AAi.mp nd).2 (by simpa using h1) (by simpa using h2) hk
theorem ko{kindOf:Str->Option NameKind}{x:Str}{v:Value}:∀{P:List Str}{vs:List Value}{i:Nat}{m:Str->Option Value},P.Nodup->P[i]?=some x->vs[i]?=some v->kindOf x≠some .local ->
  bindC kindOf (P.zip vs) m x=some v
 | [],_,_,_,_,h,_,_=>by simp at h
 | _::_,[],_,_,_,_,h,_=>by simp at h
 | p::P,w::vs,0,m,nd,h1,h2,hk=>by
  simp at h1 h2;subst h1;subst h2
  show bindC kindOf ((p,w)::P.zip vs) m p=_
  unfold bindC
  rw[km λv hv=>(AAi.mp nd).1 (ACh hv).1,if_neg hk]
  simp
 | p::P,w::vs,i+1,m,nd,h1,h2,hk=>by
  show bindC kindOf ((p,w)::P.zip vs) m x=_
  unfold bindC
  exact ko (i:=i) (AAi.mp nd).2 (by simpa using h1) (by simpa using h2) hk
noncomputable def start(N:List Str)(vs:List V):St:=vs.map some++ABa (N.length-vs.length) none
noncomputable def iE(CX:CXT)(P:Program)(w:World)(K:AA)(mg:Str->Option Value)(base:Heap)(N:List Str)(qual:Str)(scope:Scope)(f:Addr)(cd:Value)(A:Around)(outer:List Env)(s:Shared)(H:Hp)(E:XK):Cx where
 prog:=P
 w:=w
 K:=K
 mg:=mg
 base:=base
 A:=A.deeper (envOfC qual scope s.heap.objs.size f cd)
 N:=N
 s₀:=s
 H₀:=H
 env:=envOfC qual scope s.heap.objs.size f cd
 outer:=outer
 stack:=envOfC qual scope s.heap.objs.size f cd::outer
 ex:=[]
 calm:=true
 fn:=λ_=>true
 pn:=[]
 xe:=λe s'=>wpAny (model P w) (A.deeper (envOfC qual scope s.heap.objs.size f cd)) (leaving (envOfC qual scope s.heap.objs.size f cd) e) (λ_ s''=>CX outer H s E e s'') (λe' s''=>CX outer H s E e' s'') s'
theorem mj{sc:Scope}{n:Nat}{x:Str}(h:sc.names.lookup x=some .cell):∃c,(cellsFrom n sc.names []).lookup x=some c:=by
 have q:=ACK sc.names n [] (.inl h)
 exact ACA.mp q
theorem jT{CX:CXT}{P:Program}{w:World}{K:AA}{mg:Str->Option Value}{base:Heap}{N ps:List Str}{qual:Str}{scope:Scope}{f:Addr}{cd:Value}{A:Around}{outer:List Env}{s s1:Shared}{H:Hp}{E:XK}{us:List Value}{vs:List V}
  (S:FnScope N ps scope) (hd:A.handled=none) (e0:Env0 P w K mg base A outer s H) (hl:vs.length=ps.length) (r:aq vs us)
  (x:InCallC s s.heap.objs.size (bindL (envOfC qual scope s.heap.objs.size f cd).kindOf (ps.zip us) λ_=>none) (cellsFrom (s.heap.objs.size+1) scope.names []) (bindC (envOfC qual scope s.heap.objs.size f cd).kindOf (ps.zip us) λ_=>none) s1) :
  Inv (iE CX P w K mg base N qual scope f cd A outer s H E) [] (start N vs) H s1:=by
 have hpl:ps.length<=N.length:=by have:=congrArg AD4 S.pre;rw[ABA]at this;lia
 obtain⟨h1,tk,rfl,hk⟩:=x.done
 have noA:∀b:Addr,b∉(iE CX P w K mg base N qual scope f cd A outer s H E).ex:=λb z=>absurd (show b∈([]:List Addr)from z) (by simp)
 refine⟨⟨e0.mod,S.kind,rfl,rfl,AA8 _,λy z c h1 h2=>?_,λy hy=>?_,λy c _ h=>?_,λ_=>hd,Around.frames_deeper e0.frames,.inr ⟨rfl,rfl⟩,λb z=>absurd z (noA b),e0.bs,e0.bsz,λb _ _=>noA b,λb z=>absurd z (noA b),e0.funs,e0.frf⟩,
  rfl,e0.bare,Un.kept hk,⟨_,x.toInCall.ns,λi y v h1 h2 h3=>?_⟩,λy c h=>⟨_,x.cell y c h⟩,e0.hok.fresh (AA8 _),λy c h=>?_,λp hp=>absurd (show p∈([]:List (Addr×Obj))from hp) (by simp),e0.hok.kept hk,?_⟩
 ·exact name_of_addr x.apart (AAx h1) (AAx h2)
 ·have hy:scope.names.lookup y=some .cell\/scope.names.lookup y=some .free:=hy
  rcases hy with hy | hy
  ·exact mj hy
  ·exact absurd rfl (S.nofree _ (AAx hy))
 ·exact Nat.le_of_lt (x.above y c (AAx h))
 ·have hi:i<vs.length:=by
   unfold start at h2
   by_cases hi:i<vs.length
   ·exact hi
   ·rw[AAR (by simpa using hi)]at h2
    rw[ABk]at h2
    split at h2<;>cases h2
  have ha:vs[i]?=some v:=by
   unfold start at h2
   rw[AAC (by simpa using hi),AAP]at h2
   cases e:vs[i]? with
   | none=>rw[e]at h2;cases h2
   | some a=>rw[e]at h2;cases h2;rfl
  obtain⟨u,hu,rv⟩:=r.get ha
  have hp:ps[i]?=some y:=by
   rw[<-S.pre,AAv (by lia)];exact h1
  have ndP:ps.Nodup:=by rw[<-S.pre];exact S.nd.sublist (ABy _ _)
  refine⟨u,rv,?_⟩
  rcases S.par y (ABd hp)with k | k
  ·exact .inl ⟨k,kj ndP hp hu k⟩
  ·obtain⟨c,e⟩:=mj (n:=s.heap.objs.size+1) k
   refine .inr ⟨.inl k,c,e,?_⟩
   have q:=x.cell y c e
   rw[ko ndP hp hu (by show scope.names.lookup y≠_;rw[k];decide)]at q
   exact q
 ·exact e0.hok.fresh (Nat.le_of_lt (x.above y c (AAx h)))
 ·unfold start
  show _=N.length
  rw[AAL,AA6,ABs]
  lia
theorem yC{CX:CXT}{P:Program}{w:World}{K:AA}{mg:Str->Option Value}{base:Heap}{k:Nat}{f:Addr}{name qual:Str}{params:Arguments}{body:List Stmt}{scope:Scope}{dV kV doc pm cdv ct oc:Value}{an od:Option Addr}
  {osl:Array (Option Value)}{N ps:List Str}{sp:Sp} (lk:K.lookup f=some ⟨oc,od,.func (ABN name qual params body scope dV kV doc pm an cdv ct),osl⟩) (hcd:ACS K cdv qual=true) (S:FnScope N ps scope)
  (len:∀vs H Q E,sp vs H Q E->vs.length=ps.length)
  (hbody:∀(A:Around) (outer:List Env) (s:Shared) (H:Hp) (vs:List V) (Q:VK) (E:XK),Room k (A.deeper (envOfC qual scope s.heap.objs.size f cdv))->sp vs H Q E ->
   ∃t,PSs (iE CX P w K mg base N qual scope f cdv A outer s H E) body t/\t { nx:=λ_ H'=>Q .non H',rt:=Q } (start N vs) H) :
  FnOk P w K mg base CX (k+1) f (ABN name qual params body scope dV kV doc pm an cdv ct) ps sp:=by
 refine⟨len,λA outer s H args us vs Q E hr e0 hb r hsp=>?_⟩
 have hl:=len _ _ _ _ hsp
 have KX:K.In s.heap:=e0.mod.kin.keeps λb o e=>(e0.bs b o e).1
 have lim:s.heap.NoLimit:=e0.mod.nolimit.keeps λb o e=>(e0.bs b o e).1
 have hkind:∀y∈ps.zip us,scope.names.lookup y.1=some .local\/(scope.names.lookup y.1=some .cell/\((cellsFrom (s.heap.objs.size+1) scope.names []).lookup y.1).isSome=true):=λ⟨n,v⟩ hy=>by
  rcases S.par n (ACh hy).1 with q | q
  ·exact .inl q
  ·exact .inr ⟨q,ACK _ _ _ (.inl q)⟩
 refine codeAny_call_function hr.depth (KX _ _ lk) rfl S.co S.gen rfl (PySem.W.codeRec_of KX hcd) (hb _ _ _ _ ?_)
 refine wpAny_newFunctionEnv_cells S.kind hkind λenv he s1 x=>?_
 subst he
 refine⟨lim.keeps x.toInCall.keep,codeAny_func ?_⟩
 obtain⟨t,ht,hq⟩:=hbody A outer s H vs Q E (hr.deeper _) hsp
 have I:Inv (iE CX P w K mg base N qual scope f cdv A outer s H E) [] (start N vs) H s1:=jT S hr.hd e0 hl r x
 refine AAo (ht [] s1 (start N vs) H _ I hq) (λfl s' hs=>?_) λe s' hs=>hs
 have fin:∀{σ':St}{H':Hp}{v:V}{u:Value},Inv (iE CX P w K mg base N qual scope f cdv A outer s H E) [] σ' H' s'->aH v u->Q v H'->CE outer P w H s Q u s' :=
  λ{σ' H' v u} J rv q=>⟨v,H',J.os,J.bare,J.base,J.hok,rv,q⟩
 cases fl with
 | ret u =>
  obtain⟨v,σ',H',J,rv,q⟩:=hs
  exact fin J rv q
 | next =>
  obtain⟨σ',H',J,q⟩:=hs
  exact fin (v:=V.non) (u:=AB0) J rfl q
 | brk =>
  obtain⟨_,_,_,q⟩:=hs
  exact AAp q
 | cont =>
  obtain⟨_,_,_,q⟩:=hs
  exact AAp q
def tCB(r:List V->Hp->VK->Prop)(t:TA):TE:=λσ H Q=>t σ H λvs H1=>r vs H1 Q
theorem ie{X:Cx}{x:Str}{p pos:Pos}{e:Expr}{es:List Expr}{t:TA}{id:String}{r:List V->Hp->VK->Prop}(hc:cL X (.builtin id) r)(hg:Gl X x)(hm:X.mg x=none)(hv:bootBuiltins x=some (.builtin id))(ha:PA X (e::es) t)(hn:x≠"__name__":=by decide)(hdb:(x==("__debug__":Str))=false:=by decide)
  (he:starEach (e::es) X.env=(false,eval e X.env)::starEach es X.env:=by rfl) (hpl:(backTo pos (starEach es X.env)).any (·.1)=false:=by rfl):PE X (.Call (.Name x p) (e::es) [] pos) (tCB r t):=by
 intro pins s σ H Q I h
 refine ABq (gI I hg hm hv ?_ hn hdb)
 exact PyProof.Rows.callWith_builtin1 (thn (ha pos pins s σ H _ I h) λus s1 ⟨vs,H1,I1,r1,q1⟩=>hc pins s1 σ H1 vs us Q I1 r1 q1) he hpl
theorem oE(hc:cL X (.type T) r)(hg:Gl X x)(hm:X.mg x=none)(hv:bootBuiltins x=some (.type T))(ha:PA X (e::es) t)(hn:x≠"__name__":=by decide)(hdb:(x==("__debug__":Str))=false:=by decide)
  (he:starEach (e::es) X.env=(false,eval e X.env)::starEach es X.env:=by rfl) (hpl:(backTo pos (starEach es X.env)).any (·.1)=false:=by rfl):PE X (.Call (.Name x p) (e::es) [] pos) (tCB r t):=by
 intro pins s σ H Q I h
 refine ABq (gI I hg hm hv ?_ hn hdb)
 exact ABR (thn (ha pos pins s σ H _ I h) λus s1 ⟨vs,H1,I1,r1,q1⟩=>hc pins s1 σ H1 vs us Q I1 r1 q1) he hpl
end L2
namespace HT
open PySem PyProof.Rows
theorem rcLt_int(A:Around)(s:Shared)(a:Int)(t:Tok)(c:Int)(u:Tok)(prog:Program)(w:World)(E:Value->Shared->Prop)(Q:Value->Shared->Prop)(h:Q (.bool (decide (a<c))) s) :
  wpAny (model prog w) A (richCompare .Lt (.int a t) (.int c u)) Q E s :=
 (PyProof.Rows.lt_int h:wpAny (model prog w) A (compareOp .Lt (.int a t) (.int c u)) Q E s)
theorem cat_tup(ht:IsTup s.heap t vs.toArray)(hb:IsTup s.heap b ws.toArray)(hv:vs≠[])
  (h1:ws=[]->Q (.ref t) s) (h2:ws≠[]->Q (.ref s.heap.objs.size) { s with heap:=s.heap.push { cls:=.type "tuple",data:=.seq (vs++ws).toArray } })
  (hsz:vs.length+ws.length<=sizeLine):wpAny (model prog w) A (binaryOp .Add (.ref t) (.ref b)) Q E s:=by
 obtain⟨⟨cls,dd,data,sl⟩,ho,hc,n,hd⟩:=id ht
 obtain⟨⟨cls2,dd2,data2,sl2⟩,ho2,hc2,n2,hd2⟩:=id hb
 simp only at hc hd hc2 hd2
 subst hc hd hc2 hd2
 have e:vs.toArray++ws.toArray=(vs++ws).toArray:=by simp
 by_cases hw:ws=[]
 ·exact concat_meets ⟨_,ho,rfl⟩ ⟨_,ho2,rfl⟩ noFill_tuple_add seq_tuple_add ACL ACD (ACB _ _)
   (tuple_addW1 t b vs.toArray ws.toArray n n2 dd dd2 sl sl2 (by simpa using hv) (by simp[hw])) ⟨ho,ho2,h1 hw⟩
 ·refine concat_meets ⟨_,ho,rfl⟩ ⟨_,ho2,rfl⟩ noFill_tuple_add seq_tuple_add ACL ACD (ACB _ _)
   (tuple_addW2 t b vs.toArray ws.toArray n n2 dd dd2 sl sl2 (by simpa using hv) (by simpa using hw) (by rw[AA7,AA7];exact hsz)) ⟨ho,ho2,?_⟩
  rw[e]
  exact h2 hw
noncomputable def sIx(n d:Nat):Option Int->Nat
 | none=>d
 | some v=>if v<0 then(v+(n:Int)).toNat else min v.toNat n
theorem sIx_none(n d:Nat):sIx n d none=d:=rfl
theorem sIx_nat(n d k:Nat):sIx n d (some (k:Int))=min k n:=by
 show (if (k:Int)<0 then((k:Int)+(n:Int)).toNat else min (k:Int).toNat n)=min k n
 rw[if_neg (by lia),AAz]
theorem wT(n d:Nat)(hd:d<=n)(o:Option Int):sIx n d o<=n:=by
 cases o with
 | none=>exact hd
 | some v =>
  show (if v<0 then(v+(n:Int)).toNat else min v.toNat n)<=n
  by_cases hv:v<0
  ·rw[if_pos hv];lia
  ·rw[if_neg hv];exact Nat.min_le_right _ _
theorem qi(v:Int)(n d:Nat):(if v<0 then max (v+(n:Int)) 0 else min v (n:Int))=((sIx n d (some v):Nat):Int):=by
 show (if v<0 then max (v+(n:Int)) 0 else min v (n:Int))=(((if v<0 then(v+(n:Int)).toNat else min v.toNat n):Nat):Int)
 by_cases hv:v<0
 ·simp only[if_pos hv];lia
 ·simp only[if_neg hv];lia
theorem ni(lo hi:Option Int)(n:Nat):AC2 lo hi 1 (n:Int)=(((sIx n 0 lo:Nat):Int),((sIx n n hi:Nat):Int)):=by
 have h1:¬((1:Int)<0):=by lia
 unfold AC2
 simp only[h1,if_false]
 refine Prod.ext ?_ ?_
 ·cases lo with
  | none=>rfl
  | some v=>exact qi v n 0
 ·cases hi with
  | none=>rfl
  | some v=>exact qi v n n
theorem mJ(i j:Nat):ABb (i:Int) (j:Int) 1=j-i:=by
 unfold ABb
 have h1:(1:Int) > 0:=by lia
 simp only[h1,if_true,Int.ediv_one]
 split<;>lia
theorem gF(p:IsPart v o)(h:Q o s):wpAny (model prog w) A (Builtin.Slice.slicePartIndex v) Q E s:=by
 cases p with
 | none=>exact slicePart_none h
 | int i t=>exact slicePart_int h
theorem cx{sl:Addr}{vl vu:Value}{lo hi:Option Int}{n:Nat}{Q:Int×Int×Nat->Shared->Prop}(hs:s.heap.IsSliceOf sl vl vu .none)(pl:IsPart vl lo)(pu:IsPart vu hi)
  (h:Q (((sIx n 0 lo:Nat):Int),1,sIx n n hi-sIx n 0 lo) s):wpAny (model prog w) A (ACp (.ref sl) (pure (n:Int))) Q E s:=by
 obtain⟨os,hos,hcs,hds⟩:=id hs
 unfold ACp Builtin.Slice.sliceFields
 refine AA0 (AA0 (AAY hos hds (x:=vl) rfl (AA0 (AAY hos hds (x:=vu) rfl (AA0 (AAY hos hds (x:=.none) rfl (AAD ?_)))))))
 refine AA0 (slicePart_none ?_)
 show wpAny _ _ (if ((1:Int)==0)=true then _ else _) _ _ s
 rw[if_neg (by decide)]
 refine AA0 (gF pl (AA0 (gF pu (AA0 (AAD ?_)))))
 show wpAny _ _ (match AC2 lo hi 1 (n:Int)with | (lo,hi)=>pure (lo,(1:Int),ABb lo hi 1)) _ _ s
 rw[ni lo hi n]
 show wpAny _ _ (pure (((sIx n 0 lo:Nat):Int),(1:Int),ABb ((sIx n 0 lo:Nat):Int) ((sIx n n hi:Nat):Int) 1)) _ _ s
 rw[mJ]
 exact AAD h
theorem rk(xs:Array Value)(i k:Nat):((AAb k).filterMap λ(m:Nat)=>xs[((i:Int)+(m:Int)*1).toNat]?).toArray=((xs.toList.drop i).take k).toArray:=by
 have e:(λ(m:Nat)=>xs[((i:Int)+(m:Int)*1).toNat]?)=λm=>xs[i+m]?:=by
  funext m
  have:((i:Int)+(m:Int)*1).toNat=i+m:=by lia
  rw[this]
 rw[e]
 have:=pick_run xs i k
 rw[List.filterMap_map]at this
 have e2:((λx=>xs[x]?) ∘ λx=>i+x)=λm=>xs[i+m]?:=rfl
 rw[e2]at this
 rw[this]
theorem getItem_tuple_cut{t sl:Addr}{items:Array Value}{vl vu:Value}{lo hi:Option Int}{Q:Value->Shared->Prop}(ht:IsTup s.heap t items)(hs:s.heap.IsSliceOf sl vl vu .none)(pl:IsPart vl lo)(pu:IsPart vu hi)
  (hw:¬(sIx items.size 0 lo=0/\sIx items.size items.size hi=items.size))
  (h:Q (.ref s.heap.objs.size) { s with heap:=s.heap.push { cls:=.type "tuple",data:=.seq ((items.toList.drop (sIx items.size 0 lo)).take (sIx items.size items.size hi-sIx items.size 0 lo)).toArray } })
  (hsz:items.size<=sizeLine):wpAny (model prog w) A (getItem (.ref t) (.ref sl)) Q E s:=by
 have htake:sizeOk (.seq ((items.toList.drop (sIx items.size 0 lo)).take (sIx items.size items.size hi-sIx items.size 0 lo)).toArray):=by
  show ((items.toList.drop (sIx items.size 0 lo)).take (sIx items.size items.size hi-sIx items.size 0 lo)).toArray.size<=sizeLine
  rw[AA7,ABA,ABL,AC9]
  lia
 have hj:sIx items.size items.size hi<=items.size:=wT _ _ (AA8 _) hi
 obtain⟨os,hos,hcs,hds⟩:=id hs
 have hTs:s.TypeIs (.ref sl) "slice":=⟨os,hos,hcs⟩
 unfold getItem
 try with_reducible refine ABE ?_
 first | refine AA0 (AAD ?_) | skip
 refine AA0 (wpAny_sequenceKey ht.typeIs (by decide) ?_)
 refine AA0 (AB (name:=AA2 "__getitem__") ht.typeIs AAj
  (ABB AAj ht.typeIs entry_tuple_getitem ?_ (args_tuple_getitem _ _)))
 show wpAny _ _ (ACq (.ref t) >>= _) _ _ s
 refine AA0 (tupleItemsOf_ ht ?_)
 refine AA0 (wpAny_typeOf hTs ?_)
 rw[if_pos (by decide)]
 refine AA0 (cx hs pl pu ?_)
 have hno:¬((((sIx items.size 0 lo:Nat):Int)==0&&(1:Int)==1&&(sIx items.size items.size hi-sIx items.size 0 lo)==items.size)=true):=by
  intro q
  rw[AAG,AAG]at q
  have q1:((sIx items.size 0 lo:Nat):Int)=0:=eq_of_beq q.1.1
  have q2:sIx items.size items.size hi-sIx items.size 0 lo=items.size:=eq_of_beq q.2
  exact hw ⟨by lia,by lia⟩
 show wpAny _ _ (if (((sIx items.size 0 lo:Nat):Int)==0&&(1:Int)==1&&(sIx items.size items.size hi-sIx items.size 0 lo)==items.size)=true then _ else _) _ _ s
 rw[if_neg hno,rk]
 first
  | exact AA0 (m:=ABh _) (AAs (AAD ⟨_,rfl,AAD h⟩) htake)
  | exact AA0 (m:=ABh _) (AAs (AA0 (AAD (AAD ⟨_,rfl,AAD h⟩))) htake)
  | exact AA0 (AA0 (m:=ABh _) (AAs (AAD (AAD ⟨_,rfl,AAD h⟩)) htake))
  | exact AA0 (AA0 (m:=ABh _) (AAs (AAD ⟨_,rfl,AAD h⟩) htake))
end HT
namespace L2
open PySem PySem.Spec PyProof.Rows
abbrev TO:=St->Hp->(Option Int->Hp->Prop)->Prop
def PO(X:Cx)(e:Option Expr)(t:TO):Prop :=
 ∀(pins:List (Addr×Obj)) (s:Shared) (σ:St) (H:Hp) (Q:Option Int->Hp->Prop),Inv X pins σ H s->t σ H Q ->
  wpAny (model X.prog X.w) X.A (evalPart e X.env) (λu s'=>∃o H',Inv X pins σ H' s'/\IsPart u o/\Q o H') X.xe s
def ub:TO:=λ_ H Q=>Q none H
def tPart(t:TE):TO:=λσ H Q=>t σ H λx H1=>∃i,x=.int i/\Q (some i) H1
section
variable{X:Cx}{e:Expr}{te:TE}{lo hi:Option Expr}{tl th:TO}{pos p2:Pos}
theorem uz:PO X none ub:=by
 intro pins s σ H Q I h
 rw[evalPart_none]
 exact AAD ⟨none,H,I,.none,h⟩
theorem uy(h:PE X e te):PO X (some e) (tPart te):=by
 intro pins s σ H Q I hw
 rw[evalPart_some]
 refine thn (h pins s σ H _ I hw) ?_
 rintro u s1 ⟨x,H1,I1,r1,q1⟩
 obtain⟨i,rfl,q⟩:=q1
 obtain⟨t,rfl⟩:=r1
 exact⟨some i,H1,I1,.int i t,q⟩
def SlR(X:Cx)(r:V->Option Int->Option Int->Hp->VK->Prop):Prop :=
 ∀(pins:List (Addr×Obj)) (s:Shared) (σ:St) (H:Hp) (x:V) (v vl vu:Value) (lo hi:Option Int) (sl:Addr) (Q:VK),Inv X pins σ H s->aH x v->s.heap.IsSliceOf sl vl vu .none->IsPart vl lo->IsPart vu hi->r x lo hi H Q ->
  ∃T id,typeLookup (.type T) "__getitem__" = pure (some (.builtin id))/\s.TypeIs v T/\wpAny (model X.prog X.w) X.A (getItem v (.ref sl)) (EP X pins σ Q) X.xe s
def tSl(r:V->Option Int->Option Int->Hp->VK->Prop)(te:TE)(tl th:TO):TE:=λσ H Q=>te σ H λx H1=>tl σ H1 λl H2=>th σ H2 λu H3=>r x l u H3 Q
theorem rp(hr:SlR X r)(he:PE X e te)(hl:PO X lo tl)(hu:PO X hi th):PE X (.Subscript e (.Slice lo hi none p2) pos) (tSl r te tl th):=by
 intro pins s σ H Q I h
 refine Subscript_ (thn (he pins s σ H _ I h) ?_)
 rintro v s1 ⟨x,H1,I1,r1,q1⟩
 refine wpAny_Slice (thn (hl pins s1 σ H1 _ I1 q1) ?_)
 rintro vl s2 ⟨l,H2,I2,pl,q2⟩
 refine thn (hu pins s2 σ H2 _ I2 q2) ?_
 rintro vu s3 ⟨u,H3,I3,pu,q3⟩
 rw[evalPart_none]
 refine AAD ?_
 have I4:Inv X pins σ H3 { s3 with heap:=s3.heap.push { cls:=.type "slice",data:=.fields #[vl,vu,.none] } }:=I3.kept (t':=s3.toks) λb ob q=>AA3 _ q
 obtain⟨T,id,hT,ht,hg⟩:=hr pins { s3 with heap:=s3.heap.push { cls:=.type "slice",data:=.fields #[vl,vu,.none] } } σ H3 x v vl vu l u s3.heap.objs.size Q I4 r1 (Heap.IsSliceOf.new ..) pl pu q3
 show wpAny (model X.prog X.w) X.A (subscriptTail e (.Slice lo hi none p2) v (.ref s3.heap.objs.size)) (EP X pins σ Q) X.xe { s3 with heap:=s3.heap.push { cls:=.type "slice",data:=.fields #[vl,vu,.none] } }
 exact tail_any (ops:=[.ref s3.heap.objs.size,v]) ht hT hg (by with_unfolding_all rfl)
noncomputable def tQ(xs:List V)(lo hi:Option Int):List V:=(xs.drop (HT.sIx xs.length 0 lo)).take (HT.sIx xs.length xs.length hi-HT.sIx xs.length 0 lo)
theorem fT(xs:List V)(lo hi:Option Int):(tQ xs lo hi).length<=xs.length:=by
 unfold tQ
 rw[ABA,ABL]
 lia
def rSlT(K:AA):V->Option Int->Option Int->Hp->VK->Prop:=λx lo hi H Q=>∃a xs,x=.ref a/\SqT K H a xs /\
 ¬(HT.sIx xs.length 0 lo=0/\HT.sIx xs.length xs.length hi=xs.length)/\∀p,H p=none->Q (.ref p) (upd H p (.tup (tQ xs lo hi)))
theorem wR:SlR X (rSlT X.K):=by
 intro pins s σ H x v vl vu lo hi sl Q I rx hs pl pu h
 obtain⟨a,xs,rfl,hx,hw,q⟩:=h
 cases rx
 obtain⟨its,r,ht,hz⟩:=I.tuple hx
 have hlen:its.toArray.size=xs.length:=by rw[AA7];exact r.length.symm
 refine⟨"tuple",_,AAj.lookup,ht.typeIs,?_⟩
 refine HT.getItem_tuple_cut ht hs pl pu (by rw[hlen];exact hw) ?_ (by rw[hlen];exact hz)
 rw[hlen]
 refine⟨.ref s.heap.objs.size,_,I.laid (t':=s.toks) (o:=.tup (tQ xs lo hi)) (λb ob q=>AA3 _ q) (AA8 _) ?_,rfl,q _ (I.hok.fresh (AA8 _))⟩
 exact⟨AAn (fT xs lo hi) hz,_,(r.drop (HT.sIx xs.length 0 lo)).take (HT.sIx xs.length xs.length hi-HT.sIx xs.length 0 lo),tR.new _ _⟩
def rCatT(K:AA):R2:=λx y H Q=>∃a b xs ys,x=.ref a/\y=.ref b/\SqT K H a xs/\SqT K H b ys/\xs≠[]/\xs.length+ys.length<=sizeLine /\
 (ys=[]->Q (.ref a) H)/\(ys≠[]->∀p,H p=none->Q (.ref p) (upd H p (.tup (xs++ys))))
theorem aq.nil_iff(r:aq xs us):us=[]↔xs=[]:=by
 cases r with
 | nil=>simp
 | cons _ _=>simp
theorem uK:OpR X (binaryOp .Add) (rCatT X.K):=by
 intro pins s σ H x y v u Q I rx ry h
 obtain⟨a,b,xs,ys,rfl,rfl,ha,hb,hx,hz,q1,q2⟩:=h
 cases rx
 cases ry
 obtain⟨its,r1,p1,_⟩:=I.tuple ha
 obtain⟨its2,r2,p2,_⟩:=I.tuple hb
 refine HT.cat_tup p1 p2 (λz=>hx (r1.nil_iff.mp z)) (λz=>⟨.ref a,H,I,rfl,q1 (r2.nil_iff.mp z)⟩) (λz=>?_) (by rw[<-r1.length,<-r2.length];exact hz)
 refine⟨.ref s.heap.objs.size,_,I.laid (t':=s.toks) (o:=.tup (xs++ys)) (λb ob q=>AA3 _ q) (AA8 _) ?_,rfl,q2 (λw=>z (r2.nil_iff.mpr w)) _ (I.hok.fresh (AA8 _))⟩
 exact⟨by rw[AAL];exact hz,_,r1.append r2,tR.new _ _⟩
end
noncomputable def ixN(n:Nat)(i:Int):Option Nat:=if 0<=i then(if i<n then some i.toNat else none)else if -(n:Int)<=i then some (i+n).toNat else none
noncomputable def atI{α:Type}(xs:List α)(i:Int):Option α:=(ixN xs.length i).bind λj=>xs[j]?
theorem pC(h:ixN n i=some j):seqIndex? i n=some j/\j<n/\-(n:Int)<=i/\i<n:=by
 unfold ixN at h
 by_cases h0:0<=i
 ·rw[if_pos h0]at h
  by_cases h1:i<n
  ·rw[if_pos h1]at h
   have e:i.toNat=j:=AAN h
   exact⟨by rw[seqIndex_of h0 h1,e],by lia,by lia,h1⟩
  ·rw[if_neg h1]at h;cases h
 ·rw[if_neg h0]at h
  by_cases h1:-(n:Int)<=i
  ·rw[if_pos h1]at h
   have e:(i+n).toNat=j:=AAN h
   exact⟨by rw[seqIndex_neg (by lia) h1,e],by lia,h1,by lia⟩
  ·rw[if_neg h1]at h;cases h
theorem lc{α:Type}{xs:List α}{i:Int}{v:α}(h:atI xs i=some v):∃j,seqIndex? i xs.length=some j/\xs[j]?=some v/\j<xs.length/\-(xs.length:Int)<=i/\i<xs.length:=by
 unfold atI at h
 cases e:ixN xs.length i with
 | none=>rw[e]at h;cases h
 | some j =>
  rw[e]at h
  obtain⟨h1,h2,h3,h4⟩:=pC e
  exact⟨j,h1,h,h2,h3,h4⟩
theorem aG{α:Type}{xs:List α}{j:Nat}{v:α}(h:xs[j]?=some v):atI xs (j:Int)=some v:=by
 have hj:j<xs.length:=(AA4.mp h).1
 have e:ixN xs.length (j:Int)=some j:=by
  unfold ixN
  rw[if_pos (by lia),if_pos (by lia)];simp
 unfold atI;rw[e];exact h
def lj(b:Expr):Prop:=∀o i,subscripted b false o i=operate [o,i] (getItem o i)
def IxR(X:Cx)(r:R2):Prop :=
 ∀(value slice:Expr) (pins:List (Addr×Obj)) (s:Shared) (σ:St) (H:Hp) (x y:V) (v u:Value) (Q:VK),Inv X pins σ H s->aH x v->aH y u->r x y H Q ->
  subscripted slice false v u=operate [v,u] (getItem v u)->wpAny (model X.prog X.w) X.A (subscriptTail value slice v u) (EP X pins σ Q) X.xe s
def MtR(X:Cx)(id:String)(r:V->List V->Hp->VK->Prop):Prop :=
 ∀(pins:List (Addr×Obj)) (s:Shared) (σ:St) (H:Hp) (x:V) (xs:List V) (v:Value) (us:List Value) (Q:VK),Inv X pins σ H s->aH x v->aq xs us->r x xs H Q ->
  wpAny (model X.prog X.w) X.A (call (.builtin id) (v::us)) (EP X pins σ Q) X.xe s
section
variable{X:Cx}{a b:Expr}{ta tb:TE}{pos:Pos}
theorem IxR.or(h:IxR X r)(h':IxR X r'):IxR X (λx y H Q=>r x y H Q\/r' x y H Q):=by
 intro value slice pins s σ H x y v u Q I rx ry q hs
 rcases q with q | q
 ·exact h value slice pins s σ H x y v u Q I rx ry q hs
 ·exact h' value slice pins s σ H x y v u Q I rx ry q hs
theorem pe_ix(hr:IxR X r)(ha:PE X a ta)(hb:PE X b tb)(hs:lj b):PE X (.Subscript a b pos) (tOp r ta tb):=by
 intro pins s σ H Q I h
 exact Subscript_ (binT ha hb I h λv u s2 x y H2 I2 rx ry q=>hr a b pins s2 σ H2 x y v u Q I2 rx ry q (hs _ _))
def rIxL(K:AA):R2:=λx y H Q=>∃p xs i v,x=.ref p/\y=.int i/\SqL K H p xs/\atI xs i=some v/\Q v H
def rIxT(K:AA):R2:=λx y H Q=>∃p xs i v,x=.ref p/\y=.int i/\SqT K H p xs/\atI xs i=some v/\Q v H
def rIxS:R2:=λx y H Q=>∃z i c,x=.str z/\y=.int i/\z.length<=sizeLine/\atI z.cps.toList i=some c/\Q (.str ⟨#[c]⟩) H
theorem vK:IxR X (rIxL X.K):=by
 intro value slice pins s σ H x y v u Q I rx ry h hs
 obtain⟨p,xs,i,z,rfl,rfl,hq,he,q⟩:=h
 cases rx
 obtain⟨t,rfl⟩:=ry
 obtain⟨its,r,pl,hz⟩:=I.list hq
 obtain⟨j,h1,h2,h3,h4,h5⟩:=lc he
 obtain⟨w,ew,rw'⟩:=r.get h2
 have hl:=r.length
 have hn:=gH
 have fin:EP X pins σ Q w s:=⟨z,H,I,rw',q⟩
 by_cases h0:0<=i
 ·have hj:i.toNat=j:=by
   rw[seqIndex_of h0 h5]at h1
   exact AAN h1
  exact item_listR pl.isList h0 (by lia) (by rw[hj];simpa using ew) fin hs
 ·have hj:(i+(its.toArray.size:Int)).toNat=j:=by
   rw[seqIndex_neg (by lia) h4]at h1
   rw[AA7,<-hl]
   exact AAN h1
  exact subscriptTail_builtinR (x:=w) pl.isList.typeIs slot_list_getitem.lookup
   (wpAny_getItem_list_neg (Q:=λr s'=>r=w/\EP X pins σ Q r s') pl.isList (by lia) (by rw[AA7]<;>lia) (by lia) (by rw[hj];simpa using ew) ⟨rfl,fin⟩) hs
theorem yl:IxR X (rIxT X.K):=by
 intro value slice pins s σ H x y v u Q I rx ry h hs
 obtain⟨p,xs,i,z,rfl,rfl,hq,he,q⟩:=h
 cases rx
 obtain⟨t,rfl⟩:=ry
 obtain⟨its,r,pl,hz⟩:=I.tuple hq
 obtain⟨j,h1,h2,h3,h4,h5⟩:=lc he
 obtain⟨w,ew,rw'⟩:=r.get h2
 have hl:=r.length
 have hn:=gH
 have fin:EP X pins σ Q w s:=⟨z,H,I,rw',q⟩
 exact subscriptTail_builtinR (x:=w) pl.typeIs slot_tuple_getitem.lookup
  (getItem_tuple (j:=j) (Q:=λr s'=>r=w/\EP X pins σ Q r s') pl (by lia) (by lia) (by rw[AA7,<-hl];exact h1) (by simpa using ew) ⟨rfl,fin⟩) hs
theorem ym:IxR X rIxS:=by
 intro value slice pins s σ H x y v u Q I rx ry h hs
 obtain⟨z,i,c,rfl,rfl,hz,he,q⟩:=h
 obtain⟨t,rfl⟩:=rx
 obtain⟨t',rfl⟩:=ry
 obtain⟨j,h1,h2,h3,h4,h5⟩:=lc he
 have hl:z.cps.toList.length=z.length:=by simp[Str.length]
 rw[hl]at h1 h4 h5
 have hn:=gH
 exact tail_any (typeIs_str s z t) slot_str_getitem.lookup (getItem_str (c:=c) (by
  have e1:decide (i < -(2 ^ 63:Int))=false:=dF_ (by lia)
  have e2:decide (i ≥ 2 ^ 63)=false:=dF_ (by lia)
  rw[e1,e2,Bool.or_false]) (by rw[h1];simpa using h2) ⟨.str ⟨#[c]⟩,H,I.tok _,⟨_,rfl⟩,q⟩) hs
def rIx(K:AA):R2:=λx y H Q=>rIxL K x y H Q\/rIxT K x y H Q\/rIxS x y H Q
theorem yn:IxR X (rIx X.K):=vK.or (yl.or ym)
theorem mR(its:List Value)(n j:Nat)(u:Value):ABi (·.setIfInBounds j u) { cls:=.type "list",data:=.seq its.toArray n }={ cls:=.type "list",data:=.seq (its.set j u).toArray n }:=by
 simp[ABi]
theorem Inv.lst(I:Inv X pins σ H s)(h:H p=some (.lst xs)) :
  ∃(its:List Value) (n:Nat),aq xs its/\s.heap.get? p=some { cls:=.type "list",data:=.seq its.toArray n }/\xs.length<=sizeLine:=by
 obtain⟨z,its,n,r,e⟩:=I.hok p _ h
 exact⟨its,n,r,e,z⟩
theorem Inv.lstUpd{pins:List (Addr×Obj)}{σ:St}{H:Hp}{s:Shared}{p:Addr}{xs ys:List V}{its its':List Value}{n n':Nat}{f:Obj->Obj}(I:Inv X pins σ H s)(h:H p=some (.lst xs))
  (ho:s.heap.get? p=some { cls:=.type "list",data:=.seq its.toArray n }) (hf:f { cls:=.type "list",data:=.seq its.toArray n }={ cls:=.type "list",data:=.seq its'.toArray n' }) (r:aq ys its') (hz:ys.length<=sizeLine) (t:Nat) :
  Inv X pins σ (upd H p (.lst ys)) { s with heap:=s.heap.update p f,toks:=t }:=by
 have e:(s.heap.update p f).get? p=some { cls:=.type "list",data:=.seq its'.toArray n' }:=by
  rw[ABU f ho (by rw[hf]<;>rfl),hf]
 refine I.write (x:=p) (e:=p) (by rw[h];trivial) (.inl rfl) (λb u hb q=>(ABD _ _ (AAm hb)).trans q) ⟨_,e⟩ ?_
 exact⟨hz,its',n',r,e⟩
def rSetL:V->V->V->Hp->(Hp->Prop)->Prop:=λo i v H Q=>∃p xs k j,o=.ref p/\i=.int k/\H p=some (.lst xs)/\ixN xs.length k=some j/\Q (upd H p (.lst (xs.set j v)))
theorem qT:PSet X rSetL:=by
 intro pins s σ H o i v ov iv u Q I ro ri rv h
 obtain⟨p,xs,k,j,rfl,rfl,hp,hj,q⟩:=h
 cases ro
 obtain⟨t,rfl⟩:=ri
 obtain⟨its,n,r,ho,hz⟩:=I.lst hp
 obtain⟨h1,h2,h3,h4⟩:=pC hj
 have hl:=r.length
 have hn:=gH
 have I':Inv X pins σ (upd H p (.lst (xs.set j v))) { s with heap:=s.heap.update p (ABi (·.setIfInBounds j u)) } :=
  I.lstUpd hp ho (mR its n j u) (r.set rv j) (by rw[ABu];exact hz) s.toks
 by_cases h0:0<=k
 ·have hk:k.toNat=j:=by
   rw[seqIndex_of h0 h4]at h1
   exact AAN h1
  exact PySem.W.ki_setAt ho h0 (by lia) (by rw[AA7,<-hl];exact h4) (by rw[hk];exact⟨_,I',q⟩)
 ·have hk:(k+(its.toArray.size:Int)).toNat=j:=by
   rw[seqIndex_neg (by lia) h3]at h1
   rw[AA7,<-hl]
   exact AAN h1
  exact PySem.W.ki_setBack ho (by lia) (by rw[AA7,<-hl];exact h3) (by lia) (by rw[hk];exact⟨_,I',q⟩)
theorem jC(lo hi:Option Int)(n:Nat):(sliceBounds lo hi none n).1=((HT.sIx n 0 lo:Nat):Int)/\(sliceBounds lo hi none n).2.1=((HT.sIx n n hi:Nat):Int)/\(sliceBounds lo hi none n).2.2=1:=by
 refine⟨?_,?_,rfl⟩
 ·cases lo with
  | none=>simp[sliceBounds,HT.sIx]
  | some i =>
   simp only[sliceBounds,HT.sIx,Option.getD_none,show (1:Int) > 0 by decide,if_true]
   by_cases h:i<0
   ·simp only[h,if_true]<;>lia
   ·simp only[h,if_false]<;>lia
 ·cases hi with
  | none=>simp[sliceBounds,HT.sIx]
  | some i =>
   simp only[sliceBounds,HT.sIx,Option.getD_none,show (1:Int) > 0 by decide,if_true]
   by_cases h:i<0
   ·simp only[h,if_true]<;>lia
   ·simp only[h,if_false]<;>lia
theorem hV(its:List Value)(lo hi:Option Int):slicePick its.toArray lo hi none=((its.drop (HT.sIx its.length 0 lo)).take (HT.sIx its.length its.length hi-HT.sIx its.length 0 lo)).toArray:=by
 obtain⟨h1,h2,h3⟩:=jC lo hi its.toArray.size
 unfold slicePick
 rw[h1,h2,h3]
 simp only[sliceRange_one,pick_run,AA7]<;>rfl
def rSlL(K:AA):V->Option Int->Option Int->Hp->VK->Prop:=λx lo hi H Q=>∃a xs,x=.ref a/\SqL K H a xs/\∀p,H p=none->Q (.ref p) (upd H p (.lst (tQ xs lo hi)))
theorem uh:SlR X (rSlL X.K):=by
 intro pins s σ H x v vl vu lo hi sl Q I rx hs pl pu h
 obtain⟨a,xs,rfl,hx,q⟩:=h
 cases rx
 obtain⟨its,r,ht,hz⟩:=I.list hx
 have hlen:=r.length
 refine⟨"list",_,slot_list_getitem.lookup,ht.isList.typeIs,?_⟩
 refine wpAny_getItem_list_slice ht.isList hs pl pu .none (by simp) ?_ (by rw[AA7]<;>lia)
 rw[hV,<-hlen]
 refine⟨.ref s.heap.objs.size,_,I.laid (t':=s.toks) (o:=.lst (tQ xs lo hi)) (λb ob q=>AA3 _ q) (AA8 _) ?_,rfl,q _ (I.hok.fresh (AA8 _))⟩
 exact⟨AAn (fT xs lo hi) hz,_,0,(r.drop (HT.sIx xs.length 0 lo)).take (HT.sIx xs.length xs.length hi-HT.sIx xs.length 0 lo),AAH _ rfl⟩
theorem kh:cL X (.builtin "len") (λxs H Q=>∃p ys,xs=[.ref p]/\(SqL X.K H p ys\/SqT X.K H p ys)/\Q (.int ys.length) H):=by
 intro pins s σ H xs us Q I r h
 obtain⟨p,ys,rfl,hq,q⟩:=h
 obtain⟨u,rfl,rx⟩:=tX r
 cases rx
 have hn:=gH
 rcases hq with hq | hq
 ·obtain⟨its,r',pl,hz⟩:=I.list hq
  have hlen:=r'.length
  exact Calls.call_len_list pl.isList (by simp only[AA7]<;>lia) ⟨.int ys.length,H,I.tok _,⟨s.toks+1,by rw[AA7,hlen]⟩,q⟩
 ·obtain⟨its,r',pl,hz⟩:=I.tuple hq
  have hlen:=r'.length
  exact len_tuple pl (by simp only[AA7]<;>lia) ⟨.int ys.length,H,I.tok _,⟨s.toks+1,by rw[AA7,hlen]⟩,q⟩
theorem kg:cL X (.builtin "len") (λxs H Q=>∃z,xs=[.str z]/\z.length<=sizeLine/\Q (.int z.length) H):=by
 intro pins s σ H xs us Q I r h
 obtain⟨z,rfl,hz,q⟩:=h
 obtain⟨u,rfl,t,rfl⟩:=tX r
 have hn:=gH
 exact len_str (by lia) ⟨.int z.length,H,I.tok _,⟨_,rfl⟩,q⟩
theorem cL.or(h:cL X f r)(h':cL X f r'):cL X f (λxs H Q=>r xs H Q\/r' xs H Q):=by
 intro pins s σ H xs us Q I rs q
 rcases q with q | q
 ·exact h pins s σ H xs us Q I rs q
 ·exact h' pins s σ H xs us Q I rs q
theorem iF:cL X (.type "tuple") (λxs H Q=>∃p ys,xs=[.ref p]/\((SqL X.K H p ys/\∀l,H l=none->Q (.ref l) (upd H l (.tup ys)))\/(SqT X.K H p ys/\Q (.ref p) H))):=by
 intro pins s σ H xs us Q I r h
 obtain⟨p,ys,rfl,h⟩:=h
 obtain⟨u,rfl,rx⟩:=tX r
 cases rx
 rcases h with⟨hq,q⟩|⟨hq,q⟩
 ·obtain⟨its,r',pl,hz⟩:=I.list hq
  have hlen:=r'.length
  refine call_tuple_list pl.isList (λh' kp=>?_) (by simp only[AA7]<;>lia)
  have I1:Inv X pins σ H { s with heap:=h' }:=I.kept (t':=s.toks) kp
  have I2:Inv X pins σ (upd H h'.objs.size (.tup ys)) { s with heap:=h'.push { cls:=.type "tuple",data:=.seq its.toArray } } :=
   I1.laid (t':=s.toks) (λb o e=>AA3 _ e) (AA8 _) (show br X.prog X.w _ _ _ (.tup ys)from⟨hz,its,r',tR.new _ _⟩)
  exact⟨.ref h'.objs.size,_,I2,rfl,q _ (I1.hok.fresh (AA8 _))⟩
 ·obtain⟨its,r',pl,hz⟩:=I.tuple hq
  exact call_tuple_same pl ⟨.ref p,H,I,rfl,q⟩
def tyV(K:AA)(T:String)(x:V)(H:Hp):Prop:=match x with
 | .str _=>T = "str"
 | .int _=>T = "int"
 | .ref p=>(T = "list"/\∃xs,SqL K H p xs)\/(T = "tuple"/\∃o,K.lookup p=some o/\o.cls=.type "tuple"/\o.dict=none) \/
   (T = "dict"/\((∃kvs,H p=some (.dK kvs))\/∃kvs,H p=some (.dT kvs)))\/(T = "set"/\∃S n,H p=some (.set S n))
 | _=>False
theorem wJ(I:Inv X pins σ H s)(r:aH x v)(ty:tyV X.K T x H) :
  s.TypeIs v T/\∀a,v=.ref a->∃ob,s.heap.get? a=some ob/\ob.dict=none:=by
 cases x with
 | str z =>
  obtain⟨t,rfl⟩:=r
  cases (show T = "str" from ty)
  exact⟨typeIs_str s z t,λ_ e=>nomatch e⟩
 | int i =>
  obtain⟨t,rfl⟩:=r
  cases (show T = "int" from ty)
  exact⟨typeIs_int s i t,λ_ e=>nomatch e⟩
 | ref p =>
  cases r
  rcases ty with⟨rfl,xs,hq⟩|⟨rfl,o,hk,hc,hd⟩|⟨rfl,hk⟩|⟨rfl,S,n,hk⟩
  ·obtain⟨its,_,pl,_⟩:=I.list hq
   refine⟨pl.isList.typeIs,λa e=>?_⟩
   cases e
   obtain⟨o,n,e,c,hd,_⟩:=pl
   exact⟨o,e,hd⟩
  ·refine⟨⟨o,I.kIn p o hk,hc⟩,λa e=>?_⟩
   cases e
   exact⟨o,I.kIn _ o hk,hd⟩
  ·have z:∃o,s.heap.get? p=some o/\o.ExactDict:=by
    rcases hk with⟨kvs,hk⟩|⟨kvs,hk⟩
    ·obtain⟨_,_,_,_,o,_,_,e,ex,_⟩:=I.hok p _ hk
     exact⟨o,e,ex⟩
    ·obtain⟨_,_,_,_,o,_,_,e,ex,_⟩:=I.hok p _ hk
     exact⟨o,e,ex⟩
   obtain⟨o,e,ex⟩:=z
   refine⟨⟨o,e,ex.1⟩,λa e2=>?_⟩
   cases e2
   exact⟨o,e,ex.2.1⟩
  ·obtain⟨o,_,_,_,e,ex,_⟩:=I.hok p _ hk
   refine⟨⟨o,e,ex.1⟩,λa e2=>?_⟩
   cases e2
   exact⟨o,e,ex.2.1⟩
 | _=>exact AAp ty
def tBM(K:AA)(T:String)(r:V->List V->Hp->VK->Prop)(to:TE)(t:TA):TE:=λσ H Q=>to σ H λx H1=>tyV K T x H1/\t σ H1 λxs H2=>r x xs H2 Q
variable{o e:Expr}{es:List Expr}{to:TE}{t:TA}{name:Str}{apos cpos:Pos}{T id:String}{r:V->List V->Hp->VK->Prop}
theorem xt(pa:PlainAttrs T)(slot:Slot T name id)(hty:typeOf (.builtin id)=pure (.type "method_descriptor"))(hm:MtR X id r)(ho:PE X o to)(ha:PA X (e::es) t)
  (hbase:attributeBase o name X.env (eval o X.env)=eval o X.env:=by rfl)
  (hfew:((backTo cpos (starEach (e::es) X.env)).all (λx=>!x.1)&&(backToKw cpos (keywordEach [] X.env)).all (λx=>x.1.isSome)
   && decide ((e::es).length+([]:List Keyword).length+(if ([]:List Keyword).isEmpty then 0 else 1)<30))=true:=by rfl)
  (hline:(apos.endLine==cpos.line)=true:=by rfl) (hs:starEach (e::es) X.env=(false,eval e X.env)::starEach es X.env:=by rfl) (hplain:(backTo cpos (starEach es X.env)).any (·.1)=false:=by rfl) :
  PE X (.Call (.Attribute o name apos) (e::es) [] cpos) (tBM X.K T r to t):=by
 intro pins s σ H Q I h
 refine wpAny_Call_method_late hbase hfew hline rfl (thn (ho pins s σ H _ I h) ?_)
 rintro v s1 ⟨x,H1,I1,r1,ty,q1⟩
 obtain⟨h1,h2⟩:=wJ I1 r1 ty
 refine⟨T,id,pa,slot,hty,h1,h2,?_⟩
 have hA:=ha cpos pins s1 σ H1 _ I1 q1
 rw[hs]at hA ⊢
 refine Calls.callWith_builtin (by show (false||(backTo cpos (starEach es X.env)).any (·.1))=false;rw[hplain]<;>rfl) (Calls.evalArgs_plain ?_)
 refine thn hA ?_
 rintro us s2 ⟨vs,H2,I2,r2,q2⟩
 exact hm pins s2 σ H2 x vs v us Q I2 r1 r2 q2
/- xs.append(e),list.index on a module's tuple .. are MtR facts of 06m -/
end
def MtM(X:Cx)(id:String)(r:V->List V->Hp->VK->Prop):Prop :=
 ∀(pins:List (Addr×Obj)) (s:Shared) (σ:St) (H:Hp) (x:V) (xs:List V) (v:Value) (us:List Value) (Q:VK),Inv X pins σ H s->aH x v->aq xs us->r x xs H Q ->
  wpAny (model X.prog X.w) X.A (call (.builtin id) (v::us)) (EP X pins σ Q) X.xe s
theorem aq.one(h:aq [x] us):∃u,us=[u]/\aH x u:=by
 cases h with
 | cons r t=>cases t;exact⟨_,rfl,r⟩
theorem aq.two(h:aq [x,y] us):∃u v,us=[u,v]/\aH x u/\aH y v:=by
 cases h with
 | cons r t =>
  obtain⟨v,e,q⟩:=aq.one t
  subst e
  exact⟨_,v,rfl,r,q⟩
theorem Inv.lset{its its':List Value}{n:Nat}{f:Array Value->Array Value}{t':Nat}(I:Inv X pins σ H s)(hH:H l=some (.lst xs))
  (e:s.heap.get? l=some { cls:=.type "list",data:=.seq its.toArray n }) (hf:f its.toArray=its'.toArray) (hv:aq ys its') (hz:ys.length<=sizeLine) :
  Inv X pins σ (upd H l (.lst ys)) { s with heap:=s.heap.update l (ABi f),toks:=t' }:=by
 have q:=PySem.IsL.update e f
 rw[hf]at q
 refine I.write (x:=l) (e:=l) (by rw[hH];exact trivial) (.inl rfl) (λb' u hb hu=>(ABD s.heap (ABi f) (AAm hb)).trans hu) ⟨_,q⟩ ?_
 exact⟨hz,its',_,hv,q⟩
theorem Inv.lnew(I:Inv X pins σ H s)(hv:aq ys its)(hz:ys.length<=sizeLine) :
  Inv X pins σ (upd H s.heap.objs.size (.lst ys)) { s with heap:=s.heap.push { cls:=.type "list",data:=.seq its.toArray },toks:=t' } :=
 I.laid (λ_ _ q=>AA3 _ q) (AA8 _) ⟨hz,its,0,hv,AAH _ rfl⟩
theorem Inv.fresh(I:Inv X pins σ H s):H s.heap.objs.size=none:=I.hok.fresh (AA8 _)
theorem Inv.lstM(I:Inv X pins σ H s)(hH:H l=some (.lst xs)):xs.length<=sizeLine/\∃(its:List Value) (n:Nat),aq xs its/\xs.length=its.length/\s.heap.get? l=some { cls:=.type "list",data:=.seq its.toArray n }:=by
 obtain⟨z,its,n,r,e⟩:=I.hok l _ hH
 exact⟨z,its,n,r,r.length,e⟩
theorem rF(h:n<=sizeLine):ACC n=false:=by
 unfold ACC
 exact dF_ (by lia)
def ul:V->List V->Hp->VK->Prop:=λx vs H Q=>∃l xs y,x=.ref l/\vs=[y]/\H l=some (.lst xs)/\xs.length<sizeLine/\Q .non (upd H l (.lst (xs++[y])))
theorem oQ:MtM X "list.append" ul:=by
 intro pins s σ H x vs v us Q I rx rv h
 obtain⟨l,xs,y,rfl,rfl,hH,hz,q⟩:=h
 cases rx
 obtain⟨u,rfl,ru⟩:=rv.one
 obtain⟨z,its,n,r,hl,e⟩:=I.lstM hH
 refine call_meets F.slot_list_append ⟨_,e,rfl⟩ F.entry_list_append (F.args_list_append_2 _ _) (PySem.list_append l its.toArray n u (by rw[AA7];lia)) ⟨e,?_⟩
 refine⟨.non,_,I.lset (its':=its++[u]) hH e (by simp) (r.append (.cons ru .nil)) ?_,rfl,q⟩
 rw[AAL,ABH]
 lia
def uk:V->List V->Hp->VK->Prop:=λx vs H Q=>∃l b xs zs,x=.ref l/\vs=[.ref b]/\H l=some (.lst xs)/\H b=some (.lst zs)/\xs.length+zs.length<=sizeLine/\Q .non (upd H l (.lst (xs++zs)))
theorem oP:MtM X "list.extend" uk:=by
 intro pins s σ H x vs v us Q I rx rv h
 obtain⟨l,b,xs,zs,rfl,rfl,hH,hB,hz,q⟩:=h
 cases rx
 obtain⟨u,rfl,ru⟩:=rv.one
 cases ru
 obtain⟨z,its,n,r,hl,e⟩:=I.lstM hH
 obtain⟨z2,its2,n2,r2,hl2,e2⟩:=I.lstM hB
 have hsz:its.toArray.size+its2.toArray.size<=sizeLine:=by rw[AA7,AA7];lia
 have hlong:¬(!its.toArray.isEmpty&&ACC (its.toArray.size+its2.toArray.size))=true:=by
  rw[rF hsz,Bool.and_false]
  exact ABp
 refine call_meets F.slot_list_extend ⟨_,e,rfl⟩ F.entry_list_extend (F.args_list_extend_2 _ _)
  (AutoSeq1.list_extend_list_list_0 l its.toArray n b its2.toArray n2 hlong (by rw[AA7];lia) (by lia)) ⟨e,e2,?_⟩
 refine⟨.non,_,I.lset (its':=its++its2) hH e (by simp) (r.append r2) ?_,rfl,q⟩
 rw[AAL]
 lia
def rCat:R2:=λx y H Q=>∃l b xs zs,x=.ref l/\y=.ref b/\H l=some (.lst xs)/\H b=some (.lst zs)/\xs.length+zs.length<=sizeLine/\∀p,H p=none->Q (.ref p) (upd H p (.lst (xs++zs)))
theorem xB:OpR X (binaryOp .Add) rCat:=by
 intro pins s σ H x y v u Q I rx ry h
 obtain⟨l,b,xs,zs,rfl,rfl,hH,hB,hz,q⟩:=h
 cases rx
 cases ry
 obtain⟨z,its,n,r,hl,e⟩:=I.lstM hH
 obtain⟨z2,its2,n2,r2,hl2,e2⟩:=I.lstM hB
 refine PySem.P.add_list e e2 ?_ (by rw[AA7,AA7];lia)
 have ea:its.toArray++its2.toArray=(its++its2).toArray:=by simp
 rw[ea]
 exact⟨.ref _,_,I.lnew (t':=s.toks) (r.append r2) (by rw[AAL];lia),rfl,q _ I.fresh⟩
end L2
namespace Att
open PySem PySem.W PySem.Calls PyProof.Rows
theorem fK:∀(ns:List Int) (vs:List Value),WellAll P h vs (ns.map WData.int)->IntsAre vs ns:=by
 intro ns
 induction ns with
 | nil =>
  intro vs w
  rw[List.map_nil]at w
  cases w
  exact .nil
 | cons n ns ih =>
  intro vs w
  rw[AAQ]at w
  cases w with
  | cons a b =>
   cases a
   exact .cons _ _ (ih _ b)
theorem oq{l:OpenLaw}{n:Nat}(hn:l.most=some n){P:Params}{h:Heap}{args:List WData}{vals:List Value}
  (hpre:l.row.toRowW.claim.pre args=true) (hwl:WellAll P h vals args) :
  ∃a vs ns,vals=[ABC a]/\args=[WData.list (ns.map WData.int)]/\h.get? a=some { cls:=.type "list",data:=.seq vs.toArray }/\IntsAre vs ns/\ns.length<=n:=by
 have hsh:WShape.hasAll [] args [.list .int]=true:=(pre_splitW hpre).1
 have hc:l.pre.holds [] { args:=args }=true:=(pre_splitW hpre).2
 obtain⟨d,r,rfl,h1,h2⟩:=hasAllW_cons hsh
 obtain rfl:=hasAllW_nil h2
 obtain⟨xs,rfl,h3⟩:=hasW_list h1
 obtain⟨ns,rfl⟩:=items_int h3
 have hlen:ns.length<=n:=by
  unfold OpenLaw.pre at hc
  have h4:(WTm.not (.lt (.lit (.int (n:Int))) (.len (.arg 0)))).holds [] { args:=[.list (ns.map .int)] }=true:=by
   have h4:=(holds_andW hc).1
   rw[hn]at h4
   exact h4
  have h5:=condW_of h4 (w_not (w_lt w_lit (w_len_list (w_arg rfl))))
  rw[AA6]at h5
  refine Nat.le_of_not_lt λq=>?_
  have q':(n:Int)<((ns.length:Nat):Int):=by lia
  first
   | (rw[dT_ q']at h5;exact absurd h5 (by decide))
   | (simp at h5;lia)
 cases hwl with
 | cons w1 w2 =>
  cases w2
  cases w1 with
  | list ho hall=>exact⟨_,_,ns,rfl,rfl,ho,fK ns _ hall,hlen⟩
theorem oy(l:OpenLaw)(args:List WData):l.row.toRowW.claim.post args (.bool true) args=true :=
 postW_of (r:=l.row.toRowW) (X:=(true==true))
  (show WShape.has [] (.bool true) .bool=true by first | rfl | decide | simp[WShape.has,WShape.arms,WShape.armsAll])
  (show (WTm.eq .res (.lit (.bool true))).value [] { args:=args,res:=some (.bool true),after:=args }=some (.bool (true==true))from w_eq_bool (w_res rfl) w_lit) rfl
theorem attach_call{l:OpenLaw}{n:Nat}{q:Program}{loose:List Str}{XP:(Str->Option Value)->Heap->Prop}{YP:World->Heap->Prop}{d:DefRec}
  (hn:l.most=some n) (hdf:d.params.defaults=[])
  (call:∀(w:World) (s₀ s₁:Shared) (mg mb:Str->Option Value) (fa:Addr) (o:Obj) (pm cd doc:Value) (a:Addr) (vs:List Value) (ns:List Int),
   Ground q loose [] XP w s₀ mg mb s₁.heap->YP w s₁.heap ->
   s₁.heap.get? fa=some o->o.data=.func (docDef d.name d.params d.body d.scope pm cd doc)->s₁.heap.CodeRec cd d.name->mg d.name=some (.ref fa) ->
   s₁.heap.get? a=some { cls:=.type "list",data:=.seq vs.toArray }->IntsAre vs ns->ns.length<=n->s₁.gens = #[] ->
   codeAny (model l.prog w) callerA (.call (.ref fa) ⟨[.ref a],[]⟩) (λr s'=>r=.ok (.ret (.bool true))/\OldK s₁.heap s'.heap/\s'.os=s₁.os/\AllBare s'.gens) s₁) :
  WalkO q loose XP YP l.row.toRowW d [] (λf vs=>PySem.call f vs):=by
 intro w s₀ s₁ mg mb G Y fa o pm cd doc dV kV ho hd hcd hD hmg hg args vals as hpre hlay hrd hwl hlo
 obtain rfl:dV=.none:=Dflts.none hD hdf
 obtain rfl:kV=.none:=Dflts.noKw hD
 obtain⟨a,vs,ns,rfl,rfl,hobj,hints,hlen⟩:=oq hn hpre hwl
 refine enter_call (ACw (call w s₀ s₁ mg mb fa o pm cd doc a vs ns G Y ho (fd_plain hd) hcd hmg hobj hints hlen hg) λr s' hq=>?_)
 obtain⟨rfl,h2,h3,h4⟩:=hq
 exact⟨.inl ⟨.bool true,.bool true,[],rfl,λ_=>rfl,.bool true,oy l _,λ_=>⟨AD3,λ_ hm=>(nomatch hm)⟩⟩,h2,h3,h4⟩
noncomputable def lR(h:Heap):Heap:={ h with objs:=#[] }
theorem dN(h:Heap)(b:Addr):(lR h).get? b=none:=by
 cases e:(lR h).get? b with
 | none=>rfl
 | some o=>exact absurd (AAB e) (ACE _)
noncomputable def ledger(h:Heap)(L d:Addr):List (Addr×Obj):=(AAb h.objs.size).filterMap λa=>if a=L\/a=d then none else(h.get? a).map λo=>(a,o)
theorem mem_ledger:(a,o)∈ledger h L d↔a≠L/\a≠d/\h.get? a=some o:=by
 unfold ledger
 rw[List.mem_filterMap]
 constructor
 ·rintro⟨b,_,e⟩
  split at e
  ·cases e
  ·rename_i hb
   obtain⟨o',ho,e'⟩:=ACM.mp e
   cases e'
   exact⟨λq=>hb (.inl q),λq=>hb (.inr q),ho⟩
 ·rintro⟨n1,n2,ho⟩
  refine⟨a,AB6.mpr (AAB ho),?_⟩
  rw[if_neg (show ¬(a=L\/a=d)from λq=>q.elim n1 n2),ho]<;>rfl
theorem news_ledger(hne:d≠L)(ho:h.get? d=some od):News (lR h) L h ([]++(d,od)::ledger h L d):=by
 rintro⟨a,o⟩ hp
 rcases AA9.mp hp with e | hp
 ·cases e
  exact⟨ho,hne,dN _ _⟩
 ·obtain⟨n1,n2,e⟩:=mem_ledger.mp hp
  exact⟨e,n1,dN _ _⟩
theorem fr_all(n:h.Ns L m):Fr (lR h) L h m :=
 ⟨n,λb o e=>(by rw[dN]at e;cases e),AAZ _⟩
end Att
namespace L2
open PySem PySem.Spec PyProof.Rows
theorem iS:∀{vs:List Value}{ns:List Int},IntsAre vs ns->aq (ns.map V.int) vs
 | _,_,.nil=>.nil
 | _,_,.cons n t h=>.cons ⟨t,rfl⟩ (iS h)
def Only(H:Hp):Prop:=∀b,H b=none\/∃o xs,H b=some (.frz o (.lst xs))
theorem rR{P:Program}{w:World}{K:AA}{mg mb:Str->Option Value}{CX:CXT}{k:Nat}{fa a:Addr}{fd:FuncData}{x:Str}{sp:Sp}{s₁:Shared}{vs:List Value}{ns:List Int}
  (KX:K.In s₁.heap) (hns:s₁.heap.Ns mainGlobals mg) (hb:s₁.heap.Ns builtinsNs mb) (hbb:∀x:Str,x≠"__name__"->mb x=bootBuiltins x) (hlim:s₁.heap.NoLimit) (hg:s₁.gens = #[])
  (ha:s₁.heap.get? a=some { cls:=.type "list",data:=.seq vs.toArray }) (hi:IntsAre vs ns) (hl:ns.length<=sizeLine) (hr:Room k callerA)
  (F:∀base:Heap,K.In base->base.Ns mainGlobals mg->FnOk P w K mg base CX k fa fd [x] sp) (hbind:∀(s:Shared) (u:Value),BindsTo s fd ⟨[u],[]⟩ [(x,u)])
  (hsp:∀H:Hp,Only H->SqL K H a (ns.map V.int)->sp [.ref a] H (λv _=>v=.bl true) λ_ _ _=>False)
  (hCX:∀H e s',CX [] H s₁ (λ_ _ _=>False) e s'->False) :
  codeAny (model P w) callerA (.call (.ref fa) ⟨[.ref a],[]⟩) (λr s'=>r=.ok (.ret (.bool true))/\OldK s₁.heap s'.heap/\s'.os=s₁.os/\AllBare s'.gens) s₁:=by
 have rv:=iS hi
 have lenV:=hi.length
 -- from an abstract heap in which nothing but the script may be tracked
 have core:∀H:Hp,Only H->SqL K H a (ns.map V.int)->HOk P w H s₁.heap->(∀b,H b≠none->b=a)->(H a≠none->K.lookup a=none) ->
   codeAny (model P w) callerA (.call (.ref fa) ⟨[.ref a],[]⟩) (λr s'=>r=.ok (.ret (.bool true))/\OldK s₁.heap s'.heap/\s'.os=s₁.os/\AllBare s'.gens) s₁:=by
  intro H hO hS hok hA hK
  have base_of:∀{b:Addr}{o:Obj},s₁.heap.get? b=some o->H b=none->(sj s₁.heap H).get? b=some o:=λe n=>sh e n
  have noA:∀{b:Addr}{o:Obj}{es:Array DictEntry}{ep:Nat},s₁.heap.get? b=some o->o.data=.dict es ep->H b=none:=λ{b o es ep} e d=>by
   cases q:H b with
   | none=>rfl
   | some u =>
    have e':b=a:=hA b (by rw[q];simp)
    subst e'
    rw[ha]at e;cases e
    have d':Data.seq vs.toArray _=Data.dict es ep:=d
    cases d'
  have nsK:∀{b:Addr}{m:Str->Option Value},s₁.heap.Ns b m->(sj s₁.heap H).Ns b m:=λ{b m} ⟨o,es,ep,e,d,r⟩=>⟨o,es,ep,base_of e (noA e d),d,r⟩
  have hKb:K.In (sj s₁.heap H):=λb o e=>base_of (KX b o e) (by
   cases q:H b with
   | none=>rfl
   | some u =>
    have e':b=a:=hA b (by rw[q];simp)
    subst e'
    rw[hK (by rw[q];simp)]at e;cases e)
  have hM:Mod K mg (sj s₁.heap H):=⟨hKb,nsK hns,⟨mb,nsK hb,hbb⟩,let ⟨mc,h1,h2⟩:=hlim;⟨mc,nsK h1,h2⟩⟩
  have e0:Env0 P w K mg (sj s₁.heap H) callerA [] s₁ H:=⟨rfl,hM,λb o e=>uN e,Nat.le_of_eq (pI _ _),trivial,λb hb=>absurd (show b∈([]:List Addr)from hb) (by simp),hok,.of_eq hg⟩
  refine ACw ((F _ hKb (nsK hns)).run callerA [] s₁ H ⟨[.ref a],[]⟩ [.ref a] [.ref a] _ _ hr e0 (hbind s₁ (.ref a)) (.cons rfl .nil) (hsp H hO hS)) λr s' h=>?_
  cases r with
  | error e=>exact(hCX H e s' h).elim
  | ok fl =>
   cases fl with
   | next=>exact AAp h
   | brk=>exact AAp h
   | cont=>exact AAp h
   | ret u =>
    obtain⟨v,H',os,bare,un,hok',r',q⟩:=h
    have q':v=.bl true:=q
    subst q'
    obtain rfl:u=Value.bool true:=r'
    refine⟨rfl,OldK.of_keep λb o e=>?_,os,bare⟩
    cases q:H b with
    | none=>exact un.keep b o e q (by intro z;exact absurd (show b∈([]:List Addr)from z) (by simp)) (by simp)
    | some u =>
     rcases hO b with z | ⟨ob,xs,z⟩
     ·rw[q]at z;cases z
     ·have z2:=un.frzs b ob _ z
      obtain⟨e1,_⟩:=hok b _ z
      obtain⟨e2,_⟩:=hok' b _ z2
      rw[e]at e1;cases e1
      exact e2
 cases hk:K.lookup a with
 | some o =>
  -- the script is one of the module's own objects
  have e:=KX a o hk
  rw[ha]at e
  cases e
  refine core (λ_=>none) (λ_=>.inl rfl) (.inr ⟨_,vs.toArray,_,hk,rfl,rfl,rfl,by rw[AA7,lenV];exact hl,by simpa using rv⟩) (λb u z=>by have z':(none:Option HO)=some u:=z;cases z') (λb z=>absurd rfl z) λz=>absurd rfl z
 | none =>
  refine core (λb=>if b=a then some (.frz { cls:=.type "list",data:=.seq vs.toArray } (.lst (ns.map V.int)))else none) (λb=>?_) (.inl (.inr ⟨{ cls:=.type "list",data:=.seq vs.toArray },if_pos rfl⟩)) (λb u z=>?_) (λb z=>?_) λ_=>hk
  ·by_cases hb:b=a
   ·exact .inr ⟨_,_,if_pos hb⟩
   ·exact .inl (if_neg hb)
  ·by_cases hb:b=a
   ·have z':=(if_pos hb).symm.trans z
    cases z'
    subst hb
    exact⟨ha,by rw[AA6];exact hl,vs,_,rv,ha⟩
   ·have z':=(if_neg hb).symm.trans z
    cases z'
  ·by_cases hb:b=a
   ·exact hb
   ·exact absurd (if_neg hb) z
noncomputable abbrev KOf{K:AA}{h:Heap}(_:K.In h):AA:=K
theorem walk_of{l:PySem.W.OpenLaw}{n k:Nat}{q:Program}{loose:List Str}{XP:(Str->Option Value)->Heap->Prop}{YP:World->Heap->Prop}{d:DefRec}{K:Params->AA}{CX:World->CXT}{sp:World->Sp}{x:Str}
  (hn:l.most=some n) (hn2:n<=sizeLine) (hdf:d.params.defaults=[]) (hr:Room k callerA)
  (hY:∀(w:World) (h:Heap),YP w h->(K w.params).In h)
  (F:∀(w:World) (mg:Str->Option Value) (fa:Addr) (h:Heap),(K w.params).In h->h.Ns mainGlobals mg->mg d.name=some (.ref fa) ->
   ∃fd:FuncData,(∀(s:Shared) (u:Value),BindsTo s fd ⟨[u],[]⟩ [(x,u)]) /\
    ∀base:Heap,(K w.params).In base->base.Ns mainGlobals mg->FnOk l.prog w (K w.params) mg base (CX w) k fa fd [x] (sp w))
  (hsp:∀(w:World) (H:Hp) (a:Addr) (ns:List Int),ns.length<=n->Only H->SqL (K w.params) H a (ns.map V.int)->sp w [.ref a] H (λv _=>v=.bl true) λ_ _ _=>False)
  (hCX:∀(w:World) (H:Hp) (s:Shared) (e:Value) (s':Shared),CX w [] H s (λ_ _ _=>False) e s'->False) :
  PySem.W.WalkO q loose XP YP l.row.toRowW d [] (λf vs=>PySem.call f vs):=by
 refine Att.attach_call hn hdf λw s₀ s₁ mg mb fa o pm cd doc a vs ns G Y ho hd hcd hmg hobj hints hlen hg=>?_
 have KX:=hY w _ Y
 obtain⟨fd,hb,hF⟩:=F w mg fa _ KX G.T.g hmg
 exact rR KX G.T.g G.T.b G.T.builtins G.T.nolimit hg hobj hints (AAn hlen hn2) hr hF hb (λH hO hS=>hsp w H a ns hlen hO hS) λH e s'=>hCX w H s₁ e s'
noncomputable def da(s:Stmt):Arguments:=match s with
 | .FunctionDef _ a _ _ _ _ _ _ _ _=>a
 | _=>{ posonlyargs:=[],args:=[],vararg:=none,kwonlyargs:=[],kw_defaults:=[],kwarg:=none,defaults:=[] }
noncomputable def aQ(s:Stmt):List Stmt:=match s with
 | .FunctionDef _ _ b _ _ _ _ _ _ _=>b
 | _=>[]
noncomputable def af(s:Stmt):Scope:=match s with
 | .FunctionDef _ _ _ _ _ _ sc _ _ _=>sc
 | _=>{ kind:=.function,names:=[],isGenerator:=false,isCoroutine:=false }
abbrev CX0:CXT:=λ_ _ _ _ _ _=>False
abbrev E0:XK:=λ_ _ _=>False
theorem pass0:mx CX0 X E0:=λ_ _ _ _ _ _ _ h=>h.elim
structure Fun(K:AA)(x qual:Str)(st:Stmt)(f:Addr)(fd:FuncData):Prop where
 ex:∃(oc:Value) (od:Option Addr) (kV doc pm:Value) (an:Option Addr) (cdv ct:Value) (osl:Array (Option Value)),
  fd=ABN x qual (da st) (aQ st) (af st) .none kV doc pm an cdv ct/\K.lookup f=some ⟨oc,od,.func fd,osl⟩/\ACS K cdv qual=true
 kp:ABF K (.ref f)=true
theorem Fun.ok{P:Program}{w:World}{K:AA}{mg:Str->Option Value}{base:Heap}{x qual:Str}{st:Stmt}{f:Addr}{fd:FuncData}{N ps:List Str}{k:Nat}{sp:Sp}(F:Fun K x qual st f fd)(S:FnScope N ps (af st))(len:∀vs H Q E,sp vs H Q E->vs.length=ps.length)
  (hbody:∀(cdv:Value) (A:Around) (outer:List Env) (s:Shared) (H:Hp) (vs:List V) (Q:VK) (E:XK),Room k (A.deeper (envOfC qual (af st) s.heap.objs.size f cdv))->sp vs H Q E ->
   ∃t,PSs (iE CX0 P w K mg base N qual (af st) f cdv A outer s H E).nox (aQ st) t/\t { nx:=λ_ H'=>Q .non H',rt:=Q } (start N vs) H):FnOk P w K mg base CX0 (k+1) f fd ps sp:=by
 obtain⟨oc,od,kV,doc,pm,an,cdv,ct,osl,rfl,lk,hcd⟩:=F.ex
 refine yC lk hcd S len λA outer s H vs Q E hr hsp=>?_
 obtain⟨t,h,q⟩:=hbody cdv A outer s H vs Q E hr hsp
 exact⟨t,h.nox,q⟩
theorem Fun.binds{K:AA}{x qual:Str}{st:Stmt}{f:Addr}{fd:FuncData}{ps:List Str}(F:Fun K x qual st f fd)
  (h:∀(kV doc pm:Value) (an:Option Addr) (cdv ct:Value) (us:List Value),us.length=ps.length->bindArgs (ABN x qual (da st) (aQ st) (af st) .none kV doc pm an cdv ct) ⟨us,[]⟩=pure (ps.zip us)):gm K fd ps []:=by
 obtain⟨oc,od,kV,doc,pm,an,cdv,ct,osl,rfl,lk,hcd⟩:=F.ex
 exact .all (h kV doc pm an cdv ct)
theorem yA{K:AA}{x qual:Str}{st:Stmt}{f:Addr}{oc:Value}{od an:Option Addr}{osl:Array (Option Value)}{kV doc pm cdv ct:Value}(l:K.lookup f=some ⟨oc,od,.func (ABN x qual (da st) (aQ st) (af st) .none kV doc pm an cdv ct),osl⟩)
  (c:ACS K cdv qual=true) (k:ABF K (.ref f)=true):Fun K x qual st f (ABN x qual (da st) (aQ st) (af st) .none kV doc pm an cdv ct):=⟨⟨oc,od,kV,doc,pm,an,cdv,ct,osl,rfl,l,c⟩,k⟩
theorem bV(h:n<=1000):n<sizeLine:=Nat.lt_of_le_of_lt h (by decide)
theorem gg{A B:Prop}(h:B):if false=true then A else B:=by
 rw[if_neg ABp]
 exact h
theorem gf{A B:Prop}(h:A):if true=true then A else B:=by
 rw[if_pos rfl]
 exact h
section
variable{κ:Type}[DecidableEq κ]
noncomputable def mC(kvs:List (κ×V))(k:κ):Option V:=(kvs.find? λkv=>decide (kv.1=k)).map (·.2)
noncomputable def nq(kvs:List (κ×V))(k:κ)(v:V):List (κ×V) :=
 if (kvs.any λkv=>decide (kv.1=k))=true then kvs.map (λkv=>if kv.1=k then(kv.1,v)else kv)else kvs++[(k,v)]
theorem gQ{p:κ×V}{r:List (κ×V)}{k:κ}(e:p.1=k):mC (p::r) k=some p.2:=by simp[mC,AB8,e]
theorem gR{p:κ×V}{r:List (κ×V)}{k:κ}(e:¬p.1=k):mC (p::r) k=mC r k:=by simp[mC,AB8,e]
theorem lr(k:κ):∀kvs:List (κ×V),(kvs.any λkv=>decide (kv.1=k))=(mC kvs k).isSome
 | []=>rfl
 | p::r=>by
  rw[List.any_cons]
  by_cases e:p.1=k
  ·simp only[gQ e,dT_ e,Bool.true_or,Option.isSome_some]
  ·rw[gR e,dF_ e,Bool.false_or];exact lr k r
theorem fI(kvs:List (κ×V))(k:κ)(v:V):(nq kvs k v).length<=kvs.length+1:=by
 unfold nq
 split
 ·rw[AA6];lia
 ·rw[AAL,AAW,AAk];lia
theorem qD.isSome_eq(r:qD o u):o.isSome=u.isSome:=by
 cases o with
 | none=>cases u with
  | none=>rfl
  | some _=>exact(show False from r).elim
 | some _=>cases u with
  | none=>exact(show False from r).elim
  | some _=>rfl
theorem KV.val{kvs:List (κ×V)}{vs:List (κ×Value)}(r:KV kvs vs)(k:κ):qD (mC kvs k) (valueAt vs k):=by
 unfold KV at r
 induction r with
 | nil=>exact ACO
 | @cons p q ps qs h t ih =>
  obtain⟨h1,h2⟩:=h
  by_cases e:p.1=k
  ·have e':q.1=k:=h1.symm.trans e
   have b:valueAt (q::qs) k=some q.2:=by simp[valueAt,AB8,e']
   rw[gQ e,b];exact h2
  ·have e':¬q.1=k:=λz=>e (h1.trans z)
   have b:valueAt (q::qs) k=valueAt qs k:=by simp[valueAt,AB8,e']
   rw[gR e,b];exact ih
theorem KV.any(r:KV kvs vs)(k:κ):(kvs.any λkv=>decide (kv.1=k))=vs.any λkv=>decide (kv.1=k):=by
 unfold KV at r
 induction r with
 | nil=>rfl
 | cons h t ih=>rw[List.any_cons,List.any_cons,ih,h.1]
theorem KV.repl(r:KV kvs vs)(k:κ)(ry:aH y u) :
  KV (kvs.map λkv=>if kv.1=k then(kv.1,y)else kv) (vs.map λkv=>if kv.1=k then(kv.1,u)else kv):=by
 unfold KV at r ⊢
 induction r with
 | nil=>exact .nil
 | @cons p q ps qs h t ih =>
  rw[AAQ,AAQ]
  refine .cons ?_ ih
  obtain⟨h1,h2⟩:=h
  by_cases e:p.1=k
  ·rw[if_pos e,if_pos (h1.symm.trans e)];exact⟨h1,ry⟩
  ·rw[if_neg e,if_neg (λz=>e (h1.trans z))];exact⟨h1,h2⟩
theorem KV.put(r:KV kvs vs)(k:κ)(ry:aH y u):KV (nq kvs k y) (stored vs k u):=by
 unfold nq stored
 rw[r.any k]
 by_cases e:(vs.any λkv=>decide (kv.1=k))=true
 ·rw[if_pos e,if_pos e];exact r.repl k ry
 ·rw[if_neg e,if_neg e];exact Paired.snoc r ⟨rfl,ry⟩
theorem KV.length(r:KV kvs vs):kvs.length=vs.length:=Paired.length r
end
theorem vI(r:aH (kV k) u):(bb P w).is k u=true:=by
 cases k with
 | inl i=>obtain⟨t,e⟩:=(show ∃t,u=Value.int i t from r);subst e;exact kK P w i t
 | inr x=>obtain⟨t,e⟩:=(show ∃t,u=Value.str x t from r);subst e;exact kJ P w x t
theorem jS:∀{ks:List Key}{us:List Value},aq (ks.map kV) us->ItemsAre (bb P w) ks us
 | [],_,r=>by rw[List.map_nil]at r;cases r;exact .nil
 | k::ks,_,r=>by
  rw[AAQ]at r
  cases r with
  | cons h t=>exact .cons (vI h) (jS t)
abbrev KT(H:Hp):List (List Key×V)->List (List Key×Addr×Value)->Prop:=Paired λp q=>p.1=q.1/\H q.2.1=some (.tup (p.1.map kV))/\aH p.2 q.2.2
theorem KT.val{H:Hp}{kvs:List (List Key×V)}{xs:List (List Key×Addr×Value)}(r:KT H kvs xs)(k:List Key):qD (mC kvs k) ((atKey xs k).map (·.2)):=by
 induction r with
 | nil=>exact ACO
 | @cons p q ps qs h t ih =>
  obtain⟨h1,_,h2⟩:=h
  by_cases e:p.1=k
  ·have e':q.1=k:=h1.symm.trans e
   have b:atKey (q::qs) k=some q.2:=by simp[atKey,AB8,e']
   rw[gQ e,b];exact h2
  ·have e':¬q.1=k:=λz=>e (h1.trans z)
   have b:atKey (q::qs) k=atKey qs k:=by simp[atKey,AB8,e']
   rw[gR e,b];exact ih
theorem KT.repl(r:KT H kvs xs)(k:List Key)(ry:aH y u) :
  KT H (kvs.map λkv=>if kv.1=k then(kv.1,y)else kv) (xs.map (putAt k u)):=by
 induction r with
 | nil=>exact .nil
 | @cons p q ps qs h t ih =>
  rw[AAQ,AAQ]
  refine .cons ?_ ih
  obtain⟨h1,h2,h3⟩:=h
  unfold putAt
  by_cases e:p.1=k
  ·rw[if_pos e,if_pos (h1.symm.trans e)];exact⟨h1,h2,ry⟩
  ·rw[if_neg e,if_neg (λz=>e (h1.trans z))];exact⟨h1,h2,h3⟩
theorem KT.put(r:KT H kvs xs)(k:List Key)(hb:H b=some (.tup (k.map kV)))(ry:aH y u) :
  KT H (nq kvs k y) (storedH xs k b u):=by
 have e:(kvs.any λkv=>decide (kv.1=k))=(atKey xs k).isSome:=by
  rw[lr,(r.val k).isSome_eq,Option.isSome_map]
 unfold nq storedH
 rw[e]
 by_cases q:(atKey xs k).isSome=true
 ·rw[if_pos q,if_pos q];exact r.repl k ry
 ·rw[if_neg q,if_neg q];exact Paired.snoc r ⟨rfl,hb,ry⟩
theorem KT.keeps(r:KT H kvs xs)(ht:∀b ys,H b=some (.tup ys)->H' b=some (.tup ys)):KT H' kvs xs :=
 Paired.mapP r λ_ _ z=>⟨z.1,ht _ _ z.2.1,z.2.2⟩
theorem wV(ok:HOk P w H h)(e:Rd H a u):br P w H h a u:=e.ok ok
theorem wd(ok:HOk P w H h)(e:Rd H a (.dK kvs)):kvs.length<=sizeLine/\(a==sysModules)=false/\∃vs,KV kvs vs/\h.DictOf (bb P w) a vs :=
 show br P w H h a (.dK kvs)from wV ok e
theorem dk_of(ok:HOk P w H h)(e:H a=some (.dK kvs)):kvs.length<=sizeLine/\(a==sysModules)=false/\∃vs,KV kvs vs/\h.DictOf (bb P w) a vs:=wd ok (.inl e)
theorem pr(ok:HOk P w H h)(e:H a=some (.tup (ks.map kV))):(tupleKind (bb P w)).is h ks a:=by
 obtain⟨_,its,r,o,h1,h2,⟨n,h3⟩,_⟩:=(show br P w H h a (.tup (ks.map kV))from ok a _ e)
 exact⟨o,its.toArray,n,h1,h2,h3,by simpa using jS r⟩
theorem vX(ok:HOk P w H h)(e:Rd H a (.dT kvs)):kvs.length<=sizeLine/\(a==sysModules)=false /\
  ∃xs,KT H kvs xs/\h.DictOfH (tupleKind (bb P w)) a xs:=by
 obtain⟨z,y,xs,r,o,es,ep,h1,h2,h3,h4,h5⟩:=(show br P w H h a (.dT kvs)from wV ok e)
 refine⟨z,y,xs,r,o,es,ep,h1,h2,h3,h4,λx hx=>?_,h5⟩
 have all:∀{l:List (List Key×V)}{m:List (List Key×Addr×Value)},KT H l m->∀x∈m,(tupleKind (bb P w)).is h x.1 x.2.1:=by
  intro l m q
  induction q with
  | nil=>intro x hx;exact nomatch hx
  | @cons p q ps qs hq t ih =>
   intro x hx
   rcases AA9.mp hx with e | hx
   ·subst e
    exact pr ok (by rw[<-hq.1];exact hq.2.1)
   ·exact ih x hx
 exact all r x hx
theorem dt_of(ok:HOk P w H h)(e:H a=some (.dT kvs)):kvs.length<=sizeLine/\(a==sysModules)=false /\
  ∃xs,KT H kvs xs/\h.DictOfH (tupleKind (bb P w)) a xs:=vX ok (.inl e)
def DGet(H:Hp)(a:Addr)(y:V)(r:Option V):Prop :=
 (∃kvs k,Rd H a (.dK kvs)/\y=kV k/\r=mC kvs k)\/∃kvs k b,Rd H a (.dT kvs)/\y=.ref b/\H b=some (.tup (k.map kV))/\r=mC kvs k
def DPut(H:Hp)(a:Addr)(y v:V)(H':Hp):Prop :=
 (∃kvs k,H a=some (.dK kvs)/\y=kV k/\kvs.length<sizeLine/\H'=upd H a (.dK (nq kvs k v))) \/
 ∃kvs k b,H a=some (.dT kvs)/\y=.ref b/\H b=some (.tup (k.map kV))/\kvs.length<sizeLine/\H'=upd H a (.dT (nq kvs k v))
theorem Inv.big(I:Inv X pins σ H s):sysModules<s.heap.objs.size:=by
 have h:mainGlobals<s.heap.objs.size:=(I.mod.glob.keeps I.bk).lt
 exact Nat.lt_trans (by decide) h
theorem pX(hu:A.units+1<cLine)(I:Inv X pins σ H s)(g:DGet H a y (some v))(ry:aH y u)(h:∀w' s',Inv X pins σ H s'->aH v w'->Q w' s') :
  wpAny (model X.prog X.w) A (getItem (.ref a) u) Q E s:=by
 rcases g with⟨kvs,k,e,ey,l⟩|⟨kvs,k,b,e,ey,eb,l⟩
 ·subst ey
  obtain⟨z,hd,vs,rel,dd⟩:=wd I.hok e
  obtain⟨w',hw,rw'⟩:=qD.some_of (v:=v) (o:=valueAt vs k) (by rw[l];exact rel.val k)
  exact wpAny_getItem_of (vI ry) dd.mapOf hw (h w' _ (I.tok _) rw')
 ·subst ey
  cases (show u=ABC b from ry)
  obtain⟨z,hd,xs,rel,dd⟩:=vX I.hok e
  obtain⟨w',hw,rw'⟩:=qD.some_of (v:=v) (o:=(atKey xs k).map (·.2)) (by rw[l];exact rel.val k)
  obtain⟨p,hp,hp2⟩:=ACM.mp hw
  refine wpAny_getItem_heap (tupleKind_room_in1 hu) (pr I.hok eb) dd hp ?_
  rw[hp2]
  exact h w' _ (I.tok _) rw'
theorem pV(I:Inv X pins σ H s)(mu:Mut (H a))(hs:ACu a s.heap h')(he:∃q,h'.get? a=some q)(new:br X.prog X.w (upd H a ob) h' a ob) :
  Inv X pins σ (upd H a ob) { s with heap:=h',toks:=t' } :=
 I.write (x:=a) (e:=a) mu (.inl rfl) (λb q hb z=>(hs.2 b hb).trans z) he new
theorem yR(z:kvs.length<=sizeLine)(hd:(a==sysModules)=false)(rel:KV kvs vs)(dd:h'.DictOf (bb P w) a vs) :
  br P w H' h' a (.dK kvs):=⟨z,hd,vs,rel,dd⟩
theorem pW(hu:A.units+1<cLine)(I:Inv X pins σ H s)(g:DPut H a y v H')(ry:aH y u)(rv:aH v r)(h:∀s',Inv X pins σ H' s'->Q () s') :
  wpAny (model X.prog X.w) A (setItem (.ref a) u r) Q E s:=by
 rcases g with⟨kvs,k,e,ey,l,eH⟩|⟨kvs,k,b,e,ey,eb,l,eH⟩
 ·subst ey eH
  obtain⟨z,hd,vs,rel,dd⟩:=dk_of I.hok e
  have hz:vs.length<=sizeLine:=by rw[<-rel.length];exact z
  have hl:(nq kvs k v).length<=sizeLine:=by have:=fI kvs k v;lia
  refine wpAny_setItem_pairs (hsz:=hz) (vI ry) dd λh' dd' hs=>h _ ?_
  have he:∃q,h'.get? a=some q:=let ⟨q,_,_,hq,_⟩:=dd';⟨q,hq⟩
  exact pV I (by rw[e];exact ACO) hs he (yR hl hd (rel.put k rv) dd')
 ·subst ey eH
  cases (show u=ABC b from ry)
  obtain⟨z,hd,xs,rel,dd⟩:=dt_of I.hok e
  have hz:xs.length<=sizeLine:=by rw[<-Paired.length rel];exact z
  have hl:(nq kvs k v).length<=sizeLine:=by have:=fI kvs k v;lia
  refine wpAny_setItem_heap (hsz:=hz) (tupleKind_room_in1 hu) (pr I.hok eb) dd λh' dd' hs=>h _ ?_
  obtain⟨q,es,ep,hq,h2,h3,h4,_,h5⟩:=dd'
  refine pV I (by rw[e];exact ACO) hs ⟨q,hq⟩ ⟨hl,hd,_,(rel.put k eb rv).keeps λc ys ec=>?_,q,es,ep,hq,h2,h3,h4,h5⟩
  rw[ag (oM ec e (λz=>nomatch z))]
  exact ec
def NoSl(i:Expr):Prop:=∀ov iv,subscripted i false ov iv=operate [ov,iv] (getItem ov iv)
theorem uc{prog:Program}{w:World}{A:Around}{E:Value->Shared->Prop}{s:Shared}{env:Env}{value slice:Expr}{pos:Pos}{T id:String}{Q:Value->Shared->Prop}
  (hl:typeLookup (.type T) "__getitem__" = pure (some (.builtin id))) (hs:NoSl slice)
  (h:wpAny (model prog w) A (eval value env) (λo s₁=>wpAny (model prog w) A (eval slice env) (λi s₂=>s₂.TypeIs o T/\wpAny (model prog w) A (getItem o i) Q E s₂) E s₁) E s) :
  wpAny (model prog w) A (eval (.Subscript value slice pos) env) Q E s:=by
 refine Subscript_ (AAo h (λo s₁ h₁=>AAo h₁ (λi s₂ h₂=>?_) λ_ _ x=>x) λ_ _ x=>x)
 obtain⟨hT,h₂⟩:=h₂
 unfold subscriptTail
 refine AA0 ?_
 rw[getitemInPython_of_ne hT.not_modules]
 refine AA0 (wpAny_specialOf hT hl ?_)
 have fin:wpAny (model prog w) A (subscripted slice false o i) (λr s₃=>wpAny (model prog w) A (letTemporaryGo value o r >>= λ_=>pure r) Q E s₃) E s₂:=by
  rw[hs o i]
  exact wpAny_operating (AAo h₂ (λr s₃ h₃=>AA0 (wpAny_letTemporaryGo (AAD h₃))) λ_ _ x=>x)
 first
  | exact AAD (AA0 fin)
  | exact AA0 (AAD (AA0 fin))
  | exact AA0 fin
theorem kX(I:Inv X pins σ H s)(g:DGet H a y o):s.TypeIs (.ref a) "dict":=by
 rcases g with⟨kvs,k,e,_,_⟩|⟨kvs,k,b,e,_,_,_⟩
 ·obtain⟨_,_,vs,_,dd⟩:=wd I.hok e
  exact dd.typeIs
 ·obtain⟨_,_,xs,_,dd⟩:=vX I.hok e
  exact dd.typeIs
def tDGet(td ty:TE):TE:=λσ H Q=>td σ H λx H1=>ty σ H1 λy H2=>∃a v,x=.ref a/\DGet H2 a y (some v)/\Q v H2
def sDPut(td ty tv:TE):TS:=λD σ H=>tv σ H λv H1=>td σ H1 λx H2=>ty σ H2 λy H3=>∃a H4,x=.ref a/\DPut H3 a y v H4/\D.nx σ H4
theorem uC(hu:X.A.units+1<cLine)(ho:PE X o td)(hi:PE X i ty)(hs:NoSl i):PE X (.Subscript o i pos) (tDGet td ty):=by
 intro pins s σ H Q I h
 refine uc PySem.F.slot_dict_getitem.lookup hs (thn (ho pins s σ H _ I h) ?_)
 rintro u s1 ⟨x,H1,I1,rx,q1⟩
 refine thn (hi pins s1 σ H1 _ I1 q1) ?_
 rintro iv s2 ⟨y,H2,I2,ry,a,v,ex,g,q2⟩
 subst ex
 obtain rfl:u=ABC a:=rx
 exact⟨kX I2 g,pX hu I2 g ry λw' s3 I3 rw'=>⟨v,H2,I3,rw',q2⟩⟩
theorem ux(hu:X.A.units+1<cLine)(ho:PE X o td)(hi:PE X i ty)(hv:PE X value tv)(hs:swapsWith value (some (.Subscript o i pos')) pos.line X.env=pure false) :
  PS X (.Assign [.Subscript o i pos'] value pos) (sDPut td ty tv):=by
 intro pins s σ H D I h
 refine wpAny_Assign_Subscript (thn (hv pins s σ H _ I h) λr s1 ⟨v,H1,I1,rv,q1⟩=>thn (ho pins s1 σ H1 _ I1 q1) λu s2 ⟨x,H2,I2,rx,q2⟩=>thn (hi pins s2 σ H2 _ I2 q2) ?_) hs
 rintro iv s3 ⟨y,H3,I3,ry,a,H4,ex,g,q3⟩
 subst ex
 obtain rfl:u=ABC a:=rx
 exact pW hu I3 g ry rv λs4 I4=>⟨σ,H4,I4,q3⟩
theorem sE(h:Heap)(hb:sysModules<h.objs.size):br P w H (h.push { cls:=.type "dict",data:=.dict #[] }) h.objs.size (.dK []) :=
 ⟨AAZ _,beq_eq_false_iff_ne.mpr (AAm (AAK hb)),[],.nil,Heap.DictOf.new h⟩
def wO:TE:=λ_ H Q=>∀p,H p=none->Q (.ref p) (upd H p (.dK []))
theorem rq:PE X (.Dict [] [] pos) wO:=λpins s σ H Q I h =>
 wpAny_Dict_empty ⟨.ref s.heap.objs.size,_,I.laid (a:=s.heap.objs.size) (o:=.dK []) (t':=s.toks) (λ_ _ q=>AA3 _ q) (AA8 _) (sE s.heap I.big),rfl,h _ (I.hok.fresh (AA8 _))⟩
end L2
namespace DL
open PySem
theorem db(env:Env):∀(names:List (Str×NameKind)) (acc:List (Str×Addr)),
  (∀p∈names,p.2=AAq->∃c,env.cells.lookup p.1=some c) ->
  ∃cl,(forIn (m:=Sem) names acc λ(p:Str×NameKind) (r:List (Str×Addr)) =>
    if (p.2==AAq)=true then(do let a <-cellOf env p.1;pure (ACi ((p.1,a)::r)))else pure (ACi r))=pure cl /\
   (∀z c,cl.lookup z=some c->acc.lookup z=some c\/env.cells.lookup z=some c) /\
   (∀z c,acc.lookup z=some c->∃c',cl.lookup z=some c') /\
   (∀p∈names,p.2=AAq->∃c,cl.lookup p.1=some c)
 | [],acc,_=>⟨acc,rfl,λ_ _ h=>.inl h,λz c h=>⟨c,h⟩,λ_ h=>nomatch h⟩
 | (n,k)::az,acc,hyp=>by
  by_cases hk:k=AAq
  ·subst hk
   obtain⟨c0,hc0⟩:=hyp (n,.free) AAI rfl
   obtain⟨cl,e,h1,h2,h3⟩:=db env az ((n,c0)::acc) λp hp=>hyp p (AAA _ hp)
   have ce:cellOf env n=pure c0:=by unfold cellOf;rw[hc0]
   have own:∃c',cl.lookup n=some c':=h2 n c0 (by simp[AB3])
   refine⟨cl,?_,λz c hz=>?_,λz c hz=>?_,λp hp hf=>?_⟩
   ·rw[ACj]
    simp only[beq_self_eq_true,if_true,ce,pure_bind]
    exact e
   ·rcases h1 z c hz with q | q
    ·rw[AB3]at q
     by_cases hz':(z==n)=true
     ·rw[hz']at q
      have:z=n:=by simpa using hz'
      subst this
      cases q
      exact .inr hc0
     ·have hz'':(z==n)=false:=by simpa using hz'
      rw[hz'']at q
      exact .inl q
    ·exact .inr q
   ·by_cases hz':z=n
    ·subst hz';exact own
    ·refine h2 z c ?_
     rw[AB3]
     have hz'':(z==n)=false:=by simpa using hz'
     rw[hz'']
     exact hz
   ·rcases AA9.mp hp with rfl | hp
    ·exact own
    ·exact h3 p hp hf
  ·have hb:(k==AAq)=false:=by simpa using hk
   obtain⟨cl,e,h1,h2,h3⟩:=db env az acc λp hp=>hyp p (AAA _ hp)
   refine⟨cl,?_,h1,h2,λp hp hf=>?_⟩
   ·rw[ACj]
    simp only[hb,AAU,if_false,pure_bind]
    exact e
   ·rcases AA9.mp hp with rfl | hp
    ·exact absurd hf hk
    ·exact h3 p hp hf
theorem eu(hyp:∀p∈scope.names,p.2=AAq->∃c,env.cells.lookup p.1=some c) :
  ∃cl,closureFor scope env=pure cl/\(∀z c,cl.lookup z=some c->env.cells.lookup z=some c)/\(∀p∈scope.names,p.2=AAq->∃c,cl.lookup p.1=some c):=by
 obtain⟨cl,e,h1,h2,h3⟩:=db env scope.names [] hyp
 refine⟨cl,?_,λz c hz=>?_,h3⟩
 ·unfold closureFor
  simp only[bind_pure]
  exact e
 ·rcases h1 z c hz with q | q
  ·simp at q
  ·exact q
theorem cz{env:Env}:∀{names:List (Str×NameKind)}{x:Str}{k:NameKind},
  (names.map λ(p:Str×NameKind)=>if (p.2==AAq&&env.scope.kind==.function&&env.kindOf p.1==some .cell)=true then(p.1,ABl)else(p.1,p.2)).lookup x=some k ->
   (names.lookup x=some k\/(k=ABl/\names.lookup x=some .free))
 | [],_,_,h=>by simp at h
 | (n,j)::az,x,k,h=>by
  have ih:=@cz env az x k
  rw[AAQ,AB3]at h
  by_cases hx:(x==n)=true
  ·have hl:List.lookup x ((n,j)::az)=some j:=by rw[AB3,hx]
   rw[hl]
   by_cases hc:(j==AAq&&env.scope.kind==.function&&env.kindOf n==some .cell)=true
   ·simp only[hc,if_true,hx]at h
    cases h
    have:j=AAq:=by
     simp only[AAG]at hc
     simpa using hc.1.1
    exact .inr ⟨rfl,by rw[this]⟩
   ·simp only[hc,AAU,if_false,hx]at h
    exact .inl h
  ·have hx':(x==n)=false:=by simpa using hx
   have hl:List.lookup x ((n,j)::az)=List.lookup x az:=by rw[AB3,hx']
   rw[hl]
   refine ih ?_
   by_cases hc:(j==AAq&&env.scope.kind==.function&&env.kindOf n==some .cell)=true
   ·simp only[hc,if_true,hx']at h
    exact h
   ·simp only[hc,AAU,if_false,hx']at h
    exact h
theorem gU(ifs:List Expr)(env:Env):compTests ifs env =
  (forIn ifs true λc r=>if r=true then do let ok <-isTrue c env (eval c env);pure (ACi ok)else pure (ACi r)):=by
 unfold compTests
 simp only[bind_pure]
theorem mZ(J:Nat->Shared->Prop)(ne:Value->Shared->Prop)
  (hne:∀e s',ne e s'->notedBy (model prog w) A env (λe s'=>R (.error e) s') e s')
  (turn:∀n s,J n s->wpAny (model prog w) A (pyNext it) (λr s1=>match r with
   | none=>R (.ok .next) s1
   | some v=>wpAny (model prog w) A (letOwnedTupleGo target it v) (λ_ s2=>wpAny (model prog w) A (assign target env v) (λ_ s3 =>
     wpAny (model prog w) A (compTests ifs env) (λok s4 =>
      if ok=true then wpAny (model prog w) A (eval elt env) (λy s5=>wpAny (model prog w) A (call (.builtin "list.append") [acc,y]) (λ_ s6=>∃m,m<n/\J m s6) ne s5) ne s4
      else ∃m,m<n/\J m s4) ne s3) ne s2) ne s1) ne s)
  (n:Nat) (h:J n s):codeAny (model prog w) A (.compLoop (.ListComp elt [⟨target,iter,ifs,0⟩] scope pos) 0 it acc env) R s:=by
 refine codeAny_loop rfl J (λn s hJ=>?_) n h
 show wpAny _ A ((compTurn (.ListComp elt [⟨target,iter,ifs,0⟩] scope pos) 0 it acc env).onRaise (λx=>do noteFrame x env;theTreesLotGoes x)) _ _ s
 refine wpAny_noted ?_
 rw[compTurn_list]
 refine AA0 (wpAny_standAt (AA0 (AAo (turn n s hJ) (λr s1 h1=>?_) hne)))
 cases r with
 | none=>exact AAD h1
 | some v =>
  refine AA0 (AAo h1 (λ_ s2 h2=>?_) hne)
  refine AA0 (AAo h2 (λ_ s3 h3=>?_) hne)
  rw[gU]at h3
  refine AA0 (AAo h3 (λok s4 h4=>?_) hne)
  cases ok with
  | false=>exact AAD ⟨rfl,h4⟩
  | true =>
   exact AA0 (AA0 (AAo h4 (λy s5 h5=>AA0 (AAo h5 (λ_ s6 h6=>AAD (AAD ⟨rfl,h6⟩)) hne)) hne))
end DL
namespace L2
open PySem PySem.Spec PyProof.Rows DL
theorem ef{env:Env}:∀{names:List (Str×NameKind)}{x:Str},names.lookup x=some .free ->
  ((names.map λ(p:Str×NameKind)=>if (p.2==AAq&&env.scope.kind==.function&&env.kindOf p.1==some .cell)=true then(p.1,ABl)else(p.1,p.2)).lookup x=some .cell \/
   (names.map λ(p:Str×NameKind)=>if (p.2==AAq&&env.scope.kind==.function&&env.kindOf p.1==some .cell)=true then(p.1,ABl)else(p.1,p.2)).lookup x=some .free)
 | [],_,h=>by simp at h
 | (n,j)::az,x,h=>by
  have ih:=@ef env az x
  rw[AAQ,AB3]
  rw[AB3]at h
  by_cases hc:(j==AAq&&env.scope.kind==.function&&env.kindOf n==some .cell)=true
  ·by_cases hx:(x==n)=true
   ·simp[hc,hx]
   ·have hx':(x==n)=false:=by simpa using hx
    rw[hx']at h
    simp only[hc,if_true,hx']
    exact ih h
  ·by_cases hx:(x==n)=true
   ·rw[hx]at h
    cases h
    right
    simp only[hc,AAU,if_false,hx]
   ·have hx':(x==n)=false:=by simpa using hx
    rw[hx']at h
    simp only[hc,AAU,if_false,hx']
    exact ih h
noncomputable def blk(X:Cx)(N':List Str)(scope:Scope)(cl:List (Str×Addr))(s₀:Shared)(H₀:Hp)(ex:List Addr):Cx :=
 { X with N:=N',s₀:=s₀,H₀:=H₀,env:=compEnvC scope cl s₀.heap.objs.size X.env,outer:=X.stack,ex:=ex,fn:=λx=>scope.names.lookup x==some .cell,pn:=[],xe:=λ_ _=>False }
structure BlkSc(X:Cx)(N':List Str)(nt:Nat)(js:List Nat)(scope:Scope):Prop where
 kind:scope.kind=.function
 nocell:∀y∈scope.names,y.2≠.cell
 loc:∀y∈scope.names,y.2=.local->scope.names.lookup y.1=some .local
 free:∀y∈scope.names,y.2=.free->(X.env.kindOf y.1=some .cell\/X.env.kindOf y.1=some .free)
 len:N'.length=nt+js.length
 fr:∀(k j:Nat),js[k]?=some j->∃x,N'[nt+k]?=some x/\X.N[j]?=some x/\scope.names.lookup x=some .free/\(X.env.kindOf x=some .cell\/X.env.kindOf x=some .free)
noncomputable def bst(nt:Nat)(js:List Nat)(σ:St):St:=ABa nt none++js.map λj=>(σ[j]?).join
theorem qr(nt:Nat)(js:List Nat)(σ:St):(bst nt js σ).length=nt+js.length:=by simp[bst]
theorem wq(h:(bst nt js σ)[i]?=some (some v)):∃k j,i=nt+k/\js[k]?=some j/\σ[j]?=some (some v):=by
 unfold bst at h
 by_cases hi:i<nt
 ·rw[AAC (by simpa using hi),ABk]at h
  simp[hi]at h
 ·rw[AAR (by simpa using Nat.not_lt.mp hi),ABs,AAP]at h
  cases e:js[i-nt]? with
  | none=>rw[e]at h;cases h
  | some j =>
   rw[e]at h
   refine⟨i-nt,j,by lia,e,?_⟩
   have h':(σ[j]?).join=some v:=by simpa using h
   cases q:σ[j]? with
   | none=>rw[q]at h';cases h'
   | some o=>rw[q]at h';exact congrArg some h'
def PTs(X:Cx)(ifs:List Expr)(t:TT):Prop :=
 ∀(pins:List (Addr×Obj)) (s:Shared) (σ:St) (H:Hp) (Q:Bool->Hp->Prop),Inv X pins σ H s->t σ H Q->wpAny (model X.prog X.w) X.A (compTests ifs X.env) (TP X pins σ Q) X.xe s
def ttNil:TT:=λ_ H Q=>Q true H
theorem ur:PTs X [] ttNil:=λpins s σ H Q I h=>by
 rw[gU]
 exact wpAny_tests_nil ⟨H,I,h⟩
theorem uq(h:PT X c t):PTs X [c] t:=λpins s σ H Q I hq=>by
 rw[gU]
 exact wpAny_tests_one (h pins s σ H Q I hq)
def tLC(nt:Nat)(js:List Nat)(wi:TI)(g:TG)(tt:TT)(te:TE):TE:=λσ H Q=>wi σ H λJ H1=>∃W:Nat->Nat->List V->St->Hp->Prop,(∃m,W 0 m [] (bst nt js σ) H1) /\
 ∀i m vs τ H,W i m vs τ H->(J.stop i H/\∀p,H p=none->Q (.ref p) (upd H p (.lst vs))) \/
  (J.go i H/\∀x H',J.yld i H x H'->g x τ H' λτ2 H2=>tt τ2 H2 λb H3=>if b=true then te τ2 H3 λy H4=>vs.length<sizeLine/\∃m',m' < m/\W (i+1) m' (vs++[y]) τ2 H4 else ∃m',m' < m/\W (i+1) m' vs τ2 H3)
noncomputable abbrev bz(its:List Value)(k:Nat):Obj:={ cls:=.type "list",data:=.seq its.toArray k }
structure TurnX(X:Cx)(tg:Expr)(J:It)(fp:List Addr)(it:Addr)(tn:Nat->Heap->Prop):Prop where
 item:∀(i:Nat) (pins:List (Addr×Obj)) (s:Shared) (σ:St) (H:Hp) (E:Value->Shared->Prop),Inv X pins σ H s->(∀b∈fp,iO X pins H b)->tn i s.heap->J.go i H ->
  wpAny (model X.prog X.w) X.A (pyNext (.ref it)) (λr s1=>∃u,r=some u /\
   wpAny (model X.prog X.w) X.A (letOwnedTupleGo tg (.ref it) u) (λ_ s2=>∃x H',Inv X pins σ H' s2/\aH x u/\J.yld i H x H'/\tn (i+1) s2.heap/\∀b∈fp,H' b=none) E s1) E s
 done:∀(i:Nat) (pins:List (Addr×Obj)) (s:Shared) (σ:St) (H:Hp) (E:Value->Shared->Prop),Inv X pins σ H s->(∀b∈fp,iO X pins H b)->tn i s.heap->J.stop i H ->
  wpAny (model X.prog X.w) X.A (pyNext (.ref it)) (λr s1=>r=none/\Inv X pins σ H s1) E s
theorem Turn.at(T:Turn X.prog X.w X.K tg J fp it tn)(hc:X.calm=true):TurnX X tg J fp it tn:=⟨T.item X rfl rfl rfl hc,T.done X rfl rfl rfl hc⟩
theorem Inv.blkOk(B:BlkSc X N' nt js scope)(I:Inv X pins σ H s)
  (hcl1:∀z c,cl.lookup z=some c->X.env.cells.lookup z=some c) (hcl2:∀p∈scope.names,p.2=AAq->∃c,cl.lookup p.1=some c) (hf:∀b∈fp,iO X pins H b) (hfs:∀b∈fp,b<s.heap.objs.size) :
  (blk X N' scope cl { s with heap:=s.heap.push ob } H (s.heap.objs.size::fp)).Ok:=by
 have J:Inv X pins σ H { s with heap:=s.heap.push ob }:=I.kept (t':=s.toks) λb o e=>AA3 _ e
 have ltc:∀z c,cl.lookup z=some c->c<s.heap.objs.size:=λz c e=>by
  obtain⟨v,q⟩:=I.cell z c (hcl1 z c e)
  exact q.lt
 have hC:(s.heap.push ob).objs.size=s.heap.objs.size+1:=AB7 ..
 refine⟨I.ok.mod,B.kind,I.ok.glob,I.ok.blt,AA8 _,λy z c h1 h2=>I.ok.inj y z c (hcl1 y c h1) (hcl1 z c h2),λy hy=>?_,λy c h=>?_,I.ok.hd,I.ok.frames,.inl rfl,λb hb=>?_,λb o e=>?_,?_,λb o e hb=>?_,λb hb=>?_,J.stack,I.stkFree⟩
 ·have key:scope.names.lookup y=some .free:=by
   rcases hy with hy | hy
   ·rcases cz (env:=X.env) (names:=scope.names) (x:=y) (k:=.cell) hy with q | ⟨_,q⟩
    ·exact absurd rfl (B.nocell _ (AAx q))
    ·exact q
   ·rcases cz (env:=X.env) (names:=scope.names) (x:=y) (k:=.free) hy with q | ⟨q,_⟩
    ·exact q
    ·cases q
  exact hcl2 (y,.free) (AAx key) rfl
 ·exact absurd rfl (B.nocell _ (AAx (beq_iff_eq.mp (show (scope.names.lookup y==some ABl)=true from h))))
 ·show b≠(s.heap.push ob).objs.size/\∀x c,cl.lookup x=some c->c≠b
  rw[hC]
  rcases AA9.mp hb with rfl | hb
  ·exact⟨AAK (AC7 _),λx c e=>AAK (ltc x c e)⟩
  ·exact⟨AAK (ABP (hfs b hb)),λx c e=>(hf b hb).2.2.2.2.1 x c (hcl1 x c e)⟩
 ·exact⟨AA3 _ (I.bs b o e).1,(I.bs b o e).2⟩
 ·show X.base.objs.size<=(s.heap.push ob).objs.size
  rw[hC]
  exact Nat.le_succ_of_le (AAn I.ok.bsz I.sz)
 ·rcases AA9.mp hb with rfl | hb
  ·exact absurd (AAB (I.bs _ o e).1) (AAh _)
  ·rcases(hf b hb).2.2.2.1 with z | z
   ·exact I.ok.noex b o e z
   ·exact absurd (AAF (AAB (I.ok.bs b o e).1) z) (AAh _)
 ·intro hz
  have hz':=I.stkSub b hz
  rcases AA9.mp hb with rfl | hb
  ·rcases AA9.mp hz' with q | q
   ·exact absurd I.lt (by rw[<-q];exact AAh _)
   ·exact I.nofs (AA8 _) q
  ·rcases AA9.mp hz' with q | q
   ·exact(hf b hb).2.1 q
   ·exact(hf b hb).2.2.1 q
theorem Inv.blkStart(B:BlkSc X N' nt js scope)(I:Inv X pins σ H s)
  (hcl1:∀z c,cl.lookup z=some c->X.env.cells.lookup z=some c) (hcl2:∀p∈scope.names,p.2=AAq->∃c,cl.lookup p.1=some c) (hf:∀b∈fp,iO X pins H b) (hfs:∀b∈fp,b<s.heap.objs.size)
  (old:∀b o,(s.heap.push (bz [] 0)).get? b=some o->h1.get? b=some o) (hn:h1.Ns (s.heap.push (bz [] 0)).objs.size mm) :
  Inv (blk X N' scope cl { s with heap:=s.heap.push (bz [] 0) } H (s.heap.objs.size::fp)) [(s.heap.objs.size,bz [] 0)] (bst nt js σ) H { s with heap:=h1,toks:=tk }:=by
 have old2:∀b o,s.heap.get? b=some o->h1.get? b=some o:=λb o e=>old b o (AA3 _ e)
 have hC:(s.heap.push (bz [] 0)).objs.size=s.heap.objs.size+1:=AB7 ..
 refine⟨I.blkOk B hcl1 hcl2 hf hfs,rfl,I.bare,Un.kept old,⟨mm,hn,λi x v e1 e2 e3=>?_⟩,λx c e=>?_,?_,λx c e=>I.freeC x c (hcl1 x c e),λp hp=>?_,I.hok.kept old2,?_⟩
 ·obtain⟨k,j,rfl,hj,hσ⟩:=wq e2
  obtain⟨x',n1,n2,lf,kf⟩:=B.fr k j hj
  have ex:x=x':=AAN (e1.symm.trans n1)
  subst ex
  obtain⟨m2,hn2,hl2⟩:=I.loc
  have vis:Vis X.env.scope x:=kf.elim (λz=>.inr (.inl z)) λz=>.inr (.inr z)
  obtain⟨u,r,look⟩:=hl2 j x v n2 hσ vis
  refine⟨u,r,?_⟩
  rcases look with⟨q,_⟩|⟨q,c,hc,hcell⟩
  ·rcases kf with z | z<;>(rw[q]at z;cases z)
  ·obtain⟨c',hc'⟩:=hcl2 (x,.free) (AAx lf) rfl
   have:c'=c:=AAN ((hcl1 x c' hc').symm.trans hc)
   subst this
   exact .inr ⟨ef (env:=X.env) lf,c',hc',hcell.keeps old2⟩
 ·obtain⟨v,q⟩:=I.cell x c (hcl1 x c e)
  exact⟨v,q.keeps old2⟩
 ·exact I.hok.fresh (by show s.heap.objs.size<=(s.heap.push (bz [] 0)).objs.size;rw[hC];exact Nat.le_succ _)
 ·have e:p=(s.heap.objs.size,bz [] 0):=by simpa [blk]using hp
  subst e
  refine⟨old _ _ (AAH _ rfl),I.hok.fresh (AA8 _),?_,?_,λv z=>by cases z⟩
  ·show s.heap.objs.size≠(s.heap.push (bz [] 0)).objs.size
   rw[hC]
   exact AAK (AC7 _)
  ·intro hz
   rcases AA9.mp (I.stkSub _ hz)with q | q
   ·exact absurd I.lt (by rw[<-q];exact AAh _)
   ·exact I.nofs (AA8 _) q
 ·rw[qr]
  exact B.len.symm
theorem Inv.blkEnd(I:Inv X pins σ H s)
  (hf:∀b∈fp,iO X pins H b)
  (I4:Inv (blk X N' scope cl { s with heap:=s.heap.push (bz [] 0) } H (s.heap.objs.size::fp)) [(s.heap.objs.size,bz its k)] τ H' s')
  (rv:aq vs its) (hl:vs.length<=sizeLine) (sb:ACu (s.heap.push (bz [] 0)).objs.size s'.heap h') :
  Inv X pins σ (upd H' s.heap.objs.size (.lst vs)) { s' with heap:=h' }:=by
 have hC:(s.heap.push (bz [] 0)).objs.size=s.heap.objs.size+1:=AB7 ..
 have hDC:s.heap.objs.size≠(s.heap.push (bz [] 0)).objs.size:=by rw[hC];exact AAK (AC7 _)
 obtain⟨oD,fD,_⟩:=I4.pin (s.heap.objs.size,bz its k) (by simp[blk])
 have oD':s'.heap.get? s.heap.objs.size=some (bz its k):=oD
 have fD':H' s.heap.objs.size=none:=fD
 have fC:H' (s.heap.push (bz [] 0)).objs.size=none:=I4.free
 have u:Un (frs X.stack) (s.heap.objs.size::fp) H H' (s.heap.push (bz [] 0)) s'.heap:=I4.base
 have ne:∀b o,s.heap.get? b=some o->b≠s.heap.objs.size/\b≠(s.heap.push (bz [] 0)).objs.size:=λb o e=>by
  have:=AAB e
  exact⟨AAK this,by rw[hC];exact AAK (ABP this)⟩
 have up:∀b o,s.heap.get? b=some o->(s.heap.push (bz [] 0)).get? b=some o:=λb o e=>AA3 _ e
 have nx:∀b o,s.heap.get? b=some o->b∉fp->b∉s.heap.objs.size::fp:=λb o e hx hz=>by
  rcases AA9.mp hz with q | q
  ·exact(ne b o e).1 q
  ·exact hx q
 refine I.call' (s':={ s' with heap:=h' }) (ch:=fp) I4.os ⟨λb o e n hb hx=>?_,λb o e n hb hx=>?_,λb o e n hx=>?_,λb o e hx=>?_,λb xs e=>?_,λb o w e=>?_,λb ps e=>?_⟩ (λb w q=>?_) I4.bare λb hb=>?_
 ·exact(sb.2 b (ne b o e).2).trans (u.keep b o (up b o e) n hb (nx b o e hx))
 ·obtain⟨sl,z⟩:=u.slot b o (up b o e) n hb (nx b o e hx)
  exact⟨sl,(sb.2 b (ne b o e).2).trans z⟩
 ·rw[ag (ne b o e).1]
  exact u.free b o (up b o e) n (nx b o e hx)
 ·obtain⟨o',z⟩:=u.there b o (up b o e) (nx b o e hx)
  exact⟨o',(sb.2 b (ne b o e).2).trans z⟩
 ·have z:=u.tups b xs e
  rw[ag (ac z fD')]
  exact z
 ·have z:=u.frzs b o w e
  rw[ag (ac z fD')]
  exact z
 ·obtain⟨more,z⟩:=u.tbls b ps e
  exact⟨more,by rw[ag (ac z fD')];exact z⟩
 ·by_cases hb:b=s.heap.objs.size
  ·subst hb
   rw[aL]at q
   cases q
   exact⟨hl,its,k,rv,(sb.2 _ hDC).trans oD'⟩
  ·rw[ag hb]at q
   refine(I4.hok b w q).stay (λc v hc r=>(sb.2 c ?_).trans r) (λc z=>by rw[ag (ac z fD')];exact z) λc xs z=>by rw[ag (ac z fD')];exact z
   rcases hc with rfl | hc
   ·exact ac q fC
   ·exact ac hc fC
 ·obtain⟨_,f1,_,f3,f4,f5⟩:=hf b hb
  exact⟨f3,f1,f4,f5⟩
theorem pc{elt tg iter:Expr}{ifs:List Expr}{scope:Scope}{pos:Pos}{N':List Str}{cl:List (Str×Addr)}{J:It}{fp:List Addr}{it:Addr}{tn:Nat->Heap->Prop}{g:TG}{tt:TT}{te:TE}{Q:VK}
  {W:Nat->Nat->List V->St->Hp->Prop}{R:Result->Shared->Prop}{s0:Shared}{H0:Hp}{D:Addr} (TX:TurnX (blk X N' scope cl s0 H0 (D::fp)) tg J fp it tn)
  (hg:PG (blk X N' scope cl s0 H0 (D::fp)) tg g) (ht:PTs (blk X N' scope cl s0 H0 (D::fp)) ifs tt) (he:PE (blk X N' scope cl s0 H0 (D::fp)) elt te)
  (T:Turn X.prog X.w X.K tg J fp it tn) (hDf:D∉fp)
  (turn:∀i m vs τ H,W i m vs τ H->(J.stop i H/\∀p,H p=none->Q (.ref p) (upd H p (.lst vs))) \/
   (J.go i H/\∀x H',J.yld i H x H'->g x τ H' λτ2 H2=>tt τ2 H2 λb H3=>if b=true then te τ2 H3 λy H4=>vs.length<sizeLine/\∃m',m' < m/\W (i+1) m' (vs++[y]) τ2 H4 else ∃m',m' < m/\W (i+1) m' vs τ2 H3))
  (hstat:∀b∈fp,b≠s0.heap.objs.size/\b∉frs X.stack/\∀x c,cl.lookup x=some c->c≠b) (hDC:D≠s0.heap.objs.size) (hDs:D∉frs X.stack) (hDc:∀x c,cl.lookup x=some c->c≠D)
  (fin:∀τ H' s' vs its k,Inv (blk X N' scope cl s0 H0 (D::fp)) [(D,bz its k)] τ H' s'->aq vs its->vs.length<=sizeLine->Q (.ref D) (upd H' D (.lst vs))->R (.ok .next) s')
  (m0:Nat) {τ0:St}{s3:Shared}{H3:Hp} (I3:Inv (blk X N' scope cl s0 H0 (D::fp)) [(D,bz [] 0)] τ0 H3 s3) (st3:tn 0 s3.heap) (fr3:∀b∈fp,H3 b=none) (w0:W 0 m0 [] τ0 H3) :
  codeAny (model X.prog X.w) X.A (.compLoop (.ListComp elt [⟨tg,iter,ifs,0⟩] scope pos) 0 (.ref it) (.ref D) (compEnvC scope cl s0.heap.objs.size X.env)) R s3:=by
 have fok:∀{ob:Obj}{H':Hp},(∀b∈fp,H' b=none)->∀b∈fp,iO (blk X N' scope cl s0 H0 (D::fp)) [(D,ob)] H' b:=λ{ob H'} hn b hb=>by
  obtain⟨a1,a2,a3⟩:=hstat b hb
  refine⟨hn b hb,a1,a2,.inl (AAA _ hb),a3,λp hp z=>?_⟩
  have e:p=(D,ob):=by simpa [blk]using hp
  subst e
  exact hDf (by rw[show D=b from z];exact hb)
 refine mZ (λn s'=>∃i τ H' vs its k,Inv (blk X N' scope cl s0 H0 (D::fp)) [(D,bz its k)] τ H' s'/\tn i s'.heap/\(∀b∈fp,H' b=none)/\aq vs its/\vs.length<=sizeLine/\W i n vs τ H')
  (λ_ _=>False) (λ_ _ z=>z.elim) ?_ m0 ⟨0,τ0,H3,[],[],0,I3,st3,fr3,.nil,AAZ _,w0⟩
 rintro n s' ⟨i,τ,H',vs,its,k,I',st',fr',rv,hl,w'⟩
 rcases turn i n vs τ H' w' with⟨stop,q⟩|⟨go,step⟩
 ·refine thn (TX.done i _ s' τ H' (λ_ _=>False) I' (fok fr') st' stop) ?_
  rintro r s4 ⟨hr,I4⟩
  subst hr
  exact fin τ H' s4 vs its k I4 rv hl (q D (I'.pin (D,bz its k) (by simp[blk])).2.1)
 ·refine thn (TX.item i _ s' τ H' (λ_ _=>False) I' (fok fr') st' go) ?_
  rintro r s4 ⟨u,hr,h4⟩
  subst hr
  refine thn h4 ?_
  rintro _ s5 ⟨x,H5,I5,r5,y5,st5,fr5⟩
  have I5':=I5.pinned (fok fr5) (T.obj _ _ st5)
  refine thn (hg _ s5 τ H5 x u _ I5' r5 (step x H5 y5)) ?_
  rintro _ s6 ⟨τ6,H6,I6,q6⟩
  refine thn (ht _ s6 τ6 H6 _ I6 q6) ?_
  rintro ok s7 ⟨H7,I7,q7⟩
  have memF:∀{b:Addr}{o:Obj},b∈fp->s5.heap.get? b=some o->(b,o)∈(blk X N' scope cl s0 H0 (D::fp)).pn++([(D,bz its k)]++dv fp s5.heap):=λhb e=>AAO _ (AAO _ (cG hb e))
  cases ok with
  | false =>
   obtain⟨m',hm,w7⟩:=(show ∃m',m' < n/\W (i+1) m' vs τ6 H7 from q7)
   refine⟨m',hm,i+1,τ6,H7,vs,its,k,I7.unpinned,T.keep _ _ _ st5 λb hb o e=>(I7.pin (b,o) (memF hb e)).1,λb hb=>?_,rv,hl,w7⟩
   obtain⟨o,e,_⟩:=T.obj _ _ st5 b hb
   exact(I7.pin (b,o) (memF hb e)).2.1
  | true =>
   refine thn (he _ s7 τ6 H7 _ I7 q7) ?_
   rintro yv s8 ⟨y,H8,I8,r8,q8⟩
   obtain⟨hsz,m',hm,w8⟩:=q8
   obtain⟨oD,fD,_⟩:=I8.pin (D,bz its k) (AAO _ (AC0 _ (by simp)))
   have fD':H8 D=none:=fD
   refine append_at (its:=its.toArray) (n:=k) oD (λh9 sb9 o9=>?_) (by rw[AA7,<-rv.length];exact hl)
   have J8:Inv (blk X N' scope cl s0 H0 (D::fp)) (dv fp s5.heap) τ6 H8 s8:=I8.pins_of λp hp=>I8.pin p (AAO _ (AAO _ hp))
   have J9:Inv (blk X N' scope cl s0 H0 (D::fp)) (dv fp s5.heap) τ6 H8 { s8 with heap:=h9 }:=J8.turned (t':=s8.toks) (it:=D) (λb o hb e=>(sb9.2 b hb).trans e) fD' hDC (.inl AAI) hDc λp hp z=>by
    have hp':p∈dv fp s5.heap:=by simpa [blk]using hp
    exact hDf (by rw[<-z];exact(jI hp').1)
   have memG:∀{b:Addr}{o:Obj},b∈fp->s5.heap.get? b=some o->(b,o)∈(blk X N' scope cl s0 H0 (D::fp)).pn++dv fp s5.heap:=λhb e=>AAO _ (cG hb e)
   refine⟨m',hm,i+1,τ6,H8,vs++[y],its++[yv],k+1,J9.pins_of λp hp=>?_,T.keep _ _ _ st5 λb hb o e=>(J9.pin (b,o) (memG hb e)).1,λb hb=>?_,rv.append (.cons r8 .nil),?_,w8⟩
   ·have e:p=(D,bz (its++[yv]) (k+1)):=by simpa using hp
    subst e
    refine⟨?_,fD',hDC,hDs,λv z=>by cases z⟩
    rw[show bz (its++[yv]) (k+1)=({ cls:=.type "list",data:=.seq (its.toArray.push yv) (k+1) }:Obj) by rw[List.push_toArray]]
    exact o9
   ·obtain⟨o,e,_⟩:=T.obj _ _ st5 b hb
    exact(J9.pin (b,o) (memG hb e)).2.1
   ·rw[AAL]
    exact hsz
def PIG(X:Cx)(PP:It->List Addr->Addr->(Nat->Heap->Prop)->Prop)(iter:Expr)(wi:TI):Prop :=
 ∀(pins:List (Addr×Obj)) (s:Shared) (σ:St) (H:Hp) (R:It->Hp->Prop),Inv X pins σ H s->wi σ H R ->
  wpAny (model X.prog X.w) X.A (eval iter X.env) (λv s1=>wpAny (model X.prog X.w) X.A (pyIter v) (λitv s2=>∃it fp tn J H',itv=.ref it/\Inv X pins σ H' s2/\PP J fp it tn/\tn 0 s2.heap/\(∀b∈fp,iO X pins H' b)/\R J H') X.xe s1) X.xe s
theorem tf(B:BlkSc X N' nt js scope)(hc:∀J fp it tn,PP J fp it tn->Turn X.prog X.w X.K tg J fp it tn/\∀pins σ H s cl s0 ex,Inv X pins σ H s->TurnX (blk X N' scope cl s0 H ex) tg J fp it tn)(hi:PIG X PP iter wi)
  (hg:∀cl s0 H0 ex,PG (blk X N' scope cl s0 H0 ex) tg g) (ht:∀cl s0 H0 ex,PTs (blk X N' scope cl s0 H0 ex) ifs tt) (he:∀cl s0 H0 ex,PE (blk X N' scope cl s0 H0 ex) elt te)
  (hs:∀x,foldedSetIterable iter X.env x=pure x:=by intro _;rfl):PE X (.ListComp elt [⟨tg,iter,ifs,0⟩] scope pos) (tLC nt js wi g tt te):=by
 intro pins s σ H Q I h
 rw[eval_ListComp]
 obtain⟨cl,ecl,hcl1,hcl2⟩:=eu (scope:=scope) (env:=X.env) λp hp hf=>I.ok.has p.1 (B.free p hp hf)
 refine wpAny_comprehension_free (use:=none) rfl hs ecl B.kind B.loc ?_
 refine thn (hi pins s σ H _ I h) λv s1 h1=>thn h1 λitv s2 h2=>?_
 obtain⟨it,fp,tn,J,H2,e,I2,T,st2,f2,W,⟨m0,w0⟩,turn⟩:=h2
 obtain⟨T,TX⟩:=hc _ _ _ _ T
 subst e
 refine AAs (wpAny_newFunctionEnv B.nocell (by intro y hy;simp at hy) (λh1 hns1 hsb1=>?_) B.kind)
 have hfs:∀b∈fp,b<s2.heap.objs.size:=λb hb=>by
  obtain⟨o,e,_⟩:=T.obj _ _ st2 b hb
  exact AAB e
 have hC:(s2.heap.push (bz [] 0)).objs.size=s2.heap.objs.size+1:=AB7 ..
 have old:∀b o,(s2.heap.push (bz [] 0)).get? b=some o->h1.get? b=some o:=λb o e=>(hsb1.2 b (AAK (AAB e))).trans (AA3 _ e)
 have I3:=I2.blkStart (tk:=s2.toks+([]:List (Str×Value)).length) B hcl1 hcl2 f2 hfs old hns1
 have st3:tn 0 h1:=T.keep _ _ _ st2 λb _ o e=>old b o (AA3 _ e)
 have hDf:s2.heap.objs.size∉fp:=λz=>AAh _ (hfs _ z)
 have hDs:s2.heap.objs.size∉frs X.stack:=λz=>by
  rcases AA9.mp (I2.stkSub _ z)with q | q
  ·exact absurd I2.lt (by rw[<-q];exact AAh _)
  ·exact I2.nofs (AA8 _) q
 have hDC:s2.heap.objs.size≠(s2.heap.push (bz [] 0)).objs.size:=by rw[hC];exact AAK (AC7 _)
 have ltc:∀z c,cl.lookup z=some c->c<s2.heap.objs.size:=λz c e=>by
  obtain⟨v,q⟩:=I2.cell z c (hcl1 z c e)
  exact q.lt
 have hstat:∀b∈fp,b≠(s2.heap.push (bz [] 0)).objs.size/\b∉frs X.stack/\∀x c,cl.lookup x=some c->c≠b:=λb hb=>by
  refine⟨by rw[hC];exact AAK (ABP (hfs b hb)),λz=>?_,λx c e=>(f2 b hb).2.2.2.2.1 x c (hcl1 x c e)⟩
  rcases AA9.mp (I2.stkSub b z)with q | q
  ·exact(f2 b hb).2.1 q
  ·exact(f2 b hb).2.2.1 q
 have loop:codeAny (model X.prog X.w) X.A (.compLoop (.ListComp elt [⟨tg,iter,ifs,0⟩] scope pos) 0 (.ref it) (.ref s2.heap.objs.size) (compEnvC scope cl (s2.heap.push (bz [] 0)).objs.size X.env))
   (compPost (model X.prog X.w) X.A X.xe none (EP X pins σ Q) (.ref s2.heap.objs.size) (s2.heap.push (bz [] 0)).objs.size) { s2 with heap:=h1,toks:=s2.toks+([]:List (Str×Value)).length }:=by
  refine pc (s0:={ s2 with heap:=s2.heap.push (bz [] 0) }) (H0:=H2) (N':=N') (Q:=Q) (TX _ _ _ _ _ _ _ I2) (hg _ _ _ _) (ht _ _ _ _) (he _ _ _ _) T hDf turn hstat hDC hDs (λx c e=>AAK (ltc x c e)) ?_ m0 I3 st3 (λb hb=>(f2 b hb).1) w0
  intro τ H' s' vs its k I4 rv hl q
  obtain⟨mm,hn,_⟩:=id I4.loc
  exact⟨mm,hn,λh' sb=>⟨.ref s2.heap.objs.size,_,I2.blkEnd f2 I4 rv hl sb,rfl,q⟩⟩
 exact codeAny_compStart_list loop (T.self _ 0 _ _ _ st3 loop)
theorem pe_lc{elt tg iter:Expr}{ifs:List Expr}{scope:Scope}{pos:Pos}{N':List Str}{nt:Nat}{js:List Nat}{wi:TI}{g:TG}{tt:TT}{te:TE}(B:BlkSc X N' nt js scope)(hc:X.calm=true)(hi:PI X tg iter wi)
  (hg:∀cl s0 H0 ex,PG (blk X N' scope cl s0 H0 ex) tg g) (ht:∀cl s0 H0 ex,PTs (blk X N' scope cl s0 H0 ex) ifs tt) (he:∀cl s0 H0 ex,PE (blk X N' scope cl s0 H0 ex) elt te)
  (hs:∀x,foldedSetIterable iter X.env x=pure x:=by intro _;rfl):PE X (.ListComp elt [⟨tg,iter,ifs,0⟩] scope pos) (tLC nt js wi g tt te) :=
 tf B (λJ fp it tn (T:Turn X.prog X.w X.K tg J fp it tn)=>⟨T,λ_ _ _ _ cl s0 ex _=>Turn.at T hc⟩)
  (λpins s σ H R I q=>thn (hi pins s σ H R I q) λv s1 h1=>thn h1 λitv s2 ⟨it,fp,tn,J,H',f0,f1,f2,f3,f4,f5⟩=>⟨it,fp,tn,J,H',f0,f1,f2,f3,f4,f5⟩) hg ht he hs
section
inductive D where
 | non | bl (b:Bool) | int (i:Int) | str (x:Str) | ty (n:String) | tup (ds:List D) | ref (n:Nat)
inductive MO where
 | lst (xs:List D)
 | fz (xs:List D)
 | kl (xs:List D)
 | dct (kvs:List (Str×D))
 | dkt (kvs:List (D×D))
 | dkq (e:Nat) (kvs:List (D×D))
 | dkm (kvs:List (D×D))
 | fdc (o:Obj) (kvs:List (Str×D))
 | tb (x:Str) (b:Bool)
 | exc (x:Str) (e:Addr)
noncomputable abbrev Mem:=List MO
noncomputable def MO.isL:MO->Bool
 | .dct _=>false
 | .dkt _=>false
 | .dkq _ _=>false
 | .fdc _ _=>false
 | .dkm _=>false
 | .tb _ _=>false
 | .exc _ _=>false
 | _=>true
noncomputable def fW(ks:List Str)(vs:List V):List (Key×V):=(ks.zip vs).map λp=>(ABG p.1,p.2)
mutual
inductive Rep(K:AA)(ρ:List Addr)(H:Hp):D->V->Prop
 | non:Rep K ρ H .non .non
 | bl (b:Bool):Rep K ρ H (.bl b) (.bl b)
 | int (i:Int):Rep K ρ H (.int i) (.int i)
 | str (x:Str):Rep K ρ H (.str x) (.str x)
 | ty (n:String):Rep K ρ H (.ty n) (.ty n)
 | tup {a:Addr}{vs:List V}{ds:List D} (h:SqT K H a vs) (r:Reps K ρ H ds vs):Rep K ρ H (.tup ds) (.ref a)
 | ref {n:Nat}{a:Addr} (h:ρ[n]?=some a):Rep K ρ H (.ref n) (.ref a)
inductive Reps(K:AA)(ρ:List Addr)(H:Hp):List D->List V->Prop
 | nil:Reps K ρ H [] []
 | cons {d:D}{v:V}{ds:List D}{vs:List V} (h:Rep K ρ H d v) (t:Reps K ρ H ds vs):Reps K ρ H (d::ds) (v::vs)
end
def KList(K:AA)(a:Addr)(xs:List V):Prop :=
 ∃(o:Obj) (its:Array Value) (n:Nat),K.lookup a=some o/\o.cls=.type "list"/\o.dict=none/\o.data=.seq its n/\its.size<=sizeLine/\aq xs its.toList
noncomputable def wz:Nat->D->Bool
 | _,.str _=>true
 | _,.int _=>true
 | n+1,.tup ds=>ds.all (wz n)
 | _,_=>false
noncomputable def hkD(w:World):Nat->D->Int
 | _,.str x=>hashStr w x
 | _,.int i=>hashInt i
 | n+1,.tup ds=>reduceHash (Builtin.Tuple.tupleHashOf (ds.map (hkD w n)))
 | _,_=>0
def dX(a:Addr)(xs:List (D×Addr×Value)):Program->World->Heap->Prop:=λ_ w h =>
 ∃(o:Obj) (es:Array DictEntry),h.get? a=some o/\o.ExactDict/\o.data=.dict es xs.length/\es.toList=xs.map λx=>⟨hkD w 8 x.1,.ref x.2.1,x.2.2⟩
def dQ(a:Addr)(e:Nat)(xs:List (D×Addr×Value)):Program->World->Heap->Prop:=λ_ w h =>
 ∃(o:Obj) (es:Array DictEntry),h.get? a=some o/\o.ExactDict/\o.data=.dict es e/\es.toList=xs.map λx=>⟨hkD w 8 x.1,.ref x.2.1,x.2.2⟩
noncomputable def keyM:D->Bool
 | .non=>true
 | .tup ks=>wz 8 (.tup ks)
 | _=>false
noncomputable def hkM(w:World):D->Int
 | .non=>reduceHash 0xFCA86420
 | d=>hkD w 8 d
noncomputable def entM(hs:D->Int)(x:D×Value×Value):DictEntry:=⟨hs x.1,x.2.1,x.2.2⟩
def dM(a:Addr)(xs:List (D×Value×Value)):Program->World->Heap->Prop:=λ_ w h =>
 ∃(o:Obj) (es:Array DictEntry),h.get? a=some o/\o.ExactDict/\o.data=.dict es xs.length/\es.toList=xs.map (entM (hkM w))
def KvM(K:AA)(ρ:List Addr)(H:Hp)(p:D×D)(q:D×Value×Value):Prop:=p.1=q.1/\keyM p.1=true/\(∃u,Rep K ρ H p.1 u/\aH u q.2.1)/\∃v,Rep K ρ H p.2 v/\aH v q.2.2
def wD(K:AA)(ρ:List Addr)(H:Hp)(p:D×D)(q:D×Addr×Value):Prop:=p.1=q.1/\wz 8 p.1=true/\Rep K ρ H p.1 (.ref q.2.1)/\∃v,Rep K ρ H p.2 v/\aH v q.2.2
def IsX(o:Obj)(C:Value):Prop:=o.cls=C/\∃vs,o.data=.fields vs/\vs[2]?=some .none
def nz(K:AA)(ρ:List Addr)(H:Hp)(a:Addr):MO->Prop
 | .lst ds=>∃vs,H a=some (.lst vs)/\Reps K ρ H ds vs
 | .fz ds=>∃o vs,H a=some (.frz o (.lst vs))/\Reps K ρ H ds vs
 | .kl ds=>∃vs,KList K a vs/\Reps K ρ H ds vs
 | .dct kvs=>∃vs,H a=some (.dK (fW (kvs.map (·.1)) vs))/\Reps K ρ H (kvs.map (·.2)) vs
 | .dkt kvs=>kvs.length<=sizeLine/\(a==sysModules)=false/\(kvs.map (·.1)).Nodup/\∃xs,H a=some (.ext (dX a xs))/\Paired (wD K ρ H) kvs xs
 | .dkq e kvs=>kvs.length<=sizeLine/\(a==sysModules)=false/\(kvs.map (·.1)).Nodup/\∃xs,H a=some (.ext (dQ a e xs))/\Paired (wD K ρ H) kvs xs
 | .dkm kvs=>kvs.length<=sizeLine/\(a==sysModules)=false/\(kvs.map (·.1)).Nodup/\∃xs,H a=some (.ext (dM a xs))/\Paired (KvM K ρ H) kvs xs
 | .fdc o kvs=>∃vs,H a=some (.frz o (.dK (fW (kvs.map (·.1)) vs)))/\Reps K ρ H (kvs.map (·.2)) vs
 | .tb x b=>(∃c,PySem.W.tabIn K x=some (c,a)/\∀h:Heap,K.In h->PySem.W.CodeHd h c a)/\∃ps,H a=some (.tbl ps)/\(b=false->ps = #[])
 | .exc x e=>e=a/\∃C o,ABI K mainGlobals x=some (some (.ref C))/\IsX o (.ref C)/\H a=some (.frz o (.own a))
def isK(mo:Option MO):Prop:=∃ds,mo=some (.kl ds)
def ah(M:Mem)(n:Nat)(xs:List D):Prop:=M[n]?=some (.lst xs)\/M[n]?=some (.fz xs)\/M[n]?=some (.kl xs)
structure Sim(K:AA)(ρ:List Addr)(M:Mem)(H:Hp):Prop where
 nd:∀(n m:Nat) (a:Addr),n≠m->ρ[n]?=some a->ρ[m]?=some a->isK M[n]?\/isK M[m]?
 len:ρ.length=M.length
 obj:∀(n:Nat) (a:Addr) (mo:MO),ρ[n]?=some a->M[n]?=some mo->nz K ρ H a mo
structure Grow(K:AA)(ρ:List Addr)(H:Hp)(ρ':List Addr)(H':Hp):Prop where
 pre:ρ <+: ρ'
 tup:∀a xs,SqT K H a xs->SqT K H' a xs
theorem Grow.refl{K:AA}{ρ:List Addr}{H:Hp}:Grow K ρ H ρ H:=⟨ABv,λ_ _ h=>h⟩
theorem Grow.trans{K:AA}{ρ ρ1 ρ2:List Addr}{H H1 H2:Hp}(a:Grow K ρ H ρ1 H1)(b:Grow K ρ1 H1 ρ2 H2):Grow K ρ H ρ2 H2:=⟨a.pre.trans b.pre,λx xs h=>b.tup x xs (a.tup x xs h)⟩
theorem aA{α:Type}{l l':List α}(h:l <+: l'){n:Nat}{a:α}(e:l[n]?=some a):l'[n]?=some a:=by
 obtain⟨t,rfl⟩:=h
 rw[AAC (AA4.mp e).1]
 exact e
theorem Rep.grow{K:AA}{ρ ρ':List Addr}{H H':Hp}(g:Grow K ρ H ρ' H'){d:D}{v:V}(h:Rep K ρ H d v):Rep K ρ' H' d v :=
 Rep.rec (motive_1:=λd v _=>Rep K ρ' H' d v) (motive_2:=λds vs _=>Reps K ρ' H' ds vs) .non .bl .int .str .ty (λh _ r=>.tup (g.tup _ _ h) r) (λh=>.ref (aA g.pre h)) .nil (λ_ _ h t=>.cons h t) h
theorem Reps.grow{K:AA}{ρ ρ':List Addr}{H H':Hp}(g:Grow K ρ H ρ' H'){ds:List D}{vs:List V}(h:Reps K ρ H ds vs):Reps K ρ' H' ds vs :=
 Reps.rec (motive_1:=λd v _=>Rep K ρ' H' d v) (motive_2:=λds vs _=>Reps K ρ' H' ds vs) .non .bl .int .str .ty (λh _ r=>.tup (g.tup _ _ h) r) (λh=>.ref (aA g.pre h)) .nil (λ_ _ h t=>.cons h t) h
section
variable{K:AA}{ρ ρ':List Addr}{H H':Hp}{M:Mem}
theorem Reps.length(h:Reps K ρ H ds vs):ds.length=vs.length :=
 Reps.rec (motive_1:=λ_ _ _=>True) (motive_2:=λds vs _=>ds.length=vs.length) trivial (λ_=>trivial) (λ_=>trivial) (λ_=>trivial) (λ_=>trivial) (λ_ _ _=>trivial) (λ_=>trivial) rfl (λ_ _ _ t=>congrArg Nat.succ t) h
theorem Reps.append(h:Reps K ρ H ds vs)(s:Reps K ρ H es ws):Reps K ρ H (ds++es) (vs++ws) :=
 Reps.rec (motive_1:=λ_ _ _=>True) (motive_2:=λds vs _=>Reps K ρ H (ds++es) (vs++ws)) trivial (λ_=>trivial) (λ_=>trivial) (λ_=>trivial) (λ_=>trivial) (λ_ _ _=>trivial) (λ_=>trivial) s (λh _ _ t=>.cons h t) h
theorem Reps.get:∀{ds:List D}{vs:List V}{i:Nat}{d:D},Reps K ρ H ds vs->ds[i]?=some d->∃v,vs[i]?=some v/\Rep K ρ H d v
 | _,_,_,_,.nil,e=>by simp at e
 | _,_,0,_,.cons r _,e=>by simp at e;subst e;exact⟨_,rfl,r⟩
 | _,_,i+1,d,.cons _ t,e=>by
  obtain⟨v,h1,h2⟩:=Reps.get (i:=i) (d:=d) t (by simpa using e)
  exact⟨v,by simpa using h1,h2⟩
theorem Reps.getV:∀{ds:List D}{vs:List V}{i:Nat}{v:V},Reps K ρ H ds vs->vs[i]?=some v->∃d,ds[i]?=some d/\Rep K ρ H d v
 | _,_,_,_,.nil,e=>by simp at e
 | _,_,0,_,.cons r _,e=>by simp at e;subst e;exact⟨_,rfl,r⟩
 | _,_,i+1,d,.cons _ t,e=>by
  obtain⟨v,h1,h2⟩:=Reps.getV (i:=i) (v:=d) t (by simpa using e)
  exact⟨v,by simpa using h1,h2⟩
theorem Reps.take:∀{ds:List D}{vs:List V} (n:Nat),Reps K ρ H ds vs->Reps K ρ H (ds.take n) (vs.take n)
 | _,_,0,_=>by simpa using .nil
 | _,_,_+1,.nil=>.nil
 | _,_,n+1,.cons r t=>.cons r (Reps.take n t)
theorem Reps.drop:∀{ds:List D}{vs:List V} (n:Nat),Reps K ρ H ds vs->Reps K ρ H (ds.drop n) (vs.drop n)
 | _,_,0,r=>r
 | _,_,_+1,.nil=>.nil
 | _,_,n+1,.cons _ t=>Reps.drop n t
theorem SqT.laid(hp:H p=none)(h:SqT K H a xs):SqT K (upd H p o) a xs:=by
 rcases h with h | h
 ·rcases h with h | ⟨ob,h⟩
  ·exact .inl (.inl (by rw[ag (ac h hp)];exact h))
  ·exact .inl (.inr ⟨ob,by rw[ag (ac h hp)];exact h⟩)
 ·exact .inr h
theorem SqT.written(hp:H p=some (.lst vs))(h:SqT K H a xs):SqT K (upd H p o) a xs:=by
 rcases h with h | h
 ·rcases h with h | ⟨ob,h⟩
  ·exact .inl (.inl (by rw[ag (oM h hp (by intro z;cases z))];exact h))
  ·exact .inl (.inr ⟨ob,by rw[ag (oM h hp (by intro z;cases z))];exact h⟩)
 ·exact .inr h
theorem Grow.laid(hp:H p=none):Grow K ρ H ρ (upd H p o):=⟨ABv,λ_ _ h=>SqT.laid hp h⟩
theorem Grow.laidR(hp:H p=none):Grow K ρ H (ρ++[p]) (upd H p o):=⟨AAu _ _,λ_ _ h=>SqT.laid hp h⟩
theorem Sim.tracked(S:Sim K ρ M H){n:Nat}{a:Addr}(e:ρ[n]?=some a):(∃o,H a=some o)\/isK M[n]?:=by
 have hn:n<M.length:=by rw[<-S.len];exact(AA4.mp e).1
 have hm:M[n]?=some M[n]:=AA1 hn
 have h:=S.obj n a _ e hm
 rw[hm]
 cases hmo:M[n] with
 | lst ds=>rw[hmo]at h;obtain⟨vs,h,_⟩:=h;exact .inl ⟨_,h⟩
 | fz ds=>rw[hmo]at h;obtain⟨o,vs,h,_⟩:=h;exact .inl ⟨_,h⟩
 | kl ds=>exact .inr ⟨ds,rfl⟩
 | dct kvs=>rw[hmo]at h;obtain⟨vs,h,_⟩:=h;exact .inl ⟨_,h⟩
 | dkt kvs=>rw[hmo]at h;obtain⟨_,_,_,xs,h,_⟩:=h;exact .inl ⟨_,h⟩
 | dkq _ kvs=>rw[hmo]at h;obtain⟨_,_,_,xs,h,_⟩:=h;exact .inl ⟨_,h⟩
 | fdc o kvs=>rw[hmo]at h;obtain⟨vs,h,_⟩:=h;exact .inl ⟨_,h⟩
 | dkm kvs=>rw[hmo]at h;obtain⟨_,_,_,xs,h,_⟩:=h;exact .inl ⟨_,h⟩
 | tb x b=>rw[hmo]at h;obtain⟨_,ps,h,_⟩:=h;exact .inl ⟨_,h⟩
 | exc x e=>rw[hmo]at h;obtain⟨_,_,_,_,_,h⟩:=h;exact .inl ⟨_,h⟩
theorem nz.grow(g:Grow K ρ H ρ' H')(hs:H' a=H a\/isK (some mo))(h:nz K ρ H a mo):nz K ρ' H' a mo:=by
 cases mo with
 | lst ds =>
  obtain⟨vs,e,r⟩:=h
  rcases hs with hs | ⟨_,z⟩
  ·exact⟨vs,by rw[hs];exact e,r.grow g⟩
  ·cases z
 | fz ds =>
  obtain⟨o,vs,e,r⟩:=h
  rcases hs with hs | ⟨_,z⟩
  ·exact⟨o,vs,by rw[hs];exact e,r.grow g⟩
  ·cases z
 | fdc o kvs =>
  obtain⟨vs,e,r⟩:=h
  rcases hs with hs | ⟨_,z⟩
  ·exact⟨vs,by rw[hs];exact e,r.grow g⟩
  ·cases z
 | tb x b =>
  obtain⟨c,ps,e,q⟩:=h
  rcases hs with hs | ⟨_,z⟩
  ·exact⟨c,ps,by rw[hs];exact e,q⟩
  ·cases z
 | exc x e =>
  obtain⟨h0,C,o,e,i,q⟩:=h
  rcases hs with hs | ⟨_,z⟩
  ·exact⟨h0,C,o,e,i,by rw[hs];exact q⟩
  ·cases z
 | kl ds=>obtain⟨vs,e,r⟩:=h;exact⟨vs,e,r.grow g⟩
 | dkm kvs =>
  obtain⟨h1,h2,h3,xs,e,r⟩:=h
  rcases hs with hs | ⟨_,z⟩
  ·exact⟨h1,h2,h3,xs,by rw[hs];exact e,Paired.mapP r λ_ _ ⟨q1,q2,⟨u,q3,q3'⟩,v,q4,q5⟩=>⟨q1,q2,⟨u,q3.grow g,q3'⟩,v,q4.grow g,q5⟩⟩
  ·cases z
 | dct kvs =>
  obtain⟨vs,e,r⟩:=h
  rcases hs with hs | ⟨_,z⟩
  ·exact⟨vs,by rw[hs];exact e,r.grow g⟩
  ·cases z
 | dkt kvs =>
  obtain⟨h1,h2,h3,xs,e,r⟩:=h
  rcases hs with hs | ⟨_,z⟩
  ·exact⟨h1,h2,h3,xs,by rw[hs];exact e,Paired.mapP r λ_ _ ⟨q1,q2,q3,v,q4,q5⟩=>⟨q1,q2,q3.grow g,v,q4.grow g,q5⟩⟩
  ·cases z
 | dkq _ kvs =>
  obtain⟨h1,h2,h3,xs,e,r⟩:=h
  rcases hs with hs | ⟨_,z⟩
  ·exact⟨h1,h2,h3,xs,by rw[hs];exact e,Paired.mapP r λ_ _ ⟨q1,q2,q3,v,q4,q5⟩=>⟨q1,q2,q3.grow g,v,q4.grow g,q5⟩⟩
  ·cases z
theorem Sim.keeps{p:Addr}{o:HO}(S:Sim K ρ M H)(hp:H p=none){n:Nat}{a:Addr}{mo:MO}(e1:ρ[n]?=some a)(e2:M[n]?=some mo):upd H p o a=H a\/isK (some mo):=by
 rcases S.tracked e1 with⟨ob,hob⟩ | q
 ·exact .inl (ag (ac hob hp))
 ·rw[e2]at q
  exact .inr q
theorem Sim.laid{p:Addr}{o:HO}(S:Sim K ρ M H)(hp:H p=none):Sim K ρ M (upd H p o) :=
 ⟨S.nd,S.len,λn a mo e1 e2=>(S.obj n a mo e1 e2).grow (Grow.laid hp) (S.keeps hp e1 e2)⟩
theorem ay{α:Type}{l:List α}{x y:α}{n:Nat}(h:(l++[x])[n]?=some y):l[n]?=some y\/(n=l.length/\y=x):=by
 by_cases hn:n<l.length
 ·rw[AAC hn]at h
  exact .inl h
 ·have hn':n=l.length:=by
   have:=(AA4.mp h).1
   rw[AAL,ABH]at this
   lia
  subst hn'
  rw[AAR (AA8 _),ACX]at h
  simp at h
  exact .inr ⟨rfl,h.symm⟩
theorem isK.more{mo:MO}{n:Nat}(h:isK M[n]?):isK (M++[mo])[n]?:=by
 obtain⟨ds,e⟩:=h
 exact⟨ds,by rw[AAC (AA4.mp e).1];exact e⟩
theorem Sim.laidL{p:Addr}{ds:List D}{vs:List V}(S:Sim K ρ M H)(hp:H p=none)(r:Reps K ρ H ds vs):Sim K (ρ++[p]) (M++[.lst ds]) (upd H p (.lst vs)):=by
 have g:Grow K ρ H (ρ++[p]) (upd H p (.lst vs)):=Grow.laidR hp
 have old:∀(n:Nat),ρ[n]?=some p->isK M[n]?:=λn e=>by
  rcases S.tracked e with⟨o,q⟩ | q
  ·rw[hp]at q;cases q
  ·exact q
 refine⟨λn m a hnm e1 e2=>?_,by rw[AAL,AAL,S.len];rfl,λn a mo e1 e2=>?_⟩
 ·rcases ay e1 with f1 | ⟨f1,g1⟩
  ·rcases ay e2 with f2 | ⟨f2,g2⟩
   ·exact(S.nd n m a hnm f1 f2).elim (λz=>.inl z.more) λz=>.inr z.more
   ·subst g2
    exact .inl (old n f1).more
  ·rcases ay e2 with f2 | ⟨f2,g2⟩
   ·subst g1
    exact .inr (old m f2).more
   ·exact absurd (f1.trans f2.symm) hnm
 ·rcases ay e1 with f1 | ⟨f1,g1⟩
  ·have hn:n<M.length:=by rw[<-S.len];exact(AA4.mp f1).1
   rw[AAC hn]at e2
   exact(S.obj n a mo f1 e2).grow g (S.keeps hp f1 e2)
  ·subst g1 f1
   rw[S.len,AAR (AA8 _),ACX]at e2
   simp at e2
   subst e2
   exact⟨vs,aL,r.grow g⟩
theorem Sim.last(S:Sim K ρ M H):(ρ++[p])[M.length]?=some p:=by
 rw[<-S.len,AAR (AA8 _),ACX]
 rfl
theorem Sim.write(S:Sim K ρ M H)(e1:ρ[n]?=some a)(hM:M[n]?=some (.lst ds))(hH:H a=some (.lst vs))(r:Reps K ρ H ds' vs') :
  Sim K ρ (M.set n (.lst ds')) (upd H a (.lst vs'))/\Grow K ρ H ρ (upd H a (.lst vs')):=by
 have g:Grow K ρ H ρ (upd H a (.lst vs')):=⟨ABv,λ_ _ h=>SqT.written hH h⟩
 have hk:∀m,m≠n->(M.set n (.lst ds'))[m]?=M[m]?:=λm hm=>AAt (AAm hm)
 have notK:¬isK M[n]?:=λ⟨_,z⟩=>by rw[hM]at z;cases z
 refine⟨⟨λm m' b hne f1 f2=>?_,by rw[ABu];exact S.len,λm b mo f1 f2=>?_⟩,g⟩
 ·have q:=S.nd m m' b hne f1 f2
  by_cases h1:m=n
  ·subst h1
   rw[hk m' (AAm hne)]
   exact .inr (q.resolve_left notK)
  ·rw[hk m h1]
   by_cases h2:m'=n
   ·subst h2
    exact .inl (q.resolve_right notK)
   ·rw[hk m' h2]
    exact q
 by_cases hm:m=n
 ·subst hm
  have hb:b=a:=AAN (f1.symm.trans e1)
  subst hb
  rw[AAg (by rw[<-S.len];exact(AA4.mp e1).1)]at f2
  cases f2
  exact⟨vs',aL,r.grow g⟩
 ·rw[hk m hm]at f2
  by_cases hb:b=a
  ·subst hb
   have q:=S.nd m n b hm f1 e1
   have q':=q.resolve_right notK
   rw[f2]at q'
   exact(S.obj m b mo f1 f2).grow g (.inr q')
  ·exact(S.obj m b mo f1 f2).grow g (.inl (ag hb))
theorem ah.seq(S:Sim K ρ M H)(h:ah M n xs)(e:ρ[n]?=some a):∃vs,SqL K H a vs/\Reps K ρ H xs vs:=by
 rcases h with h | h | h
 ·obtain⟨vs,q,r⟩:=S.obj n a _ e h
  exact⟨vs,.inl (.inl q),r⟩
 ·obtain⟨o,vs,q,r⟩:=S.obj n a _ e h
  exact⟨vs,.inl (.inr ⟨o,q⟩),r⟩
 ·obtain⟨vs,q,r⟩:=S.obj n a _ e h
  exact⟨vs,.inr q,r⟩
theorem Sim.get(S:Sim K ρ M H){n:Nat}{mo:MO}(e:M[n]?=some mo):∃a,ρ[n]?=some a/\nz K ρ H a mo:=by
 have hn:n<ρ.length:=by rw[S.len];exact(AA4.mp e).1
 exact⟨ρ[n],AA1 hn,S.obj n _ mo (AA1 hn) e⟩
end
noncomputable abbrev SD:=List (Option D)
structure SRep(K:AA)(ρ:List Addr)(H:Hp)(S:SD)(σ:St):Prop where
 len:S.length=σ.length
 get:∀(i:Nat) (d:D),S[i]?=some (some d)->∃v,σ[i]?=some (some v)/\Rep K ρ H d v
theorem SRep.grow{K:AA}{ρ ρ':List Addr}{H H':Hp}{S:SD}{σ:St}(r:SRep K ρ H S σ)(g:Grow K ρ H ρ' H'):SRep K ρ' H' S σ :=
 ⟨r.len,λi d e=>let ⟨v,h1,h2⟩:=r.get i d e;⟨v,h1,h2.grow g⟩⟩
theorem SRep.set{K:AA}{ρ:List Addr}{H:Hp}{S:SD}{σ:St}(r:SRep K ρ H S σ)(i:Nat){d:D}{v:V}(h:Rep K ρ H d v):SRep K ρ H (S.set i (some d)) (σ.set i (some v)):=by
 refine⟨by rw[ABu,ABu];exact r.len,λj e hj=>?_⟩
 by_cases hij:i=j
 ·subst hij
  by_cases hl:i<S.length
  ·rw[AAg hl]at hj
   cases hj
   exact⟨v,by rw[AAg (by rw[<-r.len];exact hl)],h⟩
  ·rw[ABV (by rw[ABu];lia)]at hj
   cases hj
 ·rw[AAt hij]at hj
  rw[AAt hij]
  exact r.get j e hj
abbrev DK:=D->Mem->Prop
abbrev DTE:=SD->Mem->DK->Prop
abbrev DTT:=SD->Mem->(Bool->Mem->Prop)->Prop
abbrev DTA:=SD->Mem->(List D->Mem->Prop)->Prop
structure DEnds where
 nx:SD->Mem->Prop
 rt:DK
 bk:SD->Mem->Prop:=λ_ _=>False
 ct:SD->Mem->Prop:=λ_ _=>False
abbrev DTS:=DEnds->SD->Mem->Prop
abbrev DTG:=D->SD->Mem->(SD->Mem->Prop)->Prop
abbrev wv:=List D->SD->Mem->(SD->Mem->Prop)->Prop
abbrev DR2:=D->D->Mem->DK->Prop
abbrev DR1:=D->Mem->DK->Prop
abbrev DRA:=List D->Mem->DK->Prop
section
variable(K:AA)
inductive VQ(ρ:List Addr)(H:Hp)(Q:DK)(v:V)(H':Hp):Prop
 | mk (d:D) (M':Mem) (ρ':List Addr) (s:Sim K ρ' M' H') (g:Grow K ρ H ρ' H') (r:Rep K ρ' H' d v) (q:Q d M')
inductive BQ(ρ:List Addr)(H:Hp)(Q:Bool->Mem->Prop)(b:Bool)(H':Hp):Prop
 | mk (M':Mem) (ρ':List Addr) (s:Sim K ρ' M' H') (g:Grow K ρ H ρ' H') (q:Q b M')
inductive AQ(ρ:List Addr)(H:Hp)(Q:List D->Mem->Prop)(vs:List V)(H':Hp):Prop
 | mk (ds:List D) (M':Mem) (ρ':List Addr) (s:Sim K ρ' M' H') (g:Grow K ρ H ρ' H') (r:Reps K ρ' H' ds vs) (q:Q ds M')
inductive SQ(ρ:List Addr)(H:Hp)(Q:SD->Mem->Prop)(σ':St)(H':Hp):Prop
 | mk (S':SD) (M':Mem) (ρ':List Addr) (s:Sim K ρ' M' H') (g:Grow K ρ H ρ' H') (r:SRep K ρ' H' S' σ') (q:Q S' M')
structure Ups(ρ:List Addr)(H:Hp)(F:DEnds)(E:Ends):Prop where
 nx:∀σ' H',SQ K ρ H F.nx σ' H'->E.nx σ' H'
 rt:∀v H',VQ K ρ H F.rt v H'->E.rt v H'
 bk:∀σ' H',SQ K ρ H F.bk σ' H'->E.bk σ' H'
 ct:∀σ' H',SQ K ρ H F.ct σ' H'->E.ct σ' H'
inductive lowE(t:DTE)(σ:St)(H:Hp)(R:VK):Prop
 | mk (S:SD) (M:Mem) (ρ:List Addr) (Q:DK) (s:Sim K ρ M H) (sr:SRep K ρ H S σ) (q:t S M Q) (k:∀v H',VQ K ρ H Q v H'->R v H')
inductive lowT(t:DTT)(σ:St)(H:Hp)(R:Bool->Hp->Prop):Prop
 | mk (S:SD) (M:Mem) (ρ:List Addr) (Q:Bool->Mem->Prop) (s:Sim K ρ M H) (sr:SRep K ρ H S σ) (q:t S M Q) (k:∀v H',BQ K ρ H Q v H'->R v H')
inductive lowA(t:DTA)(σ:St)(H:Hp)(R:List V->Hp->Prop):Prop
 | mk (S:SD) (M:Mem) (ρ:List Addr) (Q:List D->Mem->Prop) (s:Sim K ρ M H) (sr:SRep K ρ H S σ) (q:t S M Q) (k:∀v H',AQ K ρ H Q v H'->R v H')
inductive lowS(t:DTS)(E:Ends)(σ:St)(H:Hp):Prop
 | mk (S:SD) (M:Mem) (ρ:List Addr) (F:DEnds) (s:Sim K ρ M H) (sr:SRep K ρ H S σ) (q:t F S M) (k:Ups K ρ H F E)
inductive lowG(g:DTG)(v:V)(σ:St)(H:Hp)(R:St->Hp->Prop):Prop
 | mk (d:D) (S:SD) (M:Mem) (ρ:List Addr) (Q:SD->Mem->Prop) (s:Sim K ρ M H) (sr:SRep K ρ H S σ) (r:Rep K ρ H d v) (q:g d S M Q) (k:∀σ' H',SQ K ρ H Q σ' H'->R σ' H')
inductive lowGs(g:wv)(vs:List V)(σ:St)(H:Hp)(R:St->Hp->Prop):Prop
 | mk (ds:List D) (S:SD) (M:Mem) (ρ:List Addr) (Q:SD->Mem->Prop) (s:Sim K ρ M H) (sr:SRep K ρ H S σ) (r:Reps K ρ H ds vs) (q:g ds S M Q) (k:∀σ' H',SQ K ρ H Q σ' H'->R σ' H')
inductive lowR(r:DR2)(vx vy:V)(H:Hp)(R:VK):Prop
 | mk (x y:D) (M:Mem) (ρ:List Addr) (Q:DK) (s:Sim K ρ M H) (r1:Rep K ρ H x vx) (r2:Rep K ρ H y vy) (q:r x y M Q) (k:∀v H',VQ K ρ H Q v H'->R v H')
inductive lowU(r:DR1)(vx:V)(H:Hp)(R:VK):Prop
 | mk (x:D) (M:Mem) (ρ:List Addr) (Q:DK) (s:Sim K ρ M H) (r1:Rep K ρ H x vx) (q:r x M Q) (k:∀v H',VQ K ρ H Q v H'->R v H')
inductive qC(r:DRA)(vs:List V)(H:Hp)(R:VK):Prop
 | mk (ds:List D) (M:Mem) (ρ:List Addr) (Q:DK) (s:Sim K ρ M H) (r1:Reps K ρ H ds vs) (q:r ds M Q) (k:∀v H',VQ K ρ H Q v H'->R v H')
end
def DE(X:Cx)(e:Expr)(t:DTE):Prop:=PE X e (lowE X.K t)
def DT(X:Cx)(e:Expr)(t:DTT):Prop:=PT X e (lowT X.K t)
def DW(X:Cx)(e:Expr)(t:DTT):Prop:=PW X e (lowT X.K t)
def DA(X:Cx)(es:List Expr)(t:DTA):Prop:=PA X es (lowA X.K t)
def DS(X:Cx)(st:Stmt)(t:DTS):Prop:=PS X st (lowS X.K t)
def DSs(X:Cx)(st:List Stmt)(t:DTS):Prop:=PSs X st (lowS X.K t)
def DG(X:Cx)(tg:Expr)(g:DTG):Prop:=PG X tg (lowG X.K g)
def DGs(X:Cx)(tg:List Expr)(g:wv):Prop:=PGs X tg (lowGs X.K g)
def OpD(X:Cx)(f:Value->Value->Sem Value)(r:DR2):Prop:=OpR X f (lowR X.K r)
def UnD(X:Cx)(f:Value->Sem Value)(r:DR1):Prop:=UnR X f (lowU X.K r)
def gl(X:Cx)(f:Value)(r:DRA):Prop:=cL X f (qC X.K r)
section
variable{K:AA}{ρ ρ1:List Addr}{H H1:Hp}
theorem VQ.trans(g:Grow K ρ H ρ1 H1)(h:VQ K ρ1 H1 Q v H'):VQ K ρ H Q v H':=by
 obtain⟨d,M',ρ',s,g',r,q⟩:=h
 exact⟨d,M',ρ',s,g.trans g',r,q⟩
theorem BQ.trans(g:Grow K ρ H ρ1 H1)(h:BQ K ρ1 H1 Q v H'):BQ K ρ H Q v H':=by
 obtain⟨M',ρ',s,g',q⟩:=h
 exact⟨M',ρ',s,g.trans g',q⟩
theorem SQ.trans(g:Grow K ρ H ρ1 H1)(h:SQ K ρ1 H1 Q v H'):SQ K ρ H Q v H':=by
 obtain⟨d,M',ρ',s,g',r,q⟩:=h
 exact⟨d,M',ρ',s,g.trans g',r,q⟩
theorem Ups.trans(g:Grow K ρ H ρ1 H1)(h:Ups K ρ H F E):Ups K ρ1 H1 F E :=
 ⟨λσ' H' q=>h.nx σ' H' (SQ.trans g q),λv H' q=>h.rt v H' (VQ.trans g q),λσ' H' q=>h.bk σ' H' (SQ.trans g q),λσ' H' q=>h.ct σ' H' (SQ.trans g q)⟩
theorem VQ.now(s:Sim K ρ M H)(r:Rep K ρ H d v)(q:Q d M):VQ K ρ H Q v H:=⟨d,M,ρ,s,.refl,r,q⟩
end
section
variable{K:AA}{ρ:List Addr}{H:Hp}{v:V}{vs:List V}
theorem Rep.inv_non(h:Rep K ρ H .non v):v=.non:=by cases h;rfl
theorem Rep.inv_bl(h:Rep K ρ H (.bl b) v):v=.bl b:=by cases h;rfl
theorem Rep.inv_int(h:Rep K ρ H (.int i) v):v=.int i:=by cases h;rfl
theorem Rep.inv_str(h:Rep K ρ H (.str x) v):v=.str x:=by cases h;rfl
theorem Rep.inv_ty(h:Rep K ρ H (.ty n) v):v=.ty n:=by cases h;rfl
theorem Rep.inv_tup(h:Rep K ρ H (.tup ds) v):∃a vs,v=.ref a/\SqT K H a vs/\Reps K ρ H ds vs:=by cases h with | tup h r=>exact⟨_,_,rfl,h,r⟩
theorem Rep.inv_ref(h:Rep K ρ H (.ref n) v):∃a,v=.ref a/\ρ[n]?=some a:=by cases h with | ref h=>exact⟨_,rfl,h⟩
theorem aq.inv_cons(h:aq (x::vs) us):∃u ws,us=u::ws/\aH x u/\aq vs ws:=by cases h with | cons h t=>exact⟨_,_,rfl,h,t⟩
theorem aq.inv_nil(h:aq [] us):us=[]:=by cases h;rfl
theorem Reps.inv_nil(h:Reps K ρ H [] vs):vs=[]:=by cases h;rfl
theorem Reps.inv_cons(h:Reps K ρ H (d::ds) vs):∃v ws,vs=v::ws/\Rep K ρ H d v/\Reps K ρ H ds ws:=by cases h with | cons h t=>exact⟨_,_,rfl,h,t⟩
end
end
theorem PE.imp(h:PE X e t')(i:∀σ H R,t σ H R->t' σ H R):PE X e t:=λpins s σ H R I q=>h pins s σ H R I (i σ H R q)
theorem PT.imp(h:PT X e t')(i:∀σ H R,t σ H R->t' σ H R):PT X e t:=λpins s σ H R I q=>h pins s σ H R I (i σ H R q)
theorem PW.imp(h:PW X e t')(i:∀σ H R,t σ H R->t' σ H R):PW X e t:=λw pins s σ H R I q=>h w pins s σ H R I (i σ H R q)
theorem PA.imp(h:PA X e t')(i:∀σ H R,t σ H R->t' σ H R):PA X e t:=λpos pins s σ H R I q=>h pos pins s σ H R I (i σ H R q)
theorem PS.imp(h:PS X e t')(i:∀E σ H,t E σ H->t' E σ H):PS X e t:=λpins s σ H R I q=>h pins s σ H R I (i R σ H q)
theorem PSs.imp(h:PSs X e t')(i:∀E σ H,t E σ H->t' E σ H):PSs X e t:=λpins s σ H R I q=>h pins s σ H R I (i R σ H q)
theorem OpR.imp(h:OpR X f r')(i:∀x y H R,r x y H R->r' x y H R):OpR X f r:=λpins s σ H x y v u R I a b q=>h pins s σ H x y v u R I a b (i x y H R q)
theorem cL.imp(h:cL X f r')(i:∀xs H R,r xs H R->r' xs H R):cL X f r:=λpins s σ H xs us R I a q=>h pins s σ H xs us R I a (i xs H R q)
section
variable{X:Cx}{a b c:Expr}{ta tb tc:DTE}{pos:Pos}
def ad(i:Nat):DTE:=λS M Q=>match S[i]? with
 | some (some d)=>Q d M
 | _=>False
def dC(d:D):DTE:=λ_ M Q=>Q d M
theorem rM{K:AA}{i:Nat}(σ:St)(H:Hp)(R:VK)(h:lowE K (ad i) σ H R):tVar i σ H R:=by
 obtain⟨S,M,ρ,Q,s,r,q,k⟩:=h
 unfold ad at q
 cases e:S[i]? with
 | none=>rw[e]at q;exact q.elim
 | some o =>
  cases o with
  | none=>rw[e]at q;exact q.elim
  | some d =>
   rw[e]at q
   obtain⟨v,hv,rv⟩:=r.get i d e
   exact⟨v,hv,k v H (VQ.now s rv q)⟩
theorem d_var(hN:X.N[i]?=some x:=by rfl)(hv:Vis X.env.scope x:=by first | exact Or.inl rfl | exact Or.inr (Or.inl rfl) | exact Or.inr (Or.inr rfl))(hd:(x==("__debug__":Str))=false:=by decide)
  (hcd:(x==("__classdict__":Str))=false:=by decide):DE X (.Name x pos) (ad i):=PE.imp (xj hN hv hd hcd) rM
noncomputable def cV:D->Option V
 | .non=>some .non
 | .bl b=>some (.bl b)
 | .int i=>some (.int i)
 | .str x=>some (.str x)
 | .ty n=>some (.ty n)
 | _=>none
theorem qp{K:AA}{ρ:List Addr}{H:Hp}{d:D}{v:V}(h:cV d=some v):Rep K ρ H d v:=by
 cases d with
 | non=>cases h;exact .non
 | bl b=>cases h;exact .bl b
 | int b=>cases h;exact .int b
 | str b=>cases h;exact .str b
 | ty b=>cases h;exact .ty b
 | tup b=>cases h
 | ref b=>cases h
theorem gG{K:AA}{d:D}{v:V}(hd:cV d=some v)(σ:St)(H:Hp)(R:VK)(h:lowE K (dC d) σ H R):tC v σ H R:=by
 obtain⟨S,M,ρ,Q,s,r,q,k⟩:=h
 exact k v H (VQ.now s (qp hd) q)
theorem d_int{i:Int}{j:Nat}:DE X (.Constant (.int i) j pos) (dC (.int i)):=PE.imp xr (gG rfl)
theorem d_bl{i:Bool}{j:Nat}:DE X (.Constant (.bool i) j pos) (dC (.bl i)):=PE.imp pe_bl (gG rfl)
theorem d_non{j:Nat}:DE X (.Constant .none j pos) (dC .non):=PE.imp xp (gG rfl)
theorem d_str{i:Str}{j:Nat}:DE X (.Constant (.str i) j pos) (dC (.str i)):=PE.imp xm (gG rfl)
theorem tP(hm:X.mg x=some u)(hd:cV d=some v)(r:aH v u)(hg:Gl X x:=by rfl)(hb:(x==("__debug__":Str))=false:=by decide):DE X (.Name x pos) (dC d):=PE.imp (oB hg hm r hb) (gG hd)
theorem yY{x:Str}{T:String}(hm:X.mg x=none)(hv:bootBuiltins x=some (.type T))(hg:Gl X x:=by rfl)(hn:x≠"__name__":=by decide)(hb:(x==("__debug__":Str))=false:=by decide):DE X (.Name x pos) (dC (.ty T)) :=
 PE.imp (oF (v:=.ty T) hg hm hv rfl hn hb) (gG rfl)
theorem low2{K:AA}{S:SD}{M:Mem}{ρ:List Addr}{σ:St}{H:Hp}{P:D->D->Mem->Prop}{G:V->V->Hp->Prop}(s:Sim K ρ M H)(r:SRep K ρ H S σ)(h:ta S M λx M1=>tb S M1 λy M2=>P x y M2)
  (k:∀x y vx vy M2 ρ2 H2,Sim K ρ2 M2 H2->Grow K ρ H ρ2 H2->Rep K ρ2 H2 x vx->Rep K ρ2 H2 y vy->P x y M2->G vx vy H2):lowE K ta σ H λvx H1=>lowE K tb σ H1 λvy H2=>G vx vy H2:=by
 refine⟨S,M,ρ,_,s,r,h,?_⟩
 rintro vx H1 ⟨x,M1,ρ1,s1,g1,r1,q1⟩
 refine⟨S,M1,ρ1,_,s1,r.grow g1,q1,?_⟩
 rintro vy H2 ⟨y,M2,ρ2,s2,g2,r2,q2⟩
 exact k x y vx vy M2 ρ2 H2 s2 (g1.trans g2) (r1.grow g2) r2 q2
def dOp(r:DR2)(ta tb:DTE):DTE:=λS M Q=>ta S M λx M1=>tb S M1 λy M2=>r x y M2 Q
theorem io{K:AA}{r:DR2}(σ:St)(H:Hp)(R:VK)(h:lowE K (dOp r ta tb) σ H R):tOp (lowR K r) (lowE K ta) (lowE K tb) σ H R:=by
 obtain⟨S,M,ρ,Q,s,sr,q,k⟩:=h
 exact low2 s sr q λx y vx vy M2 ρ2 H2 s2 g2 r1 r2 q2=>⟨x,y,M2,ρ2,Q,s2,r1,r2,q2,λv H' w=>k v H' (VQ.trans g2 w)⟩
theorem d_op(ho:OpD X (binaryOp op) r)(ha:DE X a ta)(hb:DE X b tb):DE X (.BinOp a op b pos) (dOp r ta tb):=PE.imp (pe_op ho ha hb) io
theorem d_cmp(ho:OpD X (compareOp op) r)(ha:DE X a ta)(hb:DE X b tb)(hm:behindInMarks op b=false:=by with_unfolding_all rfl):DE X (.Compare a [op] [b] pos) (dOp r ta tb):=PE.imp (uD ho ha hb hm) io
def aB(t:DTE):DTT:=λS M Q=>t S M λx M'=>match x with
 | .bl b=>Q b M'
 | _=>False
theorem fG{K:AA}{t:DTE}(σ:St)(H:Hp)(R:Bool->Hp->Prop)(h:lowT K (aB t) σ H R):ua (lowE K t) σ H R:=by
 obtain⟨S,M,ρ,Q,s,sr,q,k⟩:=h
 refine⟨S,M,ρ,_,s,sr,q,?_⟩
 rintro v H' ⟨d,M',ρ',s',g',r',q'⟩
 cases r' with
 | bl b=>exact⟨b,rfl,k b H' ⟨M',ρ',s',g',q'⟩⟩
 | _=>exact q'.elim
theorem yK(ho:OpD X (compareOp op) r)(ha:DE X a ta)(hb:DE X b tb)(hm:behindInMarks op b=false:=by with_unfolding_all rfl):DT X (.Compare a [op] [b] pos) (aB (dOp r ta tb)):=by
 refine PT.imp (ut ho ha hb hm) λσ H R h=>?_
 obtain⟨S,M,ρ,Q,s,sr,q,k⟩:=fG σ H R h
 exact io σ H _ ⟨S,M,ρ,Q,s,sr,q,k⟩
theorem yI(h:DE X e t)(he:∀whole,isTrue e X.env whole=(do let v <-whole;standAt e.pos;holding [v] (truthy v)):=by intro _;rfl):DT X e (aB t):=PT.imp (wZ h he) fG
def onB(z:D)(k:Bool->Prop):Prop:=match z with
 | .bl b=>k b
 | _=>False
theorem tj{b:Bool}{k:Bool->Prop}:onB (.bl b) k=k b:=rfl
def fS(r r':DR2)(ta tb tc:DTE):DTE:=λS M Q=>ta S M λx M1=>tb S M1 λy M2=>r x y M2 λz M3=>onB z λb=>if b=true then tc S M3 λw M4=>r' y w M4 Q else Q (.bl false) M3
theorem mT{K:AA}{r r':DR2}(σ:St)(H:Hp)(R:VK)(h:lowE K (fS r r' ta tb tc) σ H R):sZ (lowR K r) (lowR K r') (lowE K ta) (lowE K tb) (lowE K tc) σ H R:=by
 obtain⟨S,M,ρ,Q,s,sr,q,k⟩:=h
 refine low2 s sr q λx y vx vy M2 ρ2 H2 s2 g2 r1 r2 q2=>⟨x,y,M2,ρ2,_,s2,r1,r2,q2,?_⟩
 rintro vz H3 ⟨z,M3,ρ3,s3,g3,r3,q3⟩
 cases r3 with
 | bl b =>
  cases b with
  | false=>exact⟨false,rfl,gg (k _ H3 ⟨_,M3,ρ3,s3,g2.trans g3,.bl false,(show Q (.bl false) M3 from q3)⟩)⟩
  | true =>
   refine⟨true,rfl,gf ⟨S,M3,ρ3,_,s3,sr.grow (g2.trans g3),(show tc S M3 _ from q3),?_⟩⟩
   rintro vw H4 ⟨w,M4,ρ4,s4,g4,r4,q4⟩
   exact⟨y,w,M4,ρ4,Q,s4,r2.grow (g3.trans g4),r4,q4,λv H' w'=>k v H' (VQ.trans ((g2.trans g3).trans g4) w')⟩
 | _=>exact q3.elim
theorem sC(ho:OpD X (compareOp op) r)(ho':OpD X (compareOp op') r')(ha:DE X a ta)(hb:DE X b tb)(hc:DE X c tc)(hm:lastMarks [op,op'] [b,c]=false:=by with_unfolding_all rfl) :
  DT X (.Compare a [op,op'] [b,c] pos) (aB (fS r r' ta tb tc)):=by
 refine PT.imp (qY ho ho' ha hb hc hm) λσ H R h=>?_
 obtain⟨S,M,ρ,Q,s,sr,q,k⟩:=fG σ H R h
 exact mT σ H _ ⟨S,M,ρ,Q,s,sr,q,k⟩
variable{tA tB:DTT}{az:List Expr}
def wC(t u:DTT):DTT:=λS M Q=>t S M λb M1=>if b=true then u S M1 Q else Q false M1
def dOr(t u:DTT):DTT:=λS M Q=>t S M λb M1=>if b=true then Q true M1 else u S M1 Q
def mY(t:DTT):DTT:=λS M Q=>t S M λb M1=>Q (!b) M1
theorem vU(ha:DT X a tA):DW X (.BoolOp .And [a] pos) tA:=um ha
theorem yG(ha:DT X a tA):DW X (.BoolOp .Or [a] pos) tA:=wX ha
theorem yH(ha:DT X a tA)(hb:DW X (.BoolOp .And (b::az) pos) tB):DW X (.BoolOp .And (a::b::az) pos) (wC tA tB):=by
 refine PW.imp (wY ha hb) ?_
 rintro σ H R ⟨S,M,ρ,Q,s,sr,q,k⟩
 refine⟨S,M,ρ,_,s,sr,q,?_⟩
 rintro c H1 ⟨M1,ρ1,s1,g1,q1⟩
 cases c with
 | true=>exact gf ⟨S,M1,ρ1,Q,s1,sr.grow g1,(show tB S M1 Q from q1),λv H' w=>k v H' (BQ.trans g1 w)⟩
 | false=>exact gg (k false H1 ⟨M1,ρ1,s1,g1,q1⟩)
theorem dw_or(ha:DT X a tA)(hb:DW X (.BoolOp .Or (b::az) pos) tB):DW X (.BoolOp .Or (a::b::az) pos) (dOr tA tB):=by
 refine PW.imp (pw_or ha hb) ?_
 rintro σ H R ⟨S,M,ρ,Q,s,sr,q,k⟩
 refine⟨S,M,ρ,_,s,sr,q,?_⟩
 rintro c H1 ⟨M1,ρ1,s1,g1,q1⟩
 cases c with
 | false=>exact gg ⟨S,M1,ρ1,Q,s1,sr.grow g1,(show tB S M1 Q from q1),λv H' w=>k v H' (BQ.trans g1 w)⟩
 | true=>exact gf (k true H1 ⟨M1,ρ1,s1,g1,q1⟩)
theorem dw_t(h:DW X e t):DT X e t:=PW.pt h
theorem yJ(ha:DT X a tA):DT X (.UnaryOp .Not a pos) (mY tA):=by
 refine PT.imp (xa ha) ?_
 rintro σ H R ⟨S,M,ρ,Q,s,sr,q,k⟩
 refine⟨S,M,ρ,_,s,sr,q,?_⟩
 rintro c H1 ⟨M1,ρ1,s1,g1,q1⟩
 exact k (!c) H1 ⟨M1,ρ1,s1,g1,q1⟩
def ka(ta tb:DTE):DTE:=λS M Q=>ta S M λx M1=>onB x λb=>if b=true then tb S M1 Q else Q (.bl false) M1
def dOrV(ta tb:DTE):DTE:=λS M Q=>ta S M λx M1=>onB x λb=>if b=true then Q (.bl true) M1 else tb S M1 Q
def pZ(ta:DTE):DTE:=λS M Q=>ta S M λx M1=>match x with
 | .bl b=>Q (.bl (!b)) M1
 | _=>False
theorem d_one{op}(h:DE X a ta):DE X (.BoolOp op [a] pos) ta:=xn h
theorem d_and(ha:DE X a ta)(hb:DE X (.BoolOp .And (b::az) pos) tb):DE X (.BoolOp .And (a::b::az) pos) (ka ta tb):=by
 refine PE.imp (xu ha hb) ?_
 rintro σ H R ⟨S,M,ρ,Q,s,sr,q,k⟩
 refine⟨S,M,ρ,_,s,sr,q,?_⟩
 rintro v H1 ⟨d,M1,ρ1,s1,g1,r1,q1⟩
 cases r1 with
 | bl c =>
  cases c with
  | true=>exact⟨true,rfl,gf ⟨S,M1,ρ1,Q,s1,sr.grow g1,(show tb S M1 Q from q1),λv H' w=>k v H' (VQ.trans g1 w)⟩⟩
  | false=>exact⟨false,rfl,gg (k _ H1 ⟨_,M1,ρ1,s1,g1,.bl false,(show Q (.bl false) M1 from q1)⟩)⟩
 | _=>exact q1.elim
theorem d_or(ha:DE X a ta)(hb:DE X (.BoolOp .Or (b::az) pos) tb):DE X (.BoolOp .Or (a::b::az) pos) (dOrV ta tb):=by
 refine PE.imp (pe_or ha hb) ?_
 rintro σ H R ⟨S,M,ρ,Q,s,sr,q,k⟩
 refine⟨S,M,ρ,_,s,sr,q,?_⟩
 rintro v H1 ⟨d,M1,ρ1,s1,g1,r1,q1⟩
 cases r1 with
 | bl c =>
  cases c with
  | false=>exact⟨false,rfl,gg ⟨S,M1,ρ1,Q,s1,sr.grow g1,(show tb S M1 Q from q1),λv H' w=>k v H' (VQ.trans g1 w)⟩⟩
  | true=>exact⟨true,rfl,gf (k _ H1 ⟨_,M1,ρ1,s1,g1,.bl true,(show Q (.bl true) M1 from q1)⟩)⟩
 | _=>exact q1.elim
theorem d_not(ha:DE X a ta):DE X (.UnaryOp .Not a pos) (pZ ta):=by
 refine PE.imp (xo ha) ?_
 rintro σ H R ⟨S,M,ρ,Q,s,sr,q,k⟩
 refine⟨S,M,ρ,_,s,sr,q,?_⟩
 rintro v H1 ⟨d,M1,ρ1,s1,g1,r1,q1⟩
 cases r1 with
 | bl c=>exact⟨c,rfl,k _ H1 ⟨_,M1,ρ1,s1,g1,.bl (!c),q1⟩⟩
 | _=>exact q1.elim
variable{e:Expr}{es:List Expr}{te:DTE}{t:DTA}
def am:DTA:=λ_ M Q=>Q [] M
def aa(te:DTE)(t:DTA):DTA:=λS M Q=>te S M λd M1=>t S M1 λds M2=>Q (d::ds) M2
theorem yX:DA X [] am:=by
 refine PA.imp oG ?_
 rintro σ H R ⟨S,M,ρ,Q,s,sr,q,k⟩
 exact k [] H ⟨[],M,ρ,s,.refl,.nil,q⟩
theorem wg(ha:DE X e te)(hr:DA X es t)(hs:starEach (e::es) X.env=(false,eval e X.env)::starEach es X.env:=by rfl):DA X (e::es) (aa te t):=by
 refine PA.imp (fw ha hr hs) ?_
 rintro σ H R ⟨S,M,ρ,Q,s,sr,q,k⟩
 refine⟨S,M,ρ,_,s,sr,q,?_⟩
 rintro v H1 ⟨d,M1,ρ1,s1,g1,r1,q1⟩
 refine⟨S,M1,ρ1,_,s1,sr.grow g1,q1,?_⟩
 rintro vs H2 ⟨ds,M2,ρ2,s2,g2,r2,q2⟩
 exact k _ H2 ⟨d::ds,M2,ρ2,s2,g1.trans g2,.cons (r1.grow g2) r2,q2⟩
def iN(t:DTA):DTE:=λS M Q=>t S M λds M1=>ds.length<=sizeLine/\Q (.tup ds) M1
def fP(t:DTA):DTE:=λS M Q=>t S M λds M1=>ds.length<=sizeLine/\Q (.ref M1.length) (M1++[.lst ds])
theorem VQ.laidT{K:AA}{ρ ρ1:List Addr}{H H1:Hp}{M1:Mem}{ds:List D}{vs:List V}{Q:DK}{p:Addr}(s1:Sim K ρ1 M1 H1)(g1:Grow K ρ H ρ1 H1)(r1:Reps K ρ1 H1 ds vs)(hp:H1 p=none)(q:Q (.tup ds) M1):VQ K ρ H Q (.ref p) (upd H1 p (.tup vs)) :=
 ⟨.tup ds,M1,ρ1,s1.laid hp,g1.trans (Grow.laid hp),.tup (SqT.of aL) (r1.grow (Grow.laid hp)),q⟩
theorem VQ.laidL{K:AA}{ρ ρ1:List Addr}{H H1:Hp}{M1:Mem}{ds:List D}{vs:List V}{Q:DK}{p:Addr}(s1:Sim K ρ1 M1 H1)(g1:Grow K ρ H ρ1 H1)(r1:Reps K ρ1 H1 ds vs)(hp:H1 p=none)(q:Q (.ref M1.length) (M1++[.lst ds])):VQ K ρ H Q (.ref p) (upd H1 p (.lst vs)) :=
 ⟨.ref M1.length,M1++[.lst ds],ρ1++[p],s1.laidL hp r1,g1.trans (Grow.laidR hp),.ref s1.last,q⟩
theorem d_tup{x1}(h:DA X es t):DE X (.Tuple es x1 pos) (iN t):=by
 refine PE.imp (xk h) ?_
 rintro σ H R ⟨S,M,ρ,Q,s,sr,q,k⟩
 refine⟨S,M,ρ,_,s,sr,q,?_⟩
 rintro vs H1 ⟨ds,M1,ρ1,s1,g1,r1,z,q1⟩
 exact⟨by rw[<-r1.length];exact z,λp hp=>k _ _ (VQ.laidT s1 g1 r1 hp q1)⟩
theorem d_lst(h:DA X es t):DE X (.List es pos) (fP t):=by
 refine PE.imp (xq h) ?_
 rintro σ H R ⟨S,M,ρ,Q,s,sr,q,k⟩
 refine⟨S,M,ρ,_,s,sr,q,?_⟩
 rintro vs H1 ⟨ds,M1,ρ1,s1,g1,r1,z,q1⟩
 exact⟨by rw[<-r1.length];exact z,λp hp=>k _ _ (VQ.laidL s1 g1 r1 hp q1)⟩
def dCB(r:DRA)(t:DTA):DTE:=λS M Q=>t S M λds M1=>r ds M1 Q
theorem oV{K:AA}{r:DRA}(σ:St)(H:Hp)(R:VK)(h:lowE K (dCB r t) σ H R):tCB (qC K r) (lowA K t) σ H R:=by
 obtain⟨S,M,ρ,Q,s,sr,q,k⟩:=h
 refine⟨S,M,ρ,_,s,sr,q,?_⟩
 rintro vs H1 ⟨ds,M1,ρ1,s1,g1,r1,q1⟩
 exact⟨ds,M1,ρ1,Q,s1,r1,q1,λv H' w=>k v H' (VQ.trans g1 w)⟩
theorem wm{x:Str}{p:Pos}{id:String}{r:DRA}(hc:gl X (.builtin id) r)(hm:X.mg x=none)(hv:bootBuiltins x=some (.builtin id))(ha:DA X (e::es) t)(hg:Gl X x:=by rfl)(hn:x≠"__name__":=by decide)(hdb:(x==("__debug__":Str))=false:=by decide)
  (he:starEach (e::es) X.env=(false,eval e X.env)::starEach es X.env:=by rfl) (hpl:(backTo pos (starEach es X.env)).any (·.1)=false:=by rfl):DE X (.Call (.Name x p) (e::es) [] pos) (dCB r t) :=
 PE.imp (ie hc hg hm hv ha hn hdb he hpl) oV
theorem sI(hc:gl X (.type T) r)(hm:X.mg x=none)(hv:bootBuiltins x=some (.type T))(ha:DA X (e::es) t)(hg:Gl X x:=by rfl)(hn:x≠"__name__":=by decide)(hdb:(x==("__debug__":Str))=false:=by decide)
  (he:starEach (e::es) X.env=(false,eval e X.env)::starEach es X.env:=by rfl) (hpl:(backTo pos (starEach es X.env)).any (·.1)=false:=by rfl):DE X (.Call (.Name x p) (e::es) [] pos) (dCB r t) :=
 PE.imp (oE hc hg hm hv ha hn hdb he hpl) oV
abbrev DSp:=List D->Mem->DK->Prop
def spL(K:AA)(P:DSp):Sp:=λvs H Q _=>∃ds M ρ R,Sim K ρ M H/\Reps K ρ H ds vs/\P ds M R/\∀v H',VQ K ρ H R v H'->Q v H'
theorem oU{K:AA}{P:DSp}(σ:St)(H:Hp)(R:VK)(h:lowE K (dCB P t) σ H R):wP (spL K P) [] E0 (lowA K t) σ H R:=by
 obtain⟨S,M,ρ,Q,s,sr,q,k⟩:=h
 exact⟨S,M,ρ,_,s,sr,q,λvs H1 ⟨ds,M1,ρ1,s1,g1,r1,q1⟩=>⟨ds,M1,ρ1,Q,s1,by rw[AAw];exact r1,q1,λv H' w=>k v H' (VQ.trans g1 w)⟩⟩
theorem zb(F:FnOk X.prog X.w X.K X.mg X.base CX0 k f fd ps (spL X.K P))(hr:Room k X.A)(hm:X.mg x=some (.ref f))(hk:ABF X.K (.ref f)=true)(hb:gm X.K fd ps [])
  (ha:DA X (e::es) t) (hg:Gl X x:=by rfl) (hdb:(x==("__debug__":Str))=false:=by decide) (he:starEach (e::es) X.env=(false,eval e X.env)::starEach es X.env:=by rfl) (hpl:(backTo pos (starEach es X.env)).any (·.1)=false:=by rfl) :
  DE X (.Call (.Name x p) (e::es) [] pos) (dCB P t):=PE.imp (uE F hr hg hm hk hb .nil pass0 ha hdb he hpl) oU
end
def bd:DTS:=λE S M=>E.nx S M
def aw(t u:DTS):DTS:=λE S M=>t { E with nx:=λS' M'=>u E S' M' } S M
theorem yO:DSs X [] bd:=by
 refine PSs.imp uv ?_
 rintro E σ H ⟨S,M,ρ,F,s,sr,q,k⟩
 exact k.nx σ H ⟨S,M,ρ,s,.refl,sr,q⟩
theorem yN{X:Cx}{st:Stmt}{t:DTS}(h:DS X st t):DSs X [st] t:=uu h
theorem wa{X:Cx}{st:Stmt}{az:List Stmt}{t u:DTS}(h1:DS X st t)(h2:DSs X az u):DSs X (st::az) (aw t u):=by
 refine PSs.imp (qZ h1 h2) ?_
 rintro E σ H ⟨S,M,ρ,F,s,sr,q,k⟩
 exact⟨S,M,ρ,_,s,sr,q,⟨λσ' H' ⟨S',M',ρ',s',g',sr',q'⟩=>⟨S',M',ρ',F,s',sr',q',k.trans g'⟩,k.rt,k.bk,k.ct⟩⟩
def jZ(te:DTE):DTS:=λE S M=>te S M λ_ M1=>E.nx S M1
theorem vY(he:DE X e te)(hs:swapsWith e none pos.line X.env=pure false:=by rfl):DS X (.Expr e pos) (jZ te):=by
 refine PS.imp (uw he hs) ?_
 rintro E σ H ⟨S,M,ρ,F,s,sr,q,k⟩
 refine⟨S,M,ρ,_,s,sr,q,?_⟩
 rintro v H1 ⟨d,M1,ρ1,s1,g1,r1,q1⟩
 exact k.nx σ H1 ⟨S,M1,ρ1,s1,g1,sr.grow g1,q1⟩
def cc(te:DTE):DTS:=λE S M=>te S M E.rt
theorem yM(he:DE X e te):DS X (.Return (some e) pos) (cc te):=by
 refine PS.imp (xc he) ?_
 rintro E σ H ⟨S,M,ρ,F,s,sr,q,k⟩
 exact⟨S,M,ρ,_,s,sr,q,λv H1 w=>k.rt v H1 w⟩
def dIf(c:DTT)(t u:DTS):DTS:=λE S M=>c S M λb M1=>if b=true then t E S M1 else u E S M1
theorem ds_if(hc:DT X c tc)(ha:DSs X a t)(hb:DSs X b u):DS X (.If c a b pos) (dIf tc t u):=by
 refine PS.imp (ps_if hc ha hb) ?_
 rintro E σ H ⟨S,M,ρ,F,s,sr,q,k⟩
 refine⟨S,M,ρ,_,s,sr,q,?_⟩
 rintro c H1 ⟨M1,ρ1,s1,g1,q1⟩
 cases c with
 | true=>exact gf ⟨S,M1,ρ1,F,s1,sr.grow g1,(show t F S M1 from q1),k.trans g1⟩
 | false=>exact gg ⟨S,M1,ρ1,F,s1,sr.grow g1,(show u F S M1 from q1),k.trans g1⟩
def aN(te:DTE)(i:Nat):DTS:=λE S M=>te S M λd M1=>E.nx (S.set i (some d)) M1
theorem yL(hN:X.N.Nodup)(he:DE X e te)(hi:X.N[i]?=some x:=by rfl)(hx:Loc X.env.scope x:=by first | exact Or.inl rfl | exact Or.inr rfl)(hs:swapsWith e (some (.Name x pos')) pos.line X.env=pure false:=by rfl)
  (hf:X.fn x=true\/X.env.scope.names.lookup x=some .local:=by first | exact .inl rfl | exact .inr rfl | assumption):DS X (.Assign [.Name x pos'] e pos) (aN te i):=by
 refine PS.imp (xb hN hi hx he hs hf) ?_
 rintro E σ H ⟨S,M,ρ,F,s,sr,q,k⟩
 refine⟨S,M,ρ,_,s,sr,q,?_⟩
 rintro v H1 ⟨d,M1,ρ1,s1,g1,r1,q1⟩
 exact k.nx _ H1 ⟨_,M1,ρ1,s1,g1,(sr.grow g1).set i r1,q1⟩
def ao(i:Nat):DTG:=λd S M Q=>Q (S.set i (some d)) M
theorem kY(hN:X.N.Nodup)(hi:X.N[i]?=some x:=by rfl)(hx:Loc X.env.scope x:=by first | exact Or.inl rfl | exact Or.inr rfl)(hf:X.fn x=true\/X.env.scope.names.lookup x=some .local:=by first | exact .inl rfl | exact .inr rfl | assumption):DG X (.Name x pos) (ao i) :=
 λpins s σ H v u R I r ⟨d,S,M,ρ,Q,sm,sr,rd,q,k⟩=>uB hN hi hx hf pins s σ H v u R I r (k _ H ⟨_,M,ρ,sm,.refl,sr.set i rd,q⟩)
theorem mD{P:Program}{w:World}{K:AA}{tg:Expr}(it:Addr)(n:Nat)(PV:Nat->Value->Prop)(PX:Nat->V->Prop)(Sx:Nat->Heap->Prop)
  (W:∀A':Around,A'.handled=none->Walks P w A' it [it] [it] n PV Sx) (hrel:∀i v,PV i v->∃x,aH x v/\PX i x)
  (hobj:∀i h,Sx i h->∃(o:Obj) (nm:String) (vs:Array Value),h.get? it=some o/\o.cls=.type nm/\o.data=.fields vs/\["enumerate","zip","dict_itemiterator","dict_reverseitemiterator","odict_iterator","itertools.zip_longest","itertools.pairwise"].contains nm=false)
  (hframe:∀(i:Nat) (h h':Heap),Sx i h->(∀o,h.get? it=some o->h'.get? it=some o)->Sx i h')
  (hself:∀(A:Around) (i:Nat) (s:Shared) (Q:Value->Shared->Prop) (E:Value->Shared->Prop),Sx i s.heap->Q (.ref it) s->wpAny (model P w) A (pyIter (.ref it)) Q E s) :
  Turn P w K tg ⟨λi _=>i<n,λi H x H'=>H'=H/\PX i x,λi _=>i=n⟩ [it] it Sx where
 mem:=by simp
 obj:=λi h st b hb=>by
  have e:b=it:=by simpa using hb
  subst e
  obtain⟨o,nm,vs,e,_,d,_⟩:=hobj i h st
  exact⟨o,e,λv z=>by rw[d]at z;cases z⟩
 keep:=λi h h' st k=>hframe i h h' st λo e=>k it (by simp) o e
 item:=by
  intro X hP hw hK hc i pins s σ H E I hf st hg
  subst hP hw hK
  obtain⟨f0,f1,f2,f3,f4,f5⟩:=hf it (by simp)
  refine(W X.A (I.ok.hd hc)).item i s _ _ hg st λv h' tk hv st' kk=>?_
  obtain⟨x,rx,px⟩:=hrel i v hv
  have I1:Inv X pins σ H { s with heap:=h',toks:=tk }:=I.turned (λb o hb e=>kk b o (by simpa using hb) e) f0 f1 f3 f4 f5
  obtain⟨o,nm,vs,e,c,d,hn⟩:=hobj _ _ st'
  exact⟨v,rfl,pO (s:={ s with heap:=h',toks:=tk }) e c d hn ⟨x,H,I1,rx,⟨rfl,px⟩,st',λb hb=>(hf b hb).1⟩⟩
 done:=by
  intro X hP hw hK hc i pins s σ H E I hf st hg
  subst hP hw hK
  obtain⟨f0,f1,f2,f3,f4,f5⟩:=hf it (by simp)
  have hi:i=n:=hg
  subst hi
  exact(W X.A (I.ok.hd hc)).done s _ _ st λh' tk kk=>⟨rfl,I.turned (λb o hb e=>kk b o (by simpa using hb) e) f0 f1 f3 f4 f5⟩
 self:=hself
noncomputable def oo(x:Str):List D:=x.cps.toList.map λc=>.str ⟨#[c]⟩
structure Src where
 items:List D
 ok:Mem->Prop
abbrev DTI:=SD->Mem->(Src->Mem->Prop)->Prop
structure ItD(K:AA)(src:Src)(ρ0:List Addr)(H0:Hp)(J:It):Prop where
 go:∀(i:Nat) ρ M H,Sim K ρ M H->Grow K ρ0 H0 ρ H->src.ok M->i<src.items.length->J.go i H
 yld:∀(i:Nat) ρ M H x H',Sim K ρ M H->Grow K ρ0 H0 ρ H->src.ok M->i<src.items.length->J.yld i H x H'->∃d ρ',src.items[i]?=some d/\Sim K ρ' M H'/\Grow K ρ H ρ' H'/\Rep K ρ' H' d x
 stop:∀(ρ:List Addr) M H,Sim K ρ M H->Grow K ρ0 H0 ρ H->src.ok M->J.stop src.items.length H
def IQ(K:AA)(ρ:List Addr)(H:Hp)(Q:Src->Mem->Prop):It->Hp->Prop:=λJ H'=>∃src M' ρ',Sim K ρ' M' H'/\Grow K ρ H ρ' H'/\ItD K src ρ' H' J/\Q src M'
def lowI(K:AA)(di:DTI):TI:=λσ H R=>∃S M ρ Q,Sim K ρ M H/\SRep K ρ H S σ/\di S M Q/\∀J H',IQ K ρ H Q J H'->R J H'
def DI(X:Cx)(tg iter:Expr)(di:DTI):Prop:=PI X tg iter (lowI X.K di)
theorem ItD.tup{K:AA}{ρ:List Addr}{H:Hp}{a:Addr}{vs:List V}{ds:List D}(h:SqT K H a vs)(r:Reps K ρ H ds vs)(uniq:∀ys,SqT K H a ys->ys=vs):ItD K ⟨ds,λ_=>True⟩ ρ H (Itt K a) where
 go:=λi ρ' M H' s g _ hi=>by
  have hl:i<vs.length:=by rw[<-r.length];exact hi
  exact⟨vs,vs[i],g.tup a vs h,AA1 hl⟩
 yld:=λi ρ' M H' x H2 s g _ hi y=>by
  obtain⟨rfl,y⟩:=y
  obtain⟨d,hd,rd⟩:=(r.grow g).getV (y vs (g.tup a vs h))
  exact⟨d,ρ',hd,s,.refl,rd⟩
 stop:=λρ' M H' s g _=>⟨vs,g.tup a vs h,by rw[<-r.length];exact AA8 _⟩
theorem ItD.lst{K:AA}{ρ:List Addr}{H:Hp}{n:Nat}{a:Addr}{ds:List D}(e:ρ[n]?=some a):ItD K ⟨ds,λM=>ah M n ds⟩ ρ H (Itl K a) where
 go:=λi ρ' M H' s g ok hi=>by
  obtain⟨vs,h,r⟩:=ah.seq s ok (aA g.pre e)
  have hl:i<vs.length:=by rw[<-r.length];exact hi
  exact⟨vs,vs[i],h,AA1 hl⟩
 yld:=λi ρ' M H' x H2 s g ok hi y=>by
  obtain⟨rfl,y⟩:=y
  obtain⟨vs,h,r⟩:=ah.seq s ok (aA g.pre e)
  obtain⟨d,hd,rd⟩:=r.getV (y vs h)
  exact⟨d,ρ',hd,s,.refl,rd⟩
 stop:=λρ' M H' s g ok=>by
  obtain⟨vs,h,r⟩:=ah.seq s ok (aA g.pre e)
  exact⟨vs,h,by rw[<-r.length];exact AA8 _⟩
theorem ItD.plain{K:AA}{ρ:List Addr}{H:Hp}{ds:List D}{J:It}(hg:∀i H,i<ds.length->J.go i H)(hy:∀i H x H',i<ds.length->J.yld i H x H'->H'=H/\∃d,ds[i]?=some d/\cV d=some x)(hs:∀H,J.stop ds.length H):ItD K ⟨ds,λ_=>True⟩ ρ H J where
 go:=λi ρ' M H' s g _ hi=>hg i H' hi
 yld:=λi ρ' M H' x H2 s g _ hi y=>by
  obtain⟨rfl,d,hd,hv⟩:=hy i _ x H2 hi y
  exact⟨d,ρ',hd,s,.refl,qp hv⟩
 stop:=λρ' M H' s g _=>hs H'
def eE(te:DTE):DTI:=λS M R=>te S M λd M1=>match d with
 | .tup ds=>ds.length<=sizeLine->R ⟨ds,λ_=>True⟩ M1
 | .str x=>R ⟨oo x,λ_=>True⟩ M1
 | .ref n=>∃xs,ah M1 n xs/\(xs.length<=sizeLine->R ⟨xs,λM=>ah M n xs⟩ M1)
 | _=>False
theorem yT(hl:DE X l tl):DI X tg l (eE tl):=by
 intro pins s σ H R I h
 obtain⟨S,M,ρ,Q,sm,sr,q,k⟩:=h
 refine thn (hl pins s σ H _ I ⟨S,M,ρ,_,sm,sr,q,λv H' w=>w⟩) ?_
 rintro u s1 ⟨v,H1,I1,rv,d,M1,ρ1,sm1,g1,r1,q1⟩
 cases r1 with
 | non=>exact q1.elim
 | bl b=>exact q1.elim
 | int i=>exact q1.elim
 | ty n=>exact q1.elim
 | @tup a vs ds hq r =>
  cases rv
  obtain⟨its,rr,p,hz⟩:=I1.tuple hq
  refine wpAny_pyIter_tuple (show s1.heap.IsTuple a its.toArray from p) ?_
  refine⟨s1.heap.objs.size,[s1.heap.objs.size],_,_,H1,rfl,I1.kept (t':=s1.toks) λb o e=>AA3 _ e,mE a _,⟨_,AAH _ rfl,rfl,rfl⟩,λb hb=>?_,k _ H1 ⟨⟨ds,λ_=>True⟩,M1,ρ1,sm1,g1,ItD.tup hq r λys hy=>I1.tuple_inj hy hq,?_⟩⟩
  ·have e:b=s1.heap.objs.size:=by simpa using hb
   subst e
   exact I1.fpOk (AA8 _) (I1.hok.fresh (AA8 _))
  ·exact(show ds.length<=sizeLine->Q ⟨ds,λ_=>True⟩ M1 from q1) (by rw[r.length];exact hz)
 | @ref n a hn =>
  cases rv
  obtain⟨xs,hL,q2⟩:=(show ∃xs,ah M1 n xs/\(xs.length<=sizeLine->Q ⟨xs,λM=>ah M n xs⟩ M1)from q1)
  obtain⟨vs,hq,r⟩:=ah.seq sm1 hL hn
  obtain⟨its,rr,p,hz⟩:=I1.list hq
  refine wpAny_pyIter_list p.isList ?_
  refine⟨s1.heap.objs.size,[s1.heap.objs.size],_,_,H1,rfl,I1.kept (t':=s1.toks) λb o e=>AA3 _ e,nI a _,⟨_,AAH _ rfl,rfl,rfl⟩,λb hb=>?_,k _ H1 ⟨⟨xs,λM=>ah M n xs⟩,M1,ρ1,sm1,g1,ItD.lst hn,q2 (by rw[r.length];exact hz)⟩⟩
  have e:b=s1.heap.objs.size:=by simpa using hb
  subst e
  exact I1.fpOk (AA8 _) (I1.hok.fresh (AA8 _))
 | str x =>
  obtain⟨t,rfl⟩:=rv
  have fin:∀(nm:String) (ob:Obj),(ob.cls=.type nm/\ob.data=.fields #[.str x t,.int 0 0]) ->
    (∀A':Around,A'.handled=none->Walks X.prog X.w A' s1.heap.objs.size [s1.heap.objs.size] [s1.heap.objs.size] x.cps.size (SignAt x) (λi h=>h.IsStrIter s1.heap.objs.size nm x t i)) ->
    (∀(A:Around) (i:Nat) (s:Shared) (Q:Value->Shared->Prop) (E:Value->Shared->Prop),s.heap.IsStrIter s1.heap.objs.size nm x t i->Q (.ref s1.heap.objs.size) s->wpAny (model X.prog X.w) A (pyIter (.ref s1.heap.objs.size)) Q E s) ->
    ["enumerate","zip","dict_itemiterator","dict_reverseitemiterator","odict_iterator","itertools.zip_longest","itertools.pairwise"].contains nm=false->(s1.heap.push ob).IsStrIter s1.heap.objs.size nm x t 0 ->
    PIE X pins σ tg R (.ref s1.heap.objs.size) { s1 with heap:=s1.heap.push ob }:=λnm ob hob W hself hnm st=>by
   refine⟨s1.heap.objs.size,[s1.heap.objs.size],_,_,H1,rfl,I1.kept (t':=s1.toks) λb o e=>AA3 _ e,
    mD (PX:=λi v=>∃c,x.cps[i]?=some c/\v=.str ⟨#[c]⟩) _ _ _ _ W (λi v ⟨c,u,e1,e2⟩=>⟨.str ⟨#[c]⟩,⟨u,e2⟩,c,e1,rfl⟩) (λi h st=>?_) (λi h h' st k=>?_) hself,st,λb hb=>?_,k _ H1 ⟨⟨oo x,λ_=>True⟩,M1,ρ1,sm1,g1,ItD.plain ?_ ?_ ?_,q1⟩⟩
   ·obtain⟨o,e,c,d⟩:=st
    exact⟨o,nm,_,e,c,d,hnm⟩
   ·obtain⟨o,e,r⟩:=st
    exact⟨o,k o e,r⟩
   ·have e:b=s1.heap.objs.size:=by simpa using hb
    subst e
    exact I1.fpOk (AA8 _) (I1.hok.fresh (AA8 _))
   ·intro i _ hi
    simpa [oo]using hi
   ·rintro i H x' H' _ ⟨rfl,c,e,rfl⟩
    exact⟨rfl,.str ⟨#[c]⟩,by simp[oo,e],rfl⟩
   ·intro H
    simp[oo]
  cases ha:x.cps.all (· < 128)
  ·exact wpAny_pyIter_wide ha (fin _ _ ⟨rfl,rfl⟩ (λA' hA=>Walks.strWide hA _ x t) (λ_ _ _ _ _ st h=>wpAny_pyIter_striter_wide st h) (by decide) ⟨_,AAH _ rfl,rfl,rfl⟩)
  ·exact wpAny_pyIter_ascii ha (fin _ _ ⟨rfl,rfl⟩ (λA' hA=>Walks.strAscii hA _ x t) (λ_ _ _ _ _ st h=>wpAny_pyIter_striter_ascii st h) (by decide) ⟨_,AAH _ rfl,rfl,rfl⟩)
noncomputable def dI(lo:Int)(n:Nat):List D:=(AAb n).map λi=>.int (lo+((i:Nat):Int))
theorem ItD.rng{K:AA}{ρ:List Addr}{H:Hp}(lo:Int)(n:Nat):ItD K ⟨dI lo n,λ_=>True⟩ ρ H (Itr lo n):=by
 refine ItD.plain (λi _ hi=>?_) (λi H x H' hi y=>?_) λH=>?_
 ·show i<n
  simpa [dI]using hi
 ·obtain⟨e,rfl⟩:=y
  have hi':i<n:=by simpa [dI]using hi
  exact⟨e,.int (lo+i),by simp[dI,hi'],rfl⟩
 ·show n<=(dI lo n).length
  simp[dI]
def aF(ta:DTA):DTI:=λS M R=>ta S M λds M1=>match ds with
 | [.int j]=>(-(2 ^ 62)<=j/\j<2 ^ 62)/\R ⟨dI 0 j.toNat,λ_=>True⟩ M1
 | _=>False
theorem PI.imp(h:PI X tg iter t')(i:∀σ H R,t σ H R->t' σ H R):PI X tg iter t:=λpins s σ H R I q=>h pins s σ H R I (i σ H R q)
theorem fH{K:AA}{ta:DTA}(σ:St)(H:Hp)(R:It->Hp->Prop)(h:lowI K (aF ta) σ H R):vM (lowA K ta) σ H R:=by
 obtain⟨S,M,ρ,Q,s,sr,q,k⟩:=h
 refine⟨S,M,ρ,_,s,sr,q,?_⟩
 rintro vs H1 ⟨ds,M1,ρ1,s1,g1,r1,q1⟩
 try dsimp only at q1
 split at q1
 ·rename_i j
  obtain⟨⟨h1,h2⟩,q2⟩:=q1
  first | have hzz:=Reps.inv_cons r1 | have hzz:=aq.inv_cons r1
  clear r1
  obtain⟨_,_,rfl,r,t⟩:=hzz
  cases r
  cases t
  exact⟨j,rfl,h1,h2,k _ H1 ⟨_,M1,ρ1,s1,g1,ItD.rng 0 j.toNat,q2⟩⟩
 ·exact q1.elim
theorem pT(hm:X.mg "range" = none)(ha:DA X [a] ta)(hg:Gl X "range":=by rfl)(hs:starEach [a] X.env=[(false,eval a X.env)]:=by rfl):DI X tg (.Call (.Name "range" p) [a] [] pos) (aF ta):=PI.imp (oA hg hm ha hs) fH
section
mutual
inductive Bel(k:Nat):D->Prop
 | non:Bel k .non
 | bl (b:Bool):Bel k (.bl b)
 | int (i:Int):Bel k (.int i)
 | str (x:Str):Bel k (.str x)
 | ty (n:String):Bel k (.ty n)
 | tup {ds:List D} (h:Bels k ds):Bel k (.tup ds)
 | ref {n:Nat} (h:n<k):Bel k (.ref n)
inductive Bels(k:Nat):List D->Prop
 | nil:Bels k []
 | cons {d:D}{ds:List D} (h:Bel k d) (t:Bels k ds):Bels k (d::ds)
end
noncomputable def MO.items:MO->List D
 | .lst xs=>xs
 | .fz xs=>xs
 | .kl xs=>xs
 | .dct kvs=>kvs.map (·.2)
 | .dkt kvs=>kvs.map (·.2)
 | .dkq _ kvs=>kvs.map (·.2)
 | .fdc _ kvs=>kvs.map (·.2)
 | .dkm kvs=>kvs.map (·.2)
 | .tb _ _=>[]
 | .exc _ _=>[]
theorem Rep.bel{K:AA}{ρ:List Addr}{H:Hp}{d:D}{v:V}(h:Rep K ρ H d v):Bel ρ.length d :=
 Rep.rec (motive_1:=λd v _=>Bel ρ.length d) (motive_2:=λds vs _=>Bels ρ.length ds) .non .bl .int .str .ty (λ_ _ r=>.tup r) (λh=>.ref (AA4.mp h).1) .nil (λ_ _ h t=>.cons h t) h
theorem Reps.bel{K:AA}{ρ:List Addr}{H:Hp}{ds:List D}{vs:List V}(h:Reps K ρ H ds vs):Bels ρ.length ds :=
 Reps.rec (motive_1:=λd v _=>Bel ρ.length d) (motive_2:=λds vs _=>Bels ρ.length ds) .non .bl .int .str .ty (λ_ _ r=>.tup r) (λh=>.ref (AA4.mp h).1) .nil (λ_ _ h t=>.cons h t) h
theorem Bel.inv(b:Bel k d):(∀ds,d=.tup ds->Bels k ds)/\∀n,d=.ref n->n<k:=by
 cases b with
 | tup b=>exact⟨(λ_ e=>by injection e with e;exact e ▸ b),(λ_ e=>by cases e)⟩
 | ref b=>exact⟨(λ_ e=>by cases e),(λ_ e=>by injection e with e;exact e ▸ b)⟩
 | _=>exact⟨(λ_ e=>by cases e),(λ_ e=>by cases e)⟩
theorem Bels.inv{k:Nat}{d:D}{ds:List D}(b:Bels k (d::ds)):Bel k d/\Bels k ds:=by
 cases b with
 | cons b c=>exact⟨b,c⟩
theorem Rep.cut{K:AA}{ρ:List Addr}{H:Hp}{k:Nat}{d:D}{v:V}(h:Rep K ρ H d v):Bel k d->Rep K (ρ.take k) H d v :=
 Rep.rec (motive_1:=λd v _=>Bel k d->Rep K (ρ.take k) H d v) (motive_2:=λds vs _=>Bels k ds->Reps K (ρ.take k) H ds vs) (λ_=>.non) (λb _=>.bl b) (λb _=>.int b) (λb _=>.str b) (λb _=>.ty b) (λh _ r b=>.tup h (r (b.inv.1 _ rfl)))
  (λh b=>.ref (by rw[AAv (b.inv.2 _ rfl)];exact h)) (λ_=>.nil) (λ_ _ h t b=>.cons (h b.inv.1) (t b.inv.2)) h
theorem Reps.cut{K:AA}{ρ:List Addr}{H:Hp}{k:Nat}{ds:List D}{vs:List V}(h:Reps K ρ H ds vs):Bels k ds->Reps K (ρ.take k) H ds vs :=
 Reps.rec (motive_1:=λd v _=>Bel k d->Rep K (ρ.take k) H d v) (motive_2:=λds vs _=>Bels k ds->Reps K (ρ.take k) H ds vs) (λ_=>.non) (λb _=>.bl b) (λb _=>.int b) (λb _=>.str b) (λb _=>.ty b) (λh _ r b=>.tup h (r (b.inv.1 _ rfl)))
  (λh b=>.ref (by rw[AAv (b.inv.2 _ rfl)];exact h)) (λ_=>.nil) (λ_ _ h t b=>.cons (h b.inv.1) (t b.inv.2)) h
theorem Bel.mono{j k:Nat}(h:j<=k){d:D}(b:Bel j d):Bel k d :=
 Bel.rec (motive_1:=λd _=>Bel k d) (motive_2:=λds _=>Bels k ds) .non .bl .int .str .ty (λ_ b=>.tup b) (λb=>.ref (AAF b h)) .nil (λ_ _ b c=>.cons b c) b
theorem Bels.mono{j k:Nat}(h:j<=k){ds:List D}(b:Bels j ds):Bels k ds :=
 Bels.rec (motive_1:=λd _=>Bel k d) (motive_2:=λds _=>Bels k ds) .non .bl .int .str .ty (λ_ b=>.tup b) (λb=>.ref (AAF b h)) .nil (λ_ _ b c=>.cons b c) b
theorem Bels.of:∀{xs:List D},(∀d∈xs,Bel k d)->Bels k xs
 | [],_=>.nil
 | d::ds,h=>.cons (h d AAI) (Bels.of λe he=>h e (AAA _ he))
section
variable{K:AA}{ρ ρ':List Addr}{H H':Hp}{M M':Mem}
theorem lY:∀(n:Nat) (d:D),wz n d=true->Bel k d:=by
 intro n
 induction n with
 | zero =>
  intro d h
  cases d with
  | str x=>exact .str x
  | int x=>exact .int x
  | _=>cases h
 | succ n ih =>
  intro d h
  cases d with
  | str x=>exact .str x
  | int x=>exact .int x
  | tup ds=>exact .tup (Bels.of λx hx=>ih x (AAc.mp (show ds.all (wz n)=true from h) x hx))
  | _=>cases h
theorem ph(r:Paired (wD K ρ H) kvs xs):Bels ρ.length (kvs.map (·.2)):=by
 induction r with
 | nil=>exact .nil
 | cons q _ ih =>
  obtain⟨_,_,_,v,q4,_⟩:=q
  exact .cons q4.bel ih
theorem pf(r:Paired (wD K ρ H) kvs xs)(b:Bels k (kvs.map (·.2))):Paired (wD K (ρ.take k) H) kvs xs:=by
 induction r with
 | nil=>exact .nil
 | cons q _ ih =>
  obtain⟨q1,q2,q3,v,q4,q5⟩:=q
  rw[AAQ]at b
  cases b with
  | cons b1 b2=>exact .cons ⟨q1,q2,q3.cut (lY _ _ q2),v,q4.cut b1,q5⟩ (ih b2)
theorem rY:∀(d:D),keyM d=true->Bel k d
 | .non,_=>.non
 | .tup ks,h=>lY 8 _ h
 | .bl _,h=>nomatch h
 | .int _,h=>nomatch h
 | .str _,h=>nomatch h
 | .ty _,h=>nomatch h
 | .ref _,h=>nomatch h
theorem ve(r:Paired (KvM K ρ H) kvs xs):Bels ρ.length (kvs.map (·.2)):=by
 induction r with
 | nil=>exact .nil
 | cons q _ ih =>
  obtain⟨_,_,_,v,q4,_⟩:=q
  exact .cons q4.bel ih
theorem vd(r:Paired (KvM K ρ H) kvs xs)(b:Bels k (kvs.map (·.2))):Paired (KvM K (ρ.take k) H) kvs xs:=by
 induction r with
 | nil=>exact .nil
 | cons q _ ih =>
  obtain⟨q1,q2,⟨u,q3,q3'⟩,v,q4,q5⟩:=q
  rw[AAQ]at b
  cases b with
  | cons b1 b2=>exact .cons ⟨q1,q2,⟨u,q3.cut (rY _ q2),q3'⟩,v,q4.cut b1,q5⟩ (ih b2)
theorem nz.bels(h:nz K ρ H a mo):Bels ρ.length mo.items:=by
 cases mo with
 | lst ds=>obtain⟨vs,_,r⟩:=h;exact r.bel
 | fz ds=>obtain⟨o,vs,_,r⟩:=h;exact r.bel
 | kl ds=>obtain⟨vs,_,r⟩:=h;exact r.bel
 | dct kvs=>obtain⟨vs,_,r⟩:=h;exact r.bel
 | dkt kvs=>obtain⟨_,_,_,xs,_,r⟩:=h;exact ph r
 | dkq _ kvs=>obtain⟨_,_,_,xs,_,r⟩:=h;exact ph r
 | fdc o kvs=>obtain⟨vs,_,r⟩:=h;exact r.bel
 | dkm kvs=>obtain⟨_,_,_,xs,_,r⟩:=h;exact ve r
 | tb x b=>exact .nil
 | exc x e=>exact .nil
theorem nz.cut(h:nz K ρ H a mo)(b:Bels k mo.items):nz K (ρ.take k) H a mo:=by
 cases mo with
 | lst ds=>obtain⟨vs,e,r⟩:=h;exact⟨vs,e,r.cut b⟩
 | fz ds=>obtain⟨o,vs,e,r⟩:=h;exact⟨o,vs,e,r.cut b⟩
 | kl ds=>obtain⟨vs,e,r⟩:=h;exact⟨vs,e,r.cut b⟩
 | dct kvs=>obtain⟨vs,e,r⟩:=h;exact⟨vs,e,r.cut b⟩
 | dkt kvs=>obtain⟨h1,h2,h3,xs,e,r⟩:=h;exact⟨h1,h2,h3,xs,e,pf r b⟩
 | dkq _ kvs=>obtain⟨h1,h2,h3,xs,e,r⟩:=h;exact⟨h1,h2,h3,xs,e,pf r b⟩
 | fdc o kvs=>obtain⟨vs,e,r⟩:=h;exact⟨vs,e,r.cut b⟩
 | dkm kvs=>obtain⟨h1,h2,h3,xs,e,r⟩:=h;exact⟨h1,h2,h3,xs,e,vd r b⟩
 | tb x b=>exact h
 | exc x e=>exact h
theorem Sim.bels(S:Sim K ρ M H){n:Nat}{mo:MO}(e:M[n]?=some mo):Bels M.length mo.items:=by
 obtain⟨a,_,h⟩:=S.get e
 rw[<-S.len]
 exact h.bels
theorem Sim.cut(S:Sim K ρ M H)(k:Nat)(hb:∀(n:Nat) (mo:MO),n<k->M[n]?=some mo->Bels k mo.items):Sim K (ρ.take k) (M.take k) H:=by
 have lt:∀{n:Nat}{a:Addr},(ρ.take k)[n]?=some a->n<k/\ρ[n]?=some a:=λ{n a} e=>by
  have h1:=(AA4.mp e).1
  rw[ABA]at h1
  have h2:n<k:=by lia
  rw[AAv h2]at e
  exact⟨h2,e⟩
 refine⟨λn m a hne e1 e2=>?_,by rw[ABA,ABA,S.len],λn a mo e1 e2=>?_⟩
 ·obtain⟨l1,f1⟩:=lt e1
  obtain⟨l2,f2⟩:=lt e2
  rw[AAv l1,AAv l2]
  exact S.nd n m a hne f1 f2
 ·obtain⟨l1,f1⟩:=lt e1
  rw[AAv l1]at e2
  exact(S.obj n a mo f1 e2).cut (hb n mo l1 e2)
theorem SRep.cut(r:SRep K ρ H S σ)(hl:S'.length=S.length)(h:∀(i:Nat) d,S'[i]?=some (some d)->S[i]?=some (some d)/\Bel k d):SRep K (ρ.take k) H S' σ :=
 ⟨hl.trans r.len,λi d e=>let ⟨e',b⟩:=h i d e;let ⟨v,hv,rv⟩:=r.get i d e';⟨v,hv,rv.cut b⟩⟩
theorem Grow.cut(g:Grow K ρ H ρ' H')(h:ρ.length<=k):Grow K ρ H (ρ'.take k) H':=by
 refine⟨?_,g.tup⟩
 obtain⟨t,rfl⟩:=g.pre
 rw[List.take_append]
 rw[AB1 h]
 exact AAu _ _
end
inductive FgtS(k:Nat):SD->SD->Prop
 | nil:FgtS k [] []
 | keep {d:D}{S S':SD} (h:Bel k d) (t:FgtS k S S'):FgtS k (some d::S) (some d::S')
 | drop {o:Option D}{S S':SD} (t:FgtS k S S'):FgtS k (o::S) (none::S')
theorem FgtS.len(h:FgtS k S S'):S'.length=S.length:=by
 induction h with
 | nil=>rfl
 | keep _ _ ih=>rw[AAW,AAW,ih]
 | drop _ ih=>rw[AAW,AAW,ih]
theorem FgtS.get(h:FgtS k S S'):∀(i:Nat) d,S'[i]?=some (some d)->S[i]?=some (some d)/\Bel k d:=by
 induction h with
 | nil=>intro i d e;simp at e
 | keep b _ ih =>
  intro i d e
  cases i with
  | zero=>simp at e;subst e;exact⟨rfl,b⟩
  | succ i=>exact ih i d (by simpa using e)
 | drop _ ih =>
  intro i d e
  cases i with
  | zero=>simp at e
  | succ i=>exact ih i d (by simpa using e)
def Fgt(M0:Mem)(P:SD->Mem->Prop)(S:SD)(M:Mem):Prop :=
 P S M\/(∃k S',M0.length<=k/\FgtS k S S'/\(∀(n:Nat) mo,n<k->M[n]?=some mo->Bels k mo.items)/\P S' (M.take k))\/∃S',FgtS M0.length S S'/\M0 <+: M/\P S' M0
theorem qO{α:Type}{l l':List α}(h:l <+: l'):l'.take l.length=l:=by
 obtain⟨t,rfl⟩:=h
 rw[List.take_append_of_le_length (AA8 _),ACb]
theorem SQ.fgt{K:AA}{ρ:List Addr}{H:Hp}{M0:Mem}{P:SD->Mem->Prop}{σ':St}{H':Hp}(s0:Sim K ρ M0 H)(h:SQ K ρ H (Fgt M0 P) σ' H'):SQ K ρ H P σ' H':=by
 have hk:ρ.length<=M0.length:=by rw[s0.len];exact AA8 _
 obtain⟨S',M',ρ',s',g',sr',q'⟩:=h
 rcases q' with q' | ⟨k,S2,h1,h2,h4,q⟩|⟨S2,h2,hp,q⟩
 ·exact⟨S',M',ρ',s',g',sr',q'⟩
 ·exact⟨S2,M'.take k,ρ'.take k,s'.cut k h4,g'.cut (AAn hk h1),sr'.cut h2.len h2.get,q⟩
 ·have sc:=s'.cut M0.length λn mo hn e=>by
   obtain⟨t,rfl⟩:=hp
   rw[AAC hn]at e
   exact s0.bels e
  rw[qO hp]at sc
  exact⟨S2,M0,ρ'.take M0.length,sc,g'.cut hk,sr'.cut h2.len h2.get,q⟩
def jY(ok:Mem->Prop)(g:DTG)(tb:DTS)(E:DEnds)(k0:Mem):List D->SD->Mem->Prop
 | [],S,M=>ok M/\E.nx S M
 | x::xs,S,M=>ok M/\g x S M λS2 M2=>tb ⟨Fgt k0 (jY ok g tb E k0 xs),E.rt,E.nx,Fgt k0 (jY ok g tb E k0 xs)⟩ S2 M2
def gk(di:DTI)(g:DTG)(tb:DTS):DTS:=λE S M=>di S M λsrc M1=>jY src.ok g tb E M1 src.items S M1
theorem jX{α:Type}{l:List α}{i:Nat}{x:α}(h:l[i]?=some x):l.drop i=x::l.drop (i+1):=by
 obtain⟨hi,e⟩:=AA4.mp h
 rw[List.drop_eq_getElem_cons hi,e]
theorem rJ{K:AA}{di:DTI}{g:DTG}{tb:DTS}(E:Ends)(σ:St)(H:Hp)(h:lowS K (gk di g tb) E σ H):tFor (lowI K di) (lowG K g) (lowS K tb) E σ H:=by
 obtain⟨S,M,ρ,F,s,sr,q,k⟩:=h
 refine⟨S,M,ρ,_,s,sr,q,?_⟩
 rintro J H1 ⟨src,M1,ρ1,s1,g1,it,q1⟩
 have k1:=k.trans g1
 refine⟨λi m τ H2=>∃S2 M2 ρ2,Sim K ρ2 M2 H2/\Grow K ρ1 H1 ρ2 H2/\SRep K ρ2 H2 S2 τ/\i<=src.items.length/\m=src.items.length-i/\jY src.ok g tb F M1 (src.items.drop i) S2 M2,
  ⟨_,S,M1,ρ1,s1,.refl,sr.grow g1,AAZ _,rfl,q1⟩,?_⟩
 rintro i m τ H2 ⟨S2,M2,ρ2,s2,g2,sr2,hi,rfl,q2⟩
 by_cases hlt:i<src.items.length
 ·have hx:src.items[i]?=some src.items[i]:=AA1 hlt
  rw[jX hx]at q2
  obtain⟨ok,q3⟩:=(show src.ok M2/\g src.items[i] S2 M2 _ from q2)
  refine .inr ⟨it.go i ρ2 M2 H2 s2 g2 ok hlt,_,λτ' H' z=>z,λx H3 y=>?_⟩
  obtain⟨d,ρ3,hd,s3,g3,r3⟩:=it.yld i ρ2 M2 H2 x H3 s2 g2 ok hlt y
  have ed:d=src.items[i]:=AAN (hd.symm.trans hx)
  subst ed
  refine⟨_,S2,M2,ρ3,_,s3,sr2.grow g3,r3,q3,?_⟩
  rintro τ4 H4 ⟨S4,M4,ρ4,s4,g4,sr4,q4⟩
  have g14:=(g2.trans g3).trans g4
  refine⟨S4,M4,ρ4,_,s4,sr4,q4,?_⟩
  have again:∀τ5 H5,SQ K ρ4 H4 (Fgt M1 (jY src.ok g tb F M1 (src.items.drop (i+1)))) τ5 H5 ->
    ∃m',m' < src.items.length-i/\∃S2 M2 ρ2,Sim K ρ2 M2 H5/\Grow K ρ1 H1 ρ2 H5/\SRep K ρ2 H5 S2 τ5/\i+1<=src.items.length/\m'=src.items.length-(i+1)/\jY src.ok g tb F M1 (src.items.drop (i+1)) S2 M2:=λτ5 H5 z=>by
   obtain⟨S5,M5,ρ5,s5,g5,sr5,q5⟩:=SQ.fgt (ρ:=ρ1) (H:=H1) s1 (SQ.trans g14 z)
   exact⟨_,by lia,S5,M5,ρ5,s5,g5,sr5,hlt,rfl,q5⟩
  exact⟨again,λv H5 z=>k1.rt v H5 (VQ.trans g14 z),λτ5 H5 z=>k1.nx τ5 H5 (SQ.trans g14 z),again⟩
 ·have e:i=src.items.length:=by lia
  subst e
  rw[List.drop_of_length_le (AA8 _)]at q2
  obtain⟨ok,q3⟩:=(show src.ok M2/\F.nx S2 M2 from q2)
  exact .inl ⟨it.stop ρ2 M2 H2 s2 g2 ok,k1.nx τ H2 ⟨S2,M2,ρ2,s2,g2,sr2,q3⟩⟩
theorem yP(hi:DI X tg iter di)(hg:DG X tg g)(hb:DSs X body tb)(hp:PassesOwn (model X.prog X.w) X.A X.env X.xe:=by exact PassesOwn.never)(hc:X.calm=true:=by rfl)
  (hs:∀x,foldedSetIterable iter X.env x=pure x:=by intro _;rfl):DS X (.For tg iter body [] pos) (gk di g tb):=PS.imp (xf hp hc hi hg hb hs) rJ
noncomputable def yW(nt:Nat)(js:List Nat)(S:SD):SD:=ABa nt none++js.map λj=>(S[j]?).join
def fR(ok:Mem->Prop)(g:DTG)(tt:DTT)(te:DTE)(Q:DK):List D->List D->SD->Mem->Prop
 | [],acc,S,M=>ok M/\Q (.ref M.length) (M++[.lst acc])
 | x::xs,acc,S,M=>ok M/\g x S M λS2 M2=>tt S2 M2 λb M3=>if b=true then te S2 M3 λy M4=>acc.length<sizeLine/\fR ok g tt te Q xs (acc++[y]) S2 M4 else fR ok g tt te Q xs acc S2 M3
def dLC(nt:Nat)(js:List Nat)(di:DTI)(g:DTG)(tt:DTT)(te:DTE):DTE:=λS M Q=>di S M λsrc M1=>fR src.ok g tt te Q src.items [] (yW nt js S) M1
theorem SRep.bst{K:AA}{ρ:List Addr}{H:Hp}{S:SD}{σ:St}(r:SRep K ρ H S σ)(nt:Nat)(js:List Nat):SRep K ρ H (yW nt js S) (L2.bst nt js σ):=by
 refine⟨by simp[yW,qr],λi d e=>?_⟩
 unfold yW at e
 unfold L2.bst
 by_cases hi:i<nt
 ·rw[AAC (by simpa using hi),ABk]at e
  simp[hi]at e
 ·rw[AAR (by simpa using Nat.not_lt.mp hi),ABs,AAP]at e
  rw[AAR (by simpa using Nat.not_lt.mp hi),ABs,AAP]
  cases q:js[i-nt]? with
  | none=>rw[q]at e;cases e
  | some j =>
   rw[q]at e
   have e':(S[j]?).join=some d:=by simpa using e
   cases q2:S[j]? with
   | none=>rw[q2]at e';cases e'
   | some o =>
    rw[q2]at e'
    have e2:o=some d:=e'
    subst e2
    obtain⟨v,hv,rv⟩:=r.get j d q2
    exact⟨v,by simp[hv],rv⟩
theorem kM{K:AA}{nt:Nat}{js:List Nat}{di:DTI}{g:DTG}{tt:DTT}{te:DTE}(σ:St)(H:Hp)(R:VK)(h:lowE K (dLC nt js di g tt te) σ H R):tLC nt js (lowI K di) (lowG K g) (lowT K tt) (lowE K te) σ H R:=by
 obtain⟨S,M,ρ,Q,s,sr,q,k⟩:=h
 refine⟨S,M,ρ,_,s,sr,q,?_⟩
 rintro J H1 ⟨src,M1,ρ1,s1,g1,it,q1⟩
 refine⟨λi m vs τ H2=>∃S2 M2 ρ2 acc,Sim K ρ2 M2 H2/\Grow K ρ1 H1 ρ2 H2/\SRep K ρ2 H2 S2 τ/\Reps K ρ2 H2 acc vs/\i<=src.items.length/\m=src.items.length-i/\fR src.ok g tt te Q (src.items.drop i) acc S2 M2,
  ⟨_,_,M1,ρ1,[],s1,.refl,(sr.grow g1).bst nt js,.nil,AAZ _,rfl,q1⟩,?_⟩
 rintro i m vs τ H2 ⟨S2,M2,ρ2,acc,s2,g2,sr2,ra,hi,rfl,q2⟩
 by_cases hlt:i<src.items.length
 ·have hx:src.items[i]?=some src.items[i]:=AA1 hlt
  rw[jX hx]at q2
  obtain⟨ok,q3⟩:=(show src.ok M2/\g src.items[i] S2 M2 _ from q2)
  refine .inr ⟨it.go i ρ2 M2 H2 s2 g2 ok hlt,λx H3 y=>?_⟩
  obtain⟨d,ρ3,hd,s3,g3,r3⟩:=it.yld i ρ2 M2 H2 x H3 s2 g2 ok hlt y
  have ed:d=src.items[i]:=AAN (hd.symm.trans hx)
  subst ed
  refine⟨_,S2,M2,ρ3,_,s3,sr2.grow g3,r3,q3,?_⟩
  rintro τ4 H4 ⟨S4,M4,ρ4,s4,g4,sr4,q4⟩
  refine⟨S4,M4,ρ4,_,s4,sr4,q4,?_⟩
  rintro b H5 ⟨M5,ρ5,s5,g5,q5⟩
  have g15:=((g2.trans g3).trans g4).trans g5
  cases b with
  | false=>exact gg ⟨_,by lia,S4,M5,ρ5,acc,s5,g15,sr4.grow g5,ra.grow ((g3.trans g4).trans g5),hlt,rfl,(show fR src.ok g tt te Q (src.items.drop (i+1)) acc S4 M5 from q5)⟩
  | true =>
   refine gf ⟨S4,M5,ρ5,_,s5,sr4.grow g5,(show te S4 M5 _ from q5),?_⟩
   rintro v H6 ⟨y',M6,ρ6,s6,g6,r6,hl,q6⟩
   have ra6:=ra.grow (((g3.trans g4).trans g5).trans g6)
   exact⟨by rw[<-ra.length];exact hl,_,by lia,S4,M6,ρ6,acc++[y'],s6,g15.trans g6,sr4.grow (g5.trans g6),ra6.append (.cons r6 .nil),hlt,rfl,q6⟩
 ·have e:i=src.items.length:=by lia
  subst e
  rw[List.drop_of_length_le (AA8 _)]at q2
  obtain⟨ok,q3⟩:=(show src.ok M2/\Q (.ref M2.length) (M2++[.lst acc])from q2)
  exact .inl ⟨it.stop ρ2 M2 H2 s2 g2 ok,λp hp=>k _ _ (VQ.laidL s2 (g1.trans g2) ra hp q3)⟩
theorem d_lc(B:BlkSc X N' nt js scope)(hi:DI X tg iter di)
  (hg:∀cl s0 H0 ex,DG (blk X N' scope cl s0 H0 ex) tg g) (ht:∀cl s0 H0 ex,PTs (blk X N' scope cl s0 H0 ex) ifs (lowT X.K tt)) (he:∀cl s0 H0 ex,DE (blk X N' scope cl s0 H0 ex) elt te) (hc:X.calm=true:=by rfl)
  (hs:∀x,foldedSetIterable iter X.env x=pure x:=by intro _;rfl):DE X (.ListComp elt [⟨tg,iter,ifs,0⟩] scope pos) (dLC nt js di g tt te):=PE.imp (pe_lc (g:=lowG X.K g) (tt:=lowT X.K tt) (te:=lowE X.K te) B hc hi (λcl s0 H0 ex=>hg cl s0 H0 ex) ht (λcl s0 H0 ex=>he cl s0 H0 ex) hs) kM
def pY:DTT:=λ_ M Q=>Q true M
theorem vW:PTs X [] (lowT X.K pY):=λpins s σ H R I ⟨S,M,ρ,Q,sm,sr,q,k⟩=>ur pins s σ H R I (k true H ⟨M,ρ,sm,.refl,q⟩)
theorem vV(h:DT X c t):PTs X [c] (lowT X.K t):=uq h
def Chg(M M1:Mem):Prop:=M1.length=M.length/\∀(i:Nat) (mo:MO),M1[i]?=some mo->M[i]?=some mo\/Bels M.length mo.items
theorem Chg.refl:Chg M M:=⟨rfl,λ_ _ h=>.inl h⟩
def ba(M:Mem)(R:DK):DK:=λd M'=>R d M'\/(∃M1,Chg M M1/\Bel M.length d/\M1 <+: M'/\R d M1)\/∃M1 n xs,Chg M M1/\d=.ref n/\M.length<=n/\M'[n]?=some (.lst xs)/\M1 <+: M'/\Bels M.length xs/\R (.ref M.length) (M1++[.lst xs])
theorem aR{α:Type}{l l':List α}(h:l <+: l'):l'.take l.length=l:=by
 obtain⟨t,rfl⟩:=h
 rw[List.take_append_of_le_length (AA8 _),ACb]
theorem VQ.endq{K:AA}{ρ:List Addr}{M:Mem}{H:Hp}{R:DK}{v:V}{H':Hp}(s:Sim K ρ M H)(h:VQ K ρ H (ba M R) v H'):VQ K ρ H R v H':=by
 obtain⟨d,M',ρ',s',g',r',q'⟩:=h
 have hρ:ρ'.take M.length=ρ:=by rw[<-s.len];exact aR g'.pre
 rcases q' with q | ⟨M1,c,b,pre,q⟩|⟨M1,n,xs,c,rfl,hnM,e,pre,b,q⟩
 ·exact⟨d,M',ρ',s',g',r',q⟩
 ·have sc:=s'.cut M.length λn mo hn e=>by
   have e':M1[n]?=some mo:=by
    obtain⟨t,rfl⟩:=pre
    rw[AAC (by rw[c.1];exact hn)]at e
    exact e
   exact(c.2 n mo e').elim (λz=>s.bels z) id
  have tk:M'.take M.length=M1:=by rw[<-c.1];exact aR pre
  rw[hρ,tk]at sc
  have rc:=r'.cut b
  rw[hρ]at rc
  exact⟨d,M1,ρ,sc,⟨ABv,g'.tup⟩,rc,q⟩
 ·have sc:=s'.cut M.length λn mo hn e=>by
   have e':M1[n]?=some mo:=by
    obtain⟨t,rfl⟩:=pre
    rw[AAC (by rw[c.1];exact hn)]at e
    exact e
   exact(c.2 n mo e').elim (λz=>s.bels z) id
  have tk:M'.take M.length=M1:=by rw[<-c.1];exact aR pre
  rw[hρ,tk]at sc
  obtain⟨a,rfl,hn⟩:=Rep.inv_ref r'
  obtain⟨vs,hH,rr⟩:=s'.obj n a _ hn e
  have rc:=rr.cut b
  rw[hρ]at rc
  have g2:Grow K ρ H' (ρ++[a]) H':=⟨AAu _ _,λ_ _ h=>h⟩
  have old:∀(m:Nat),ρ[m]?=some a->isK M1[m]?:=λm em=>by
   have hm:m≠n:=λz=>by
    have:m<M.length:=by rw[<-s.len];exact(AA4.mp em).1
    lia
   have q:=s'.nd m n a hm (aA g'.pre em) hn
   have hlt:m<M.length:=by rw[<-s.len];exact(AA4.mp em).1
   rcases q with⟨ds,z⟩|⟨ds,z⟩
   ·refine⟨ds,?_⟩
    have hlt1:m<M1.length:=by rw[c.1];exact hlt
    have:=aA pre (AA1 hlt1)
    rw[z]at this
    rw[AA1 hlt1]
    exact this.symm
   ·rw[e]at z;cases z
  refine⟨.ref M.length,M1++[.lst xs],ρ++[a],⟨λn1 m1 a1 hne e1 e2=>?_,by rw[AAL,AAL,sc.len];rfl,λn1 a1 mo e1 e2=>?_⟩,⟨AAu _ _,g'.tup⟩,.ref (by have:=sc.last (p:=a);rw[c.1]at this;exact this),q⟩
  ·rcases ay e1 with f1 | ⟨f1,w1⟩
   ·rcases ay e2 with f2 | ⟨f2,w2⟩
    ·exact(sc.nd n1 m1 a1 hne f1 f2).elim (λz=>.inl z.more) λz=>.inr z.more
    ·subst w2
     exact .inl (old n1 f1).more
   ·rcases ay e2 with f2 | ⟨f2,w2⟩
    ·subst w1
     exact .inr (old m1 f2).more
    ·exact absurd (f1.trans f2.symm) hne
  ·rcases ay e1 with f1 | ⟨f1,w1⟩
   ·have hn1:n1<M1.length:=by rw[<-sc.len];exact(AA4.mp f1).1
    rw[AAC hn1]at e2
    exact(sc.obj n1 a1 mo f1 e2).grow g2 (.inl rfl)
   ·subst w1 f1
    rw[sc.len,AAR (AA8 _),ACX]at e2
    simp at e2
    subst e2
    exact⟨vs,hH,rc.grow g2⟩
noncomputable def bo(N:List Str)(ds:List D):SD:=ds.map some++ABa (N.length-ds.length) none
theorem SRep.start{K:AA}{ρ:List Addr}{H:Hp}{ds:List D}{vs:List V}(r:Reps K ρ H ds vs)(N:List Str):SRep K ρ H (bo N ds) (L2.start N vs):=by
 refine⟨by simp[bo,L2.start,r.length],λi d e=>?_⟩
 unfold bo at e
 unfold L2.start
 by_cases hi:i<ds.length
 ·rw[AAC (by simpa using hi),AAP]at e
  rw[AAC (by simpa [<-r.length]using hi),AAP]
  have e':ds[i]?=some d:=by
   rw[AA1 hi]at e ⊢
   simpa using e
  obtain⟨v,hv,rv⟩:=r.get e'
  exact⟨v,by rw[hv];rfl,rv⟩
 ·rw[AAR (by simpa using Nat.not_lt.mp hi),ABk]at e
  split at e<;>cases e
theorem d_fn{P:Program}{w:World}{K:AA}{mg:Str->Option Value}{base:Heap}{x qual:Str}{st:Stmt}{f:Addr}{fd:FuncData}{N ps:List Str}{k:Nat}(Pr:DSp)(F:Fun K x qual st f fd)(Sc:FnScope N ps (af st))
  (len:∀ds M R,Pr ds M R->ds.length=ps.length)
  (hbody:∀(cdv:Value) (A:Around) (outer:List Env) (s:Shared) (H:Hp) (E:XK),Room k (A.deeper (envOfC qual (af st) s.heap.objs.size f cdv)) ->
   ∃t,DSs (iE CX0 P w K mg base N qual (af st) f cdv A outer s H E).nox (aQ st) t/\∀ds M R,Pr ds M R->t ⟨λ_ M'=>ba M R .non M',ba M R,λ_ _=>False,λ_ _=>False⟩ (bo N ds) M) :
  FnOk P w K mg base CX0 (k+1) f fd ps (spL K Pr):=by
 refine F.ok Sc (λvs H Q E ⟨ds,M,ρ,R,s,r,q,_⟩=>by rw[<-r.length];exact len ds M R q) λcdv A outer s H vs Q E hr h=>?_
 obtain⟨ds,M,ρ,R,sm,r,q,kk⟩:=h
 obtain⟨t,ht,hq⟩:=hbody cdv A outer s H E hr
 refine⟨lowS K t,ht,bo N ds,M,ρ,_,sm,SRep.start r N,hq ds M R q,⟨λσ' H' ⟨S',M',ρ',s',g',sr',q'⟩=>?_,λv H' z=>kk v H' (VQ.endq sm z),λσ' H' ⟨S',M',ρ',s',g',sr',q'⟩=>q'.elim,λσ' H' ⟨S',M',ρ',s',g',sr',q'⟩=>q'.elim⟩⟩
 exact kk .non H' (VQ.endq sm ⟨.non,M',ρ',s',g',.non,q'⟩)
end
theorem dfin(I:Inv X pins σ H s)(sm:Sim X.K ρ M H)(k:∀v H',VQ X.K ρ H Q v H'->R v H')(hv:cV d=some v)(rel:aH v u)(q:Q d M):EP X pins σ R u s :=
 ⟨v,H,I,rel,k v H (VQ.now sm (qp hv) q)⟩
theorem kZ(I:Inv X pins σ H s)(sm:Sim X.K ρ M H)(k:∀v H',VQ X.K ρ H Q v H'->R v H')(q:Q (.bl b) M):EP X pins σ R (.bool b) s :=
 ⟨.bl b,H,I,rfl,k _ H (VQ.now sm (.bl b) q)⟩
def qAdd:DR2:=λx y M Q=>match x,y with
 | .int i,.int j=>Q (.int (i+j)) M
 | .str a,.str b=>a.length+b.length<=sizeLine/\Q (.str (a++b)) M
 | .ref n,.ref m=>∃xs ys,M[n]?=some (.lst xs)/\M[m]?=some (.lst ys)/\xs.length+ys.length<=sizeLine/\Q (.ref M.length) (M++[.lst (xs++ys)])
 | _,_=>False
theorem xJ:OpD X (binaryOp .Add) qAdd:=by
 refine OpR.imp (xC.or (mK.or xB)) ?_
 rintro vx vy H R ⟨x,y,M,ρ,Q,sm,r1,r2,q,k⟩
 unfold qAdd at q
 split at q
 ·cases r1
  cases r2
  exact .inl ⟨_,_,rfl,rfl,k _ H (VQ.now sm (.int _) q)⟩
 ·cases r1
  cases r2
  exact .inr (.inl ⟨_,_,rfl,rfl,q.1,k _ H (VQ.now sm (.str _) q.2)⟩)
 ·obtain⟨xs,ys,e1,e2,hl,q⟩:=q
  obtain⟨_,rfl,h1⟩:=Rep.inv_ref r1
  obtain⟨_,rfl,h2⟩:=Rep.inv_ref r2
  obtain⟨vs,f1,g1⟩:=sm.obj _ _ _ h1 e1
  obtain⟨ws,f2,g2⟩:=sm.obj _ _ _ h2 e2
  exact .inr (.inr ⟨_,_,vs,ws,rfl,rfl,f1,f2,by rw[<-g1.length,<-g2.length];exact hl,λp hp=>k _ _ (VQ.laidL sm .refl (g1.append g2) hp q)⟩)
 ·exact q.elim
def wy:DR2:=λx y M Q=>match x,y with
 | .int i,.int j=>Q (.int (i-j)) M
 | _,_=>False
theorem xG:OpD X (binaryOp .Sub) wy:=by
 refine OpR.imp xw ?_
 rintro vx vy H R ⟨x,y,M,ρ,Q,sm,r1,r2,q,k⟩
 unfold wy at q
 split at q
 ·cases r1
  cases r2
  exact⟨_,_,rfl,rfl,k _ H (VQ.now sm (.int _) q)⟩
 ·exact q.elim
def zq(i j:Int):Prop:=0<j/\j<340282366920938463463374607431768211456
theorem rz:OpR X (binaryOp .FloorDiv) (rI zq λi j=>.int (i / j)):=opI λi j _ _ _ _ _ hc q=>by
 have h1:(0:Int)<j:=hc.1
 have h2:j<340282366920938463463374607431768211456:=hc.2
 have h3:j.natAbs.log2<128:=(Nat.log2_lt (by lia)).mpr (by rw[show (2:Nat) ^ 128=340282366920938463463374607431768211456 by decide];lia)
 exact floordiv_int (by lia) (by rw[Int.fdiv_eq_ediv_of_nonneg i (by lia)];exact q) (.inl (PyProof.noPylong_of_log2 (by lia)))
def aU:DR2:=λx y M Q=>match x,y with
 | .int i,.int j=>zq i j/\Q (.int (i / j)) M
 | _,_=>False
theorem uP:OpD X (binaryOp .FloorDiv) aU:=by
 refine OpR.imp rz ?_
 rintro vx vy H R ⟨x,y,M,ρ,Q,sm,r1,r2,q,k⟩
 unfold aU at q
 split at q
 ·cases r1
  cases r2
  exact⟨_,_,rfl,rfl,q.1,k _ H (VQ.now sm (.int _) q.2)⟩
 ·exact q.elim
def ck:DR2:=λx y M Q=>match x,y with
 | .int i,.int j=>0<j/\Q (.int (i % j)) M
 | _,_=>False
theorem xI:OpD X (binaryOp .Mod) ck:=by
 refine OpR.imp xA ?_
 rintro vx vy H R ⟨x,y,M,ρ,Q,sm,r1,r2,q,k⟩
 unfold ck at q
 split at q
 ·cases r1
  cases r2
  exact⟨_,_,rfl,rfl,q.1,k _ H (VQ.now sm (.int _) q.2)⟩
 ·exact q.elim
noncomputable def bf(a b:Str):Bool:=decide (a.cps.toList<b.cps.toList)
def qLt:DR2:=λx y M Q=>match x,y with
 | .int i,.int j=>Q (.bl (decide (i<j))) M
 | .str a,.str b=>Q (.bl (bf a b)) M
 | _,_=>False
def qLe:DR2:=λx y M Q=>match x,y with
 | .int i,.int j=>Q (.bl (decide (i<=j))) M
 | .str a,.str b=>Q (.bl (!bf b a)) M
 | _,_=>False
theorem od_lt:OpD X (compareOp .Lt) qLt:=by
 rintro pins s σ H vx vy v u R I rx ry ⟨x,y,M,ρ,Q,sm,r1,r2,q,k⟩
 unfold qLt at q
 split at q
 ·cases r1
  cases r2
  exact op_lt pins s σ H _ _ v u R I rx ry ⟨_,_,rfl,rfl,k _ H (VQ.now sm (.bl _) q)⟩
 ·cases r1
  cases r2
  obtain⟨t,rfl⟩:=rx
  obtain⟨t',rfl⟩:=ry
  exact PySem.P.lt_str (kZ I sm k q)
 ·exact q.elim
theorem od_le:OpD X (compareOp .LtE) qLe:=by
 rintro pins s σ H vx vy v u R I rx ry ⟨x,y,M,ρ,Q,sm,r1,r2,q,k⟩
 unfold qLe at q
 split at q
 ·cases r1
  cases r2
  exact op_le pins s σ H _ _ v u R I rx ry ⟨_,_,rfl,rfl,k _ H (VQ.now sm (.bl _) q)⟩
 ·cases r1
  cases r2
  obtain⟨t,rfl⟩:=rx
  obtain⟨t',rfl⟩:=ry
  exact PySem.P.le_str (kZ I sm k q)
 ·exact q.elim
def qIs:DR2:=λx y M Q=>match x,y with
 | .bl a,.bl b=>Q (.bl (a==b)) M
 | .non,.non=>Q (.bl true) M
 | _,.non=>Q (.bl false) M
 | _,_=>False
theorem ui{K:AA}{ρ:List Addr}{H:Hp}{x:D}{v:V}(r:Rep K ρ H x v)(h:x≠.non):v≠.non:=by
 cases r<;>first | exact absurd rfl h | (intro z;cases z)
theorem od_is:OpD X (compareOp .Is) qIs:=by
 rintro pins s σ H vx vy v u R I rx ry ⟨x,y,M,ρ,Q,sm,r1,r2,q,k⟩
 unfold qIs at q
 split at q
 ·cases r1
  cases r2
  cases rx
  cases ry
  exact is_bool (kZ I sm k q)
 ·cases r1
  cases r2
  cases rx
  cases ry
  exact is_none_gen (dfin (d:=.bl true) I sm k rfl rfl q)
 ·rename_i h1 h2
  cases r2
  cases ry
  refine is_none_gen (dfin (d:=.bl false) I sm k rfl ?_ q)
  have:=ui r1 λz=>by subst z;exact h2 rfl
  rw[rx.none_iff,dF_ this]
  rfl
 ·exact q.elim
noncomputable def tyD(M:Mem):D->String
 | .non=>"NoneType"
 | .bl _=>"bool"
 | .int _=>"int"
 | .str _=>"str"
 | .ty _=>"type"
 | .tup _=>"tuple"
 | .ref n=>match M[n]? with
  | some mo=>if mo.isL=true then "list" else "?"
  | none=>"?"
noncomputable def se(t T:String):Bool:=t==T||(t == "bool" && T == "int")
noncomputable def wx:List String:=["NoneType","bool","int","str","list","tuple"]
noncomputable def wI:List String:=["bool","int","str","list","tuple"]
theorem vt(K:AA)(ht:t∈wx)(hT:T∈wI):AAl K (.type t) (.type T)=some (se t T):=by
 simp only[wx,wI,AA9,AAd,or_false]at ht hT
 rcases ht with rfl | rfl | rfl | rfl | rfl | rfl<;>rcases hT with rfl | rfl | rfl | rfl | rfl<;>kernel_rfl
theorem tM(I:Inv X pins σ H s)(sm:Sim X.K ρ M H)(r:Rep X.K ρ H d v)(rv:aH v u)(hd:tyD M d∈wx)
  (step:∀(Hx:Heap->Prop),PySem.W.KitX X.K u (.type (tyD M d)) Hx->Hx s.heap->u≠.builtin "__main__.__loader__#opaque"->wpAny (model X.prog X.w) X.A (call (.builtin "isinstance") [u,c]) Q X.xe s):wpAny (model X.prog X.w) X.A (call (.builtin "isinstance") [u,c]) Q X.xe s:=by
 cases r with
 | non=>cases rv;exact step _ PySem.W.kitx_none ACO (λz=>nomatch z)
 | bl y=>cases rv;exact step _ PySem.W.kitx_bool ACO (λz=>nomatch z)
 | int i=>obtain⟨t,rfl⟩:=rv;exact step _ PySem.W.kitx_int ACO (λz=>nomatch z)
 | str i=>obtain⟨t,rfl⟩:=rv;exact step _ PySem.W.kitx_str ACO (λz=>nomatch z)
 | ty n=>exact absurd hd (by simp only[tyD];decide)
 | tup h rr =>
  cases rv
  obtain⟨its,_,⟨o,h1,h2,_⟩,_⟩:=I.tuple h
  exact step _ PySem.W.kitx_tuple ⟨o,h1,h2⟩ (λz=>nomatch z)
 | @ref n a e =>
  cases rv
  have hn:n<M.length:=by rw[<-sm.len];exact(AA4.mp e).1
  have hm:M[n]?=some M[n]:=AA1 hn
  have hd':(match M[n]? with | some mo=>if mo.isL=true then "list" else "?" | none=>"?")∈wx:=hd
  rw[hm]at hd'
  have hil:M[n].isL=true:=by
   cases q:M[n].isL with
   | true=>rfl
   | false =>
    simp only[q,AAU,if_false]at hd'
    exact absurd hd' (by decide)
  have hL:ah M n M[n].items:=by
   cases q:M[n] with
   | lst xs=>exact .inl (by rw[hm,q];rfl)
   | fz xs=>exact .inr (.inl (by rw[hm,q];rfl))
   | kl xs=>exact .inr (.inr (by rw[hm,q];rfl))
   | dct xs=>rw[q]at hil;cases hil
   | dkt xs=>rw[q]at hil;cases hil
   | dkq _ xs=>rw[q]at hil;cases hil
   | fdc o xs=>rw[q]at hil;cases hil
   | dkm xs=>rw[q]at hil;cases hil
   | tb x b=>rw[q]at hil;cases hil
   | exc x e=>rw[q]at hil;cases hil
  obtain⟨vs,hq,_⟩:=ah.seq sm hL e
  obtain⟨its,_,⟨o,n',h1,h2,_⟩,_⟩:=I.list hq
  have ht:tyD M (.ref n) = "list":=by
   show (match M[n]? with | some mo=>if mo.isL=true then "list" else "?" | none=>"?") = "list"
   rw[hm]
   exact if_pos hil
  rw[ht]at step
  exact step _ PySem.W.kitx_list ⟨o,h1,h2⟩ (λz=>nomatch z)
def kr:DRA:=λds M Q=>match ds with
 | [d,.ty T]=>(tyD M d∈wx/\T∈wI)/\Q (.bl (se (tyD M d) T)) M
 | [d,.tup [.ty T,.ty T']]=>(tyD M d∈wx/\T∈wI/\T'∈wI)/\Q (.bl (se (tyD M d) T||se (tyD M d) T')) M
 | _=>False
theorem ze:gl X (.builtin "isinstance") kr:=by
 rintro pins s σ H vs us R I rv ⟨ds,M,ρ,Q,sm,rs,q,k⟩
 unfold kr at q
 split at q
 ·rename_i d T
  obtain⟨⟨h1,h2⟩,q⟩:=q
  first | have hzz:=Reps.inv_cons rs | have hzz:=aq.inv_cons rs
  clear rs
  obtain⟨_,_,rfl,r1,rs⟩:=hzz
  first | have hzz:=Reps.inv_cons rs | have hzz:=aq.inv_cons rs
  clear rs
  obtain⟨_,_,rfl,r2,rs⟩:=hzz
  cases rs
  cases r2
  obtain⟨u,u',rfl,e1,e2⟩:=aq.two rv
  cases e2
  refine tM I sm r1 e1 h1 λHx Z p hx=>?_
  exact PySem.W.kia_one Z I.kIn p (vt X.K h1 h2) hx λtk=>kZ (I.tok tk) sm k q
 ·rename_i d T T'
  obtain⟨⟨h1,h2,h3⟩,q⟩:=q
  first | have hzz:=Reps.inv_cons rs | have hzz:=aq.inv_cons rs
  clear rs
  obtain⟨_,_,rfl,r1,rs⟩:=hzz
  first | have hzz:=Reps.inv_cons rs | have hzz:=aq.inv_cons rs
  clear rs
  obtain⟨_,_,rfl,r2,rs⟩:=hzz
  cases rs
  obtain⟨u,u',rfl,e1,e2⟩:=aq.two rv
  obtain⟨a,ws,rfl,hq,rt⟩:=Rep.inv_tup r2
  cases e2
  obtain⟨its,rr,⟨o,g1,g2,n,g3⟩,_⟩:=I.tuple hq
  first | have hzz:=Reps.inv_cons rt | have hzz:=aq.inv_cons rt
  clear rt
  obtain⟨_,_,rfl,t1,rt⟩:=hzz
  first | have hzz:=Reps.inv_cons rt | have hzz:=aq.inv_cons rt
  clear rt
  obtain⟨_,_,rfl,t2,rt⟩:=hzz
  cases rt
  cases t1
  cases t2
  obtain⟨w1,w2,rfl,f1,f2⟩:=aq.two rr
  cases f1
  cases f2
  obtain⟨oc,od,odt,osl⟩:=o
  cases g2
  cases g3
  refine tM I sm r1 e1 h1 λHx Z p hx=>?_
  refine PySem.W.kia_tup Z I.kIn p g1 (b:=se (tyD M d) T||se (tyD M d) T') ?_ hx λtk=>kZ (I.tok tk) sm k q
  show (match AAl X.K (.type (tyD M d)) (.type T)with | some true=>some true | some false=>PySem.W.kitAny X.K (.type (tyD M d)) [.type T'] | none=>none)=_
  rw[vt X.K h1 h2]
  cases se (tyD M d) T with
  | true=>rfl
  | false =>
   show (match AAl X.K (.type (tyD M d)) (.type T')with | some true=>some true | some false=>some false | none=>none)=_
   rw[vt X.K h1 h3]
   cases se (tyD M d) T'<;>rfl
 ·exact q.elim
def iM:DRA:=λds M Q=>match ds with
 | [.str x]=>x.length<=sizeLine/\Q (.int x.length) M
 | [.tup xs]=>Q (.int xs.length) M
 | [.ref n]=>∃xs,ah M n xs/\Q (.int xs.length) M
 | _=>False
theorem zd:gl X (.builtin "len") iM:=by
 refine cL.imp (kh.or kg) ?_
 rintro vs H R ⟨ds,M,ρ,Q,sm,rs,q,k⟩
 unfold iM at q
 split at q
 ·first | have hzz:=Reps.inv_cons rs | have hzz:=aq.inv_cons rs
  clear rs
  obtain⟨_,_,rfl,r1,rs⟩:=hzz
  cases rs
  cases r1
  exact .inr ⟨_,rfl,q.1,k _ H (VQ.now sm (.int _) q.2)⟩
 ·first | have hzz:=Reps.inv_cons rs | have hzz:=aq.inv_cons rs
  clear rs
  obtain⟨_,_,rfl,r1,rs⟩:=hzz
  cases rs
  cases r1 with
  | tup h r=>exact .inl ⟨_,_,rfl,.inr h,k _ H (VQ.now sm (by rw[<-r.length];exact .int _) q)⟩
 ·obtain⟨xs,hL,q⟩:=q
  first | have hzz:=Reps.inv_cons rs | have hzz:=aq.inv_cons rs
  clear rs
  obtain⟨_,_,rfl,r1,rs⟩:=hzz
  cases rs
  obtain⟨_,rfl,e⟩:=Rep.inv_ref r1
  obtain⟨ws,hq,r⟩:=ah.seq sm hL e
  exact .inl ⟨_,_,rfl,.inl hq,k _ H (VQ.now sm (by rw[<-r.length];exact .int _) q)⟩
 ·exact q.elim
end L2
namespace L2
open PySem PySem.Spec PyProof.Rows DL _root_.HT
theorem iw{t sl:Addr}{items:Array Value}{vl vu:Value}{lo hi:Option Int}{Q:Value->Shared->Prop}(ht:IsTup s.heap t items)(hs:s.heap.IsSliceOf sl vl vu .none)(pl:IsPart vl lo)(pu:IsPart vu hi)
  (hw:sIx items.size 0 lo=0/\sIx items.size items.size hi=items.size) (h:Q (.ref t) s):wpAny (model prog w) A (getItem (.ref t) (.ref sl)) Q E s:=by
 obtain⟨os,hos,hcs,hds⟩:=id hs
 have hTs:s.TypeIs (.ref sl) "slice":=⟨os,hos,hcs⟩
 unfold getItem
 try with_reducible refine ABE ?_
 first | refine AA0 (AAD ?_) | skip
 refine AA0 (wpAny_sequenceKey ht.typeIs (by decide) (AA0 (AB (name:=AA2 "__getitem__") ht.typeIs AAj (ABB AAj ht.typeIs entry_tuple_getitem ?_ (args_tuple_getitem _ _)))))
 refine(show wpAny (model prog w) _ (ACq (.ref t) >>= _) _ _ s from AA0 (tupleItemsOf_ ht (AA0 (wpAny_typeOf hTs ?_))))
 rw[if_pos (by decide)]
 refine AA0 (cx hs pl pu ?_)
 refine(show wpAny (model prog w) _ (if (((sIx items.size 0 lo:Nat):Int)==0&&(1:Int)==1&&(sIx items.size items.size hi-sIx items.size 0 lo)==items.size)=true then _ else _) _ _ s from ?_)
 rw[if_pos (by rw[hw.1,hw.2];simp)]
 unfold Builtin.Tuple.tupleIsExact
 refine AA0 (AA0 (wpAny_typeOf ht.typeIs (AAD ?_)))
 rw[if_pos (by decide)]
 exact AA0 (wpAny_rule (AAD ⟨_,rfl,AAD h⟩))
end L2
namespace L2
open PySem PySem.Spec PyProof.Rows DL
section
variable{X:Cx}{a b:Expr}{ta tb:DTE}{pos:Pos}
theorem IxR.imp(h:IxR X r')(i:∀x y H R,r x y H R->r' x y H R):IxR X r:=λvalue slice pins s σ H x y v u R I rx ry q hs=>h value slice pins s σ H x y v u R I rx ry (i x y H R q) hs
theorem Reps.atI{K:AA}{ρ:List Addr}{H:Hp}{ds:List D}{vs:List V}{i:Int}{d:D}(r:Reps K ρ H ds vs)(h:L2.atI ds i=some d):∃v,L2.atI vs i=some v/\Rep K ρ H d v:=by
 unfold L2.atI at h ⊢
 rw[r.length]at h
 cases e:ixN vs.length i with
 | none=>rw[e]at h;cases h
 | some j =>
  rw[e]at h
  obtain⟨v,hv,rv⟩:=r.get (show ds[j]?=some d from h)
  exact⟨v,hv,rv⟩
def qIx:DR2:=λx y M Q=>match x,y with
 | .tup xs,.int i=>match L2.atI xs i with
  | some d=>Q d M
  | none=>False
 | .str z,.int i=>z.length<=sizeLine/\match L2.atI z.cps.toList i with
  | some c=>Q (.str ⟨#[c]⟩) M
  | none=>False
 | .ref n,.int i=>∃xs,ah M n xs/\match L2.atI xs i with
  | some d=>Q d M
  | none=>False
 | _,_=>False
theorem vJ:IxR X (lowR X.K qIx):=by
 refine IxR.imp yn ?_
 rintro vx vy H R ⟨x,y,M,ρ,Q,sm,r1,r2,q,k⟩
 unfold qIx at q
 split at q
 ·rename_i xs i
  split at q
  ·rename_i d e
   cases r2
   obtain⟨_,_,rfl,h,r⟩:=Rep.inv_tup r1
   obtain⟨v,hv,rv⟩:=r.atI e
   exact .inr (.inl ⟨_,_,_,v,rfl,rfl,h,hv,k _ H (VQ.now sm rv q)⟩)
  ·exact q.elim
 ·rename_i z i
  obtain⟨hz,q⟩:=q
  split at q
  ·rename_i c e
   cases r2
   cases r1
   exact .inr (.inr ⟨z,i,c,rfl,rfl,hz,e,k _ H (VQ.now sm (.str _) q)⟩)
  ·exact q.elim
 ·rename_i n i
  obtain⟨xs,hL,q⟩:=q
  split at q
  ·rename_i d e
   cases r2
   obtain⟨_,rfl,hn⟩:=Rep.inv_ref r1
   obtain⟨vs,hq,r⟩:=ah.seq sm hL hn
   obtain⟨v,hv,rv⟩:=r.atI e
   exact .inl ⟨_,_,_,v,rfl,rfl,hq,hv,k _ H (VQ.now sm rv q)⟩
  ·exact q.elim
 ·exact q.elim
theorem d_ix(ha:DE X a ta)(hb:DE X b tb)(hs:lj b:=by intro _ _;rfl):DE X (.Subscript a b pos) (dOp qIx ta tb):=PE.imp (pe_ix vJ ha hb hs) io
abbrev DTO:=SD->Mem->(Option Int->Mem->Prop)->Prop
def xL(K:AA)(t:DTO):TO:=λσ H R=>∃S M ρ Q,Sim K ρ M H/\SRep K ρ H S σ/\t S M Q/\∀o H',(∃M' ρ',Sim K ρ' M' H'/\Grow K ρ H ρ' H'/\Q o M')->R o H'
def bc:DTO:=λ_ M Q=>Q none M
def dA(t:DTE):DTO:=λS M Q=>t S M λx M1=>match x with
 | .int i=>Q (some i) M1
 | _=>False
theorem PO.imp(h:PO X e t')(i:∀σ H R,t σ H R->t' σ H R):PO X e t:=λpins s σ H R I q=>h pins s σ H R I (i σ H R q)
theorem wc:PO X none (xL X.K bc):=by
 refine PO.imp uz ?_
 rintro σ H R ⟨S,M,ρ,Q,s,sr,q,k⟩
 exact k none H ⟨M,ρ,s,.refl,q⟩
theorem wb(h:DE X e te):PO X (some e) (xL X.K (dA te)):=by
 refine PO.imp (uy h) ?_
 rintro σ H R ⟨S,M,ρ,Q,s,sr,q,k⟩
 refine⟨S,M,ρ,_,s,sr,q,?_⟩
 rintro v H1 ⟨d,M1,ρ1,s1,g1,r1,q1⟩
 cases r1 with
 | int i=>exact⟨i,rfl,k _ H1 ⟨M1,ρ1,s1,g1,q1⟩⟩
 | _=>exact q1.elim
theorem wS:SlR X (λx lo hi H Q=>∃z,x=.str z/\z.length<=sizeLine/\Q (.str (AB9 z lo hi)) H):=by
 intro pins s σ H x v vl vu lo hi sl Q I rx hs pl pu h
 obtain⟨z,rfl,hz,q⟩:=h
 obtain⟨t,rfl⟩:=rx
 have part:∀{v:Value}{o:Option Int},IsPart v o->∃p:Option (Int×Tok),v=partValue p/\p.map (·.1)=o:=λh=>by
  cases h with
  | none=>exact⟨none,rfl,rfl⟩
  | int i t=>exact⟨some (i,t),rfl,rfl⟩
 obtain⟨p1,rfl,e1⟩:=part pl
 obtain⟨p2,rfl,e2⟩:=part pu
 subst e1 e2
 refine⟨"str",_,slot_str_getitem.lookup,typeIs_str _ _ _,wpAny_getItem_str_slice (l:=p1) (u:=p2) (st:=none) hs rfl ?_⟩
 exact post_val_or_str ⟨AAn (Txt.slice_le z _ _) hz,λt' k=>⟨.str _,H,I.tok k,⟨t',rfl⟩,q⟩⟩
noncomputable def cutD(xs:List D)(lo hi:Option Int):List D:=(xs.drop (HT.sIx xs.length 0 lo)).take (HT.sIx xs.length xs.length hi-HT.sIx xs.length 0 lo)
theorem Reps.cutD{K:AA}{ρ:List Addr}{H:Hp}{ds:List D}{vs:List V}(r:Reps K ρ H ds vs)(lo hi:Option Int):Reps K ρ H (L2.cutD ds lo hi) (tQ vs lo hi):=by
 unfold L2.cutD tQ
 rw[r.length]
 exact(r.drop _).take _
def qSl:D->Option Int->Option Int->Mem->DK->Prop:=λx lo hi M Q=>match x with
 | .str z=>z.length<=sizeLine/\Q (.str (AB9 z lo hi)) M
 | .ref n=>∃xs,ah M n xs/\Q (.ref M.length) (M++[.lst (cutD xs lo hi)])
 | .tup xs=>Q (.tup (cutD xs lo hi)) M
 | _=>False
def lowSl(K:AA)(r:D->Option Int->Option Int->Mem->DK->Prop):V->Option Int->Option Int->Hp->VK->Prop:=λvx lo hi H R=>∃x M ρ Q,Sim K ρ M H/\Rep K ρ H x vx/\r x lo hi M Q/\∀v H',VQ K ρ H Q v H'->R v H'
theorem sld:SlR X (lowSl X.K qSl):=by
 rintro pins s σ H x v vl vu lo hi sl R I rx hs pl pu ⟨d,M,ρ,Q,sm,r1,q,k⟩
 unfold qSl at q
 split at q
 ·cases r1
  exact wS pins s σ H _ v vl vu lo hi sl R I rx hs pl pu ⟨_,rfl,q.1,k _ H (VQ.now sm (.str _) q.2)⟩
 ·obtain⟨xs,hL,q⟩:=q
  obtain⟨_,rfl,hn⟩:=Rep.inv_ref r1
  obtain⟨vs,hq,r⟩:=ah.seq sm hL hn
  exact uh pins s σ H _ v vl vu lo hi sl R I rx hs pl pu ⟨_,vs,rfl,hq,λp hp=>k _ _ (VQ.laidL sm .refl (r.cutD lo hi) hp q)⟩
 ·obtain⟨_,_,rfl,h,r⟩:=Rep.inv_tup r1
  rename_i xs a vs
  by_cases hw:HT.sIx xs.length 0 lo=0/\HT.sIx xs.length xs.length hi=xs.length
  ·cases rx
   obtain⟨its,rr,ht,hz⟩:=I.tuple h
   have hlen:its.toArray.size=xs.length:=by rw[AA7,r.length];exact rr.length.symm
   have e:L2.cutD xs lo hi=xs:=by unfold L2.cutD;rw[hw.1,hw.2,ACT,Nat.sub_zero,ACb]
   rw[e]at q
   exact⟨"tuple",_,AAj.lookup,ht.typeIs,iw ht hs pl pu (by rw[hlen];exact hw) ⟨.ref _,H,I,rfl,k _ H (VQ.now sm (.tup h r) q)⟩⟩
  ·exact wR pins s σ H _ v vl vu lo hi sl R I rx hs pl pu ⟨_,_,rfl,h,by rw[<-r.length];exact hw,λp hp=>k _ _ (VQ.laidT sm .refl (r.cutD lo hi) hp q)⟩
 ·exact q.elim
def dSl(te:DTE)(tl th:DTO):DTE:=λS M Q=>te S M λx M1=>tl S M1 λl M2=>th S M2 λu M3=>qSl x l u M3 Q
theorem wj{e:Expr}{te:DTE}{lo hi:Option Expr}{tl th:DTO}{p2:Pos}(he:DE X e te)(hl:PO X lo (xL X.K tl))(hu:PO X hi (xL X.K th)):DE X (.Subscript e (.Slice lo hi none p2) pos) (dSl te tl th):=by
 refine PE.imp (rp sld he hl hu) ?_
 rintro σ H R ⟨S,M,ρ,Q,s,sr,q,k⟩
 refine⟨S,M,ρ,_,s,sr,q,?_⟩
 rintro v H1 ⟨d,M1,ρ1,s1,g1,r1,q1⟩
 refine⟨S,M1,ρ1,_,s1,sr.grow g1,q1,?_⟩
 rintro l H2 ⟨M2,ρ2,s2,g2,q2⟩
 refine⟨S,M2,ρ2,_,s2,sr.grow (g1.trans g2),q2,?_⟩
 rintro u H3 ⟨M3,ρ3,s3,g3,q3⟩
 exact⟨d,M3,ρ3,Q,s3,r1.grow (g2.trans g3),q3,λv H' w=>k v H' (VQ.trans ((g1.trans g2).trans g3) w)⟩
def eA:DR2:=λx y M Q=>match x,y with
 | .int i,.int j=>CMul i j/\Q (.int (i*j)) M
 | .str z,.int n=>(0<=n/\n<2 ^ 63/\z.length*n.toNat<=sizeLine)/\Q (.str (Txt.mul z n)) M
 | _,_=>False
theorem kI(h0:0<=n)(h:z.length*n.toNat<=sizeLine)(hn:n<2 ^ 63):MulOk z n:=by
 refine⟨?_,λh1 h2=>?_,λh1 h2=>?_⟩
 ·have e1:decide (n < -(2 ^ 63:Int))=false:=dF_ (by lia)
  have e2:decide (n ≥ 2 ^ 63)=false:=dF_ (by lia)
  rw[e1,e2]
  rfl
 ·have hz:(z.length:Int)*n<=2 ^ 24:=by
   have e:((z.length*n.toNat:Nat):Int)=(z.length:Int)*n:=by
    rw[Int.natCast_mul,Int.toNat_of_nonneg h0]
   have h':((z.length*n.toNat:Nat):Int)<=(2 ^ 24:Nat):=Int.ofNat_le.mpr h
   rw[e]at h'
   exact h'
  have hpos:0<n:=by lia
  intro hgt
  have:=Int.lt_of_lt_of_le (Int.lt_mul_of_ediv_lt hpos hgt) hz
  lia
 ·unfold PySem.Builtin.Str.tooLong
  simpa using h
theorem uO:OpD X (binaryOp .Mult) eA:=by
 rintro pins s σ H vx vy v u R I rx ry ⟨x,y,M,ρ,Q,sm,r1,r2,q,k⟩
 unfold eA at q
 split at q
 ·cases r1
  cases r2
  exact xz pins s σ H _ _ v u R I rx ry ⟨_,_,rfl,rfl,q.1,k _ H (VQ.now sm (.int _) q.2)⟩
 ·rename_i z n
  cases r1
  cases r2
  obtain⟨t,rfl⟩:=rx
  obtain⟨t',rfl⟩:=ry
  obtain⟨⟨h0,h2,h1⟩,q⟩:=q
  exact PySem.SB.mul (kI h0 h1 h2) λt' j=>⟨.str _,H,I.tok j,⟨t',rfl⟩,k _ H (VQ.now sm (.str _) q)⟩
 ·exact q.elim
variable{o e:Expr}{es:List Expr}{to:DTE}{t:DTA}{name:Str}{apos cpos:Pos}{id:String}
def rK(K:AA)(r:Str->DRA):V->List V->Hp->VK->Prop:=λvx vs H R=>∃z ds M ρ Q,vx=.str z/\Sim K ρ M H/\Reps K ρ H ds vs/\r z ds M Q/\∀v H',VQ K ρ H Q v H'->R v H'
def rL(K:AA)(r:Nat->DRA):V->List V->Hp->VK->Prop:=λvx vs H R=>∃n a ds M ρ Q,vx=.ref a/\ρ[n]?=some a/\Sim K ρ M H/\Reps K ρ H ds vs/\r n ds M Q/\∀v H',VQ K ρ H Q v H'->R v H'
def dMs(r:Str->DRA)(to:DTE)(t:DTA):DTE:=λS M Q=>to S M λx M1=>match x with
 | .str z=>t S M1 λds M2=>r z ds M2 Q
 | _=>False
def dMl(r:Nat->DRA)(to:DTE)(t:DTA):DTE:=λS M Q=>to S M λx M1=>match x with
 | .ref n=>(∃xs,ah M1 n xs)/\t S M1 λds M2=>r n ds M2 Q
 | _=>False
theorem d_ms(slot:Slot "str" name id)(hty:typeOf (.builtin id)=pure (.type "method_descriptor"))(hm:MtR X id (rK X.K r))(ho:DE X o to)(ha:DA X (e::es) t)
  (hbase:attributeBase o name X.env (eval o X.env)=eval o X.env:=by rfl)
  (hfew:((backTo cpos (starEach (e::es) X.env)).all (λx=>!x.1)&&(backToKw cpos (keywordEach [] X.env)).all (λx=>x.1.isSome)
   && decide ((e::es).length+([]:List Keyword).length+(if ([]:List Keyword).isEmpty then 0 else 1)<30))=true:=by rfl)
  (hline:(apos.endLine==cpos.line)=true:=by rfl) (hs:starEach (e::es) X.env=(false,eval e X.env)::starEach es X.env:=by rfl) (hplain:(backTo cpos (starEach es X.env)).any (·.1)=false:=by rfl) :
  DE X (.Call (.Attribute o name apos) (e::es) [] cpos) (dMs r to t):=by
 refine PE.imp (xt PySem.F.plainAttrs_str slot hty hm ho ha hbase hfew hline hs hplain) ?_
 rintro σ H R ⟨S,M,ρ,Q,s,sr,q,k⟩
 refine⟨S,M,ρ,_,s,sr,q,?_⟩
 rintro v H1 ⟨d,M1,ρ1,s1,g1,r1,q1⟩
 cases r1 with
 | str z=>exact⟨rfl,S,M1,ρ1,_,s1,sr.grow g1,q1,λvs H2 ⟨ds,M2,ρ2,s2,g2,r2,q2⟩=>⟨z,ds,M2,ρ2,Q,rfl,s2,r2,q2,λv H' w=>k v H' (VQ.trans (g1.trans g2) w)⟩⟩
 | _=>exact q1.elim
theorem d_ml(slot:Slot "list" name id)(hty:typeOf (.builtin id)=pure (.type "method_descriptor"))(hm:MtR X id (rL X.K r))(ho:DE X o to)(ha:DA X (e::es) t)
  (hbase:attributeBase o name X.env (eval o X.env)=eval o X.env:=by rfl)
  (hfew:((backTo cpos (starEach (e::es) X.env)).all (λx=>!x.1)&&(backToKw cpos (keywordEach [] X.env)).all (λx=>x.1.isSome)
   && decide ((e::es).length+([]:List Keyword).length+(if ([]:List Keyword).isEmpty then 0 else 1)<30))=true:=by rfl)
  (hline:(apos.endLine==cpos.line)=true:=by rfl) (hs:starEach (e::es) X.env=(false,eval e X.env)::starEach es X.env:=by rfl) (hplain:(backTo cpos (starEach es X.env)).any (·.1)=false:=by rfl) :
  DE X (.Call (.Attribute o name apos) (e::es) [] cpos) (dMl r to t):=by
 refine PE.imp (xt PySem.F.plainAttrs_list slot hty hm ho ha hbase hfew hline hs hplain) ?_
 rintro σ H R ⟨S,M,ρ,Q,s,sr,q,k⟩
 refine⟨S,M,ρ,_,s,sr,q,?_⟩
 rintro v H1 ⟨d,M1,ρ1,s1,g1,r1,q1⟩
 cases r1 with
 | @ref n a hn =>
  obtain⟨⟨xs,hL⟩,q1⟩:=(show (∃xs,ah M1 n xs)/\t S M1 _ from q1)
  obtain⟨vs,hq,_⟩:=ah.seq s1 hL hn
  refine⟨.inl ⟨rfl,vs,hq⟩,S,M1,ρ1,_,s1,sr.grow g1,q1,?_⟩
  rintro vs H2 ⟨ds,M2,ρ2,s2,g2,r2,q2⟩
  exact⟨n,a,ds,M2,ρ2,Q,rfl,aA g2.pre hn,s2,r2,q2,λv H' w=>k v H' (VQ.trans (g1.trans g2) w)⟩
 | _=>exact q1.elim
def cA(n:Nat):DRA:=λds M Q=>match ds with
 | [d]=>∃xs,M[n]?=some (.lst xs)/\xs.length<sizeLine/\Q .non (M.set n (.lst (xs++[d])))
 | _=>False
theorem mQ:MtR X "list.append" (rL X.K cA):=by
 rintro pins s σ H x xs v us R I rx rs ⟨n,a,ds,M,ρ,Q,ez,hn,sm,rr,q,k⟩
 unfold cA at q
 split at q
 ·rename_i d
  obtain⟨ys,e,hl,q⟩:=q
  first | have hzz:=Reps.inv_cons rr | have hzz:=aq.inv_cons rr
  clear rr
  obtain⟨_,_,rfl,r1,rr⟩:=hzz
  cases rr
  obtain⟨vs,hH,r⟩:=sm.obj n a _ hn e
  obtain⟨w1,w2⟩:=sm.write hn e hH (r.append (.cons r1 .nil))
  exact oQ pins s σ H x _ v us R I rx rs ⟨a,vs,_,ez,rfl,hH,by rw[<-r.length];exact hl,k _ _ ⟨.non,_,ρ,w1,w2,.non,q⟩⟩
 ·exact q.elim
end
def dF(K:AA)(mg:Str->Option Value)(x:Str)(st:Stmt)(ps:List Str):Prop :=
 ∃f fd,Fun K x x st f fd/\mg x=some (.ref f)/\gm K fd ps []
def Cal(P:Program)(w:World)(K:AA)(mg:Str->Option Value)(base:Heap)(k:Nat)(x:Str)(ps:List Str)(Pr:DSp):Prop :=
 ∃f fd,FnOk P w K mg base CX0 k f fd ps (spL K Pr)/\mg x=some (.ref f)/\ABF K (.ref f)=true/\gm K fd ps []
theorem fnat_mk{K:AA}{h:Heap}{mg:Str->Option Value}{x:Str}{st:Stmt}{ps:List Str}{f:Addr}{oc:Value}{od an:Option Addr}{osl:Array (Option Value)}{kV doc pm cdv ct:Value}
  (X:K.In h) (G:h.Ns mainGlobals mg) (a:ABI K mainGlobals x=some (some (.ref f)))
  (l:K.lookup f=some ⟨oc,od,.func (ABN x x (da st) (aQ st) (af st) .none kV doc pm an cdv ct),osl⟩)
  (c:ACS K cdv x=true) (k:ABF K (.ref f)=true)
  (h:∀(kV doc pm:Value) (an:Option Addr) (cdv ct:Value) (us:List Value),us.length=ps.length->bindArgs (ABN x x (da st) (aQ st) (af st) .none kV doc pm an cdv ct) ⟨us,[]⟩=pure (ps.zip us)):dF K mg x st ps :=
 have F:=yA (st:=st) l c k
 ⟨f,_,F,ACF X G a,F.binds h⟩
theorem Cal.of{P:Program}{w:World}{K:AA}{mg:Str->Option Value}{base:Heap}{x:Str}{st:Stmt}{N ps:List Str}{k:Nat}{Pr:DSp}(F:dF K mg x st ps)(Sc:FnScope N ps (af st))
  (len:∀ds M R,Pr ds M R->ds.length=ps.length) {t:DTS}
  (der:∀(f:Addr) (cdv:Value) (A:Around) (outer:List Env) (s:Shared) (H:Hp) (E:XK),Room k (A.deeper (envOfC x (af st) s.heap.objs.size f cdv))->DSs (iE CX0 P w K mg base N x (af st) f cdv A outer s H E).nox (aQ st) t)
  (wp:∀ds M R,Pr ds M R->t ⟨λ_ M'=>ba M R .non M',ba M R,λ_ _=>False,λ_ _=>False⟩ (bo N ds) M):Cal P w K mg base (k+1) x ps Pr:=by
 obtain⟨f,fd,F1,hm,hb⟩:=F
 exact⟨f,fd,d_fn Pr F1 Sc len λcdv A outer s H E hr=>⟨t,der f cdv A outer s H E hr,wp⟩,hm,F1.kp,hb⟩
theorem vS{P:Program}{w:World}{K:AA}{mg:Str->Option Value}{base:Heap}{x:Str}{st:Stmt}{N ps:List Str}{k:Nat}{Pr:DSp}{f:Addr}{fd:FuncData}(F:Fun K x x st f fd)(Sc:FnScope N ps (af st))
  (len:∀ds M R,Pr ds M R->ds.length=ps.length) {t:DTS}
  (der:∀(f:Addr) (cdv:Value) (A:Around) (outer:List Env) (s:Shared) (H:Hp) (E:XK),Room k (A.deeper (envOfC x (af st) s.heap.objs.size f cdv))->DSs (iE CX0 P w K mg base N x (af st) f cdv A outer s H E).nox (aQ st) t)
  (wp:∀ds M R,Pr ds M R->t ⟨λ_ M'=>ba M R .non M',ba M R,λ_ _=>False,λ_ _=>False⟩ (bo N ds) M):FnOk P w K mg base CX0 (k+1) f fd ps (spL K Pr) :=
 d_fn Pr F Sc len λcdv A outer s H E hr=>⟨t,der f cdv A outer s H E hr,wp⟩
theorem FnOk.more{P:Program}{w:World}{K:AA}{mg:Str->Option Value}{base:Heap}{CX:CXT}{j k:Nat}{f:Addr}{fd:FuncData}{ps:List Str}{sp:Sp}(F:FnOk P w K mg base CX j f fd ps sp)(h:j<=k):FnOk P w K mg base CX k f fd ps sp :=
 ⟨F.len,λA outer s H args us vs Q E hr=>F.run A outer s H args us vs Q E (hr.mono h)⟩
theorem d_cal(C:Cal X.prog X.w X.K X.mg X.base j x ps P)(hr:Room k X.A)(ha:DA X (e::es) t)(hj:j<=k:=by decide)
  (hg:Gl X x:=by rfl) (hdb:(x==("__debug__":Str))=false:=by decide) (he:starEach (e::es) X.env=(false,eval e X.env)::starEach es X.env:=by rfl) (hpl:(backTo pos (starEach es X.env)).any (·.1)=false:=by rfl) :
  DE X (.Call (.Name x p) (e::es) [] pos) (dCB P t):=by
 obtain⟨f,fd,F,hm,hk,hb⟩:=C
 exact zb F (hr.mono hj) hm hk hb ha hg hdb he hpl
theorem wk(hm:∃t,X.mg x=some (.int i t))(hg:Gl X x:=by rfl)(hb:(x==("__debug__":Str))=false:=by decide):DE X (.Name x pos) (dC (.int i)):=by
 obtain⟨t,hm⟩:=hm
 exact tP hm rfl ⟨t,rfl⟩ hg hb
def va:DSp:=λds M R=>∃(ns:List Int) (mo:MO),ns.length<=63/\(mo.items=ns.map D.int/\mo.isL=true)/\ds=[.ref 0]/\M=[mo]/\∀M',R (.bl true) M'
theorem jM(h:M[n]?=some mo)(hl:mo.isL=true):ah M n mo.items:=by
 cases mo with
 | lst xs=>exact .inl h
 | fz xs=>exact .inr (.inl h)
 | kl xs=>exact .inr (.inr h)
 | dct xs=>cases hl
 | dkt xs=>cases hl
 | dkq _ xs=>cases hl
 | fdc o xs=>cases hl
 | dkm xs=>cases hl
 | tb x b=>cases hl
 | exc x e=>cases hl
theorem du{K:AA}{ρ:List Addr}{H:Hp}:∀(ns:List Int),Reps K ρ H (ns.map D.int) (ns.map V.int)
 | []=>.nil
 | n::ns=>.cons (.int n) (du ns)
theorem mV{K:AA}{H:Hp}{a:Addr}{ns:List Int}(hl:ns.length<=63)(hS:SqL K H a (ns.map V.int)):spL K va [.ref a] H (λv _=>v=.bl true) λ_ _ _=>False:=by
 have one:∀{mo:MO},mo.items=ns.map D.int/\mo.isL=true->nz K [a] H a mo->spL K va [.ref a] H (λv _=>v=.bl true) λ_ _ _=>False:=λ{mo} e ok=>by
  refine⟨[.ref 0],[mo],[a],λd _=>d=.bl true,⟨λn m b hne e1 e2=>?_,rfl,λn b mo' e1 e2=>?_⟩,.cons (.ref rfl) .nil,⟨ns,mo,hl,e,rfl,rfl,λ_=>rfl⟩,λv H' ⟨d,M',ρ',_,_,r,q⟩=>?_⟩
  ·have h1:=(AA4.mp e1).1
   have h2:=(AA4.mp e2).1
   simp at h1 h2
   lia
  ·have h1:=(AA4.mp e1).1
   simp at h1
   subst h1
   simp at e1 e2
   subst e1 e2
   exact ok
  ·have q':d=.bl true:=q
   subst q'
   cases r
   rfl
 rcases hS with(h | ⟨o,h⟩) | h
 ·exact one (mo:=.lst _) ⟨rfl,rfl⟩ ⟨_,h,du ns⟩
 ·exact one (mo:=.fz _) ⟨rfl,rfl⟩ ⟨o,_,h,du ns⟩
 ·exact one (mo:=.kl _) ⟨rfl,rfl⟩ ⟨_,h,du ns⟩
theorem law_walk{l:PySem.W.OpenLaw}{q:Program}{loose:List Str}{XP:(Str->Option Value)->Heap->Prop}{YP:World->Heap->Prop}{d:DefRec}{K:Params->AA}{k:Nat}{st:Stmt}{x:Str}(hn:l.most=some 63)(hdf:d.params.defaults=[])(hd:d.name = "law")(hr:Room k callerA)
  (hY:∀(w:World) (h:Heap),YP w h->(K w.params).In h)
  (F:∀(w:World) (mg:Str->Option Value) (h:Heap),(K w.params).In h->h.Ns mainGlobals mg->dF (K w.params) mg "law" st [x] /\
   ∀(base:Heap) (f:Addr) (fd:FuncData),Fun (K w.params) "law" "law" st f fd->FnOk l.prog w (K w.params) mg base CX0 k f fd [x] (spL (K w.params) va))
  (hb:∀(kV doc pm:Value) (an:Option Addr) (cdv ct:Value) (u:Value),bindArgs (ABN "law" "law" (da st) (aQ st) (af st) .none kV doc pm an cdv ct) ⟨[u],[]⟩=pure [(x,u)]) :
  PySem.W.WalkO q loose XP YP l.row.toRowW d [] (λf vs=>PySem.call f vs):=by
 refine L2.walk_of (n:=63) (k:=k) (x:=x) (CX:=λ_=>CX0) (sp:=λw=>spL (K w.params) va) hn (by decide) hdf hr hY (λw mg fa h KX G hmg=>?_) (λw H a ns hl _ hS=>mV hl hS) λ_ _ _ _ _ z=>z
 rw[hd]at hmg
 obtain⟨⟨f,fd,F1,hm,_⟩,C⟩:=F w mg h KX G
 have e:=hmg.symm.trans hm
 cases e
 have C':=λbase=>C base _ _ F1
 obtain⟨oc,od,kV,doc,pm,an,cdv,ct,osl,rfl,lk,hcd⟩:=id F1.ex
 exact⟨_,λs v=>.of_eq (hb kV doc pm an cdv ct v),λbase _ _=>C' base⟩
noncomputable def fU(nm:List (Str×NameKind))(N N':List Str)(nt:Nat)(js:List Nat)(sc:Scope):Bool :=
 sc.kind==.function&&sc.names.all (λy=>y.2 != .cell&&(y.2 != .local||sc.names.lookup y.1==some .local)&&(y.2 != .free||(nm.lookup y.1==some .cell||nm.lookup y.1==some .free))) &&
 N'.length==nt+js.length&&(AAb js.length).all λk=>match js[k]?,N'[nt+k]? with
  | some j,some x=>N[j]?==some x&&sc.names.lookup x==some .free&&(nm.lookup x==some .cell||nm.lookup x==some .free)
  | _,_=>false
theorem BlkSc.chk(h:fU X.env.scope.names X.N N' nt js scope=true):BlkSc X N' nt js scope:=by
 unfold fU at h
 simp only[AAG,AAc,beq_iff_eq,ACk,bne_iff_ne]at h
 obtain⟨⟨⟨h1,h2⟩,h3⟩,h4⟩:=h
 refine⟨h1,λy hy=>(h2 y hy).1.1,λy hy e=>((h2 y hy).1.2.resolve_left (λz=>z e)),λy hy e=>((h2 y hy).2.resolve_left (λz=>z e)),h3,λk j e=>?_⟩
 have hk:k<js.length:=(AA4.mp e).1
 have q:=h4 k (AB6.mpr hk)
 rw[e]at q
 cases f:N'[nt+k]? with
 | none=>rw[f]at q;exact absurd q (by simp)
 | some x =>
  rw[f]at q
  simp only[AAG,beq_iff_eq,ACk]at q
  exact⟨x,rfl,q.1.1,q.1.2,q.2⟩
noncomputable def eqL(f:D->D->Bool):List D->List D->Bool
 | [],[]=>true
 | x::xs,y::ys=>f x y&&eqL f xs ys
 | _,_=>false
noncomputable def eqD(M:Mem):Nat->D->D->Bool
 | _,.non,.non=>true
 | _,.bl a,.bl b=>a==b
 | _,.bl a,.int b=>(if a then 1 else 0)==b
 | _,.int a,.bl b=>a==(if b then 1 else 0)
 | _,.int a,.int b=>a==b
 | _,.str a,.str b=>a==b
 | n+1,.tup xs,.tup ys=>eqL (eqD M n) xs ys
 | n+1,.ref i,.ref j=>match M[i]?,M[j]? with
  | some a,some b=>eqL (eqD M n) a.items b.items
  | _,_=>false
 | _,_,_=>false
noncomputable def okD(M:Mem):Nat->D->Bool
 | _,.ty _=>false
 | n+1,.tup xs=>xs.all (okD M n)
 | n+1,.ref i=>match M[i]? with
  | some a=>a.isL&&a.items.all (okD M n)
  | none=>false
 | 0,.tup _=>false
 | 0,.ref _=>false
 | _,_=>true
theorem pS:∀{xs ys:List D},eqL f xs ys=true->xs.length=ys.length
 | [],[],_=>rfl
 | [],_::_,h=>by simp[eqL]at h
 | _::_,[],h=>by simp[eqL]at h
 | x::xs,y::ys,h=>by
  simp only[eqL,AAG]at h
  rw[AAW,AAW,pS h.2]
theorem qy(n:Nat)(e:Nat->Bool):(AAb (n+1)).all e=(e 0&&(AAb n).all λj=>e (j+1)):=by
 rw[List.range_succ_eq_map,ABM,List.all_map]
 rfl
theorem jV:∀{xs ys:List D}{e:Nat->Bool},xs.length=ys.length->(∀(j:Nat) x y,xs[j]?=some x->ys[j]?=some y->e j=f x y)->(AAb xs.length).all e=eqL f xs ys
 | [],[],e,_,_=>by simp[eqL]
 | [],_::_,_,h,_=>by simp at h
 | _::_,[],_,h,_=>by simp at h
 | x::xs,y::ys,e,h,he=>by
  rw[AAW,qy,eqL,he 0 x y rfl rfl,jV (by simpa using h) λj x' y' h1 h2=>he (j+1) x' y' (by simpa using h1) (by simpa using h2)]
theorem tN(h:xs.length≠ys.length):eqL f xs ys=false:=by
 cases q:eqL f xs ys with
 | false=>rfl
 | true=>exact absurd (pS q) h
theorem eF{vs:List V}{us:List Value}(h:aq vs us){j:Nat}{v:V}(e:vs[j]?=some v):∃u,us[j]?=some u/\aH v u:=by
 induction h generalizing j with
 | nil=>simp at e
 | cons r _ ih =>
  cases j with
  | zero=>simp at e;subst e;exact⟨_,rfl,r⟩
  | succ j=>exact ih (by simpa using e)
section
variable{X:Cx}{pins:List (Addr×Obj)}{σ:St}{H:Hp}{s:Shared}{ρ:List Addr}{M:Mem}
theorem lM(I:Inv X pins σ H s)(sm:Sim X.K ρ M H){i:Nat}{a:Addr}{mo:MO}(e:ρ[i]?=some a)(hm:M[i]?=some mo)(hl:mo.isL=true):∃vs its,SqL X.K H a vs/\Reps X.K ρ H mo.items vs/\aq vs its/\PlainL s.heap a its.toArray:=by
 obtain⟨vs,hq,r⟩:=ah.seq sm (jM hm hl) e
 obtain⟨its,rr,pl,_⟩:=I.list hq
 exact⟨vs,its,hq,r,rr,pl⟩
theorem er(hm:M[i]?=some mo)(o:okD M (n+1) (.ref i)=true):mo.isL=true/\mo.items.all (okD M n)=true:=by
 have o':(match M[i]? with | some a=>a.isL&&a.items.all (okD M n) | none=>false)=true:=o
 rw[hm]at o'
 exact(AAG _ _).mp o'
theorem sB(I:Inv X pins σ H s)(sm:Sim X.K ρ M H):∀(n:Nat) (x y:D) (v:V),Rep X.K ρ H x v->Rep X.K ρ H y v->okD M n x=true->okD M n y=true->eqD M n x y=true:=by
 have all:∀(n:Nat),(∀(x y:D) (v:V),Rep X.K ρ H x v->Rep X.K ρ H y v->okD M n x=true->okD M n y=true->eqD M n x y=true) ->
   ∀(xs ys:List D) (vs:List V),Reps X.K ρ H xs vs->Reps X.K ρ H ys vs->xs.all (okD M n)=true->ys.all (okD M n)=true->eqL (eqD M n) xs ys=true:=by
  intro n ih xs
  induction xs with
  | nil=>intro ys vs h1 h2 _ _;cases h1;cases h2;rfl
  | cons x xs hi =>
   intro ys vs h1 h2 o1 o2
   cases h1 with
   | cons r1 t1 =>
    cases h2 with
    | cons r2 t2 =>
     rw[ABM,AAG]at o1 o2
     rw[eqL,ih _ _ _ r1 r2 o1.1 o2.1,hi _ _ t1 t2 o1.2 o2.2]
     rfl
 intro n
 induction n with
 | zero =>
  intro x y v h1 h2 o1 o2
  cases h1<;>cases h2<;>first | (simp[okD]at o1;done) | rfl | simp[eqD]
 | succ n ih =>
  intro x y v h1 h2 o1 o2
  cases h1 with
  | non=>cases h2;rfl
  | bl b=>cases h2;simp[eqD]
  | int b=>cases h2;simp[eqD]
  | str b=>cases h2;simp[eqD]
  | ty b=>simp[okD]at o1
  | @tup a vs ds hq r =>
   cases h2 with
   | tup hq' r' =>
    have e:=I.tuple_inj hq hq'
    subst e
    exact all n ih _ _ _ r r' (by simpa [okD]using o1) (by simpa [okD]using o2)
   | @ref i _ e =>
    exfalso
    obtain⟨its,_,⟨o,e1,e2,_⟩,_⟩:=I.tuple hq
    have hi:i<M.length:=by rw[<-sm.len];exact(AA4.mp e).1
    obtain⟨vs',its',_,_,_,⟨o',n',f1,f2,_⟩⟩:=lM I sm e (AA1 hi) (er (AA1 hi) o2).1
    rw[e1]at f1;cases f1
    rw[e2]at f2;injection f2 with f3;exact absurd f3 (by decide)
  | @ref i a e =>
   have hi:i<M.length:=by rw[<-sm.len];exact(AA4.mp e).1
   have hm:=AA1 hi
   obtain⟨vs,its,hq,r,rr,pl⟩:=lM I sm e hm (er hm o1).1
   cases h2 with
   | tup hq' r' =>
    exfalso
    obtain⟨its',_,⟨o,e1,e2,_⟩,_⟩:=I.tuple hq'
    obtain⟨o',n',f1,f2,_⟩:=pl
    rw[e1]at f1;cases f1
    rw[e2]at f2;injection f2 with f3;exact absurd f3 (by decide)
   | @ref j _ e' =>
    have hj:j<M.length:=by rw[<-sm.len];exact(AA4.mp e').1
    have hm':=AA1 hj
    obtain⟨vs',its',hq',r',rr',pl'⟩:=lM I sm e' hm' (er hm' o2).1
    have ev:vs=vs':=I.list_inj hq hq'
    subst ev
    have o1':=(er hm o1).2
    have o2':=(er hm' o2).2
    simp only[eqD,hm,hm']
    exact all n ih _ _ _ r r' o1' o2'
theorem jW(I:Inv X pins σ H s)(sm:Sim X.K ρ M H):∀(n:Nat) (A:Around) (x y:D) (vx vy:V) (u v:Value),A.units+n<cLine->Rep X.K ρ H x vx->aH vx u->Rep X.K ρ H y vy->aH vy v->okD M n x=true->okD M n y=true ->
  ACP A s u v (eqD M n x y)/\SeqAt.RcAt A s u v (eqD M n x y)/\SeqAt.RcNeAt A s u v (!eqD M n x y):=by
 intro n
 induction n with
 | zero =>
  intro A x y vx vy u v hu r1 e1 r2 e2 o1 o2
  cases r1 with
  | ty b=>simp[okD]at o1
  | tup b=>simp[okD]at o1
  | ref b=>simp[okD]at o1
  | non =>
   cases e1
   cases r2 with
   | ty b=>simp[okD]at o2
   | tup b=>simp[okD]at o2
   | ref b=>simp[okD]at o2
   | non=>cases e2;exact⟨SeqAt.EqAt.same _,SeqAt.RcAt.none_none,SeqAt.RcNeAt.none_none⟩
   | bl b=>cases e2;exact⟨SeqAt.EqAt.none_bool _,SeqAt.RcAt.none_bool _,SeqAt.RcNeAt.none_bool _⟩
   | int b=>obtain⟨t,rfl⟩:=e2;exact⟨SeqAt.EqAt.none_int _ _,SeqAt.RcAt.none_int _ _,SeqAt.RcNeAt.none_int _ _⟩
   | str b=>obtain⟨t,rfl⟩:=e2;exact⟨SeqAt.EqAt.none_str _ _,SeqAt.RcAt.none_str _ _,SeqAt.RcNeAt.none_str _ _⟩
  | bl a =>
   cases e1
   cases r2 with
   | ty b=>simp[okD]at o2
   | tup b=>simp[okD]at o2
   | ref b=>simp[okD]at o2
   | non=>cases e2;exact⟨SeqAt.EqAt.bool_none _,SeqAt.RcAt.bool_none _,SeqAt.RcNeAt.bool_none _⟩
   | bl b=>cases e2;exact⟨SeqAt.EqAt.bool_bool _ _,SeqAt.RcAt.bool_bool _ _,SeqAt.RcNeAt.bool_bool _ _⟩
   | int b=>obtain⟨t,rfl⟩:=e2;exact⟨SeqAt.EqAt.bool_int _ _ _,SeqAt.RcAt.bool_int _ _ _,SeqAt.RcNeAt.bool_int _ _ _⟩
   | str b=>obtain⟨t,rfl⟩:=e2;exact⟨SeqAt.EqAt.bool_str _ _ _,SeqAt.RcAt.bool_str _ _ _,SeqAt.RcNeAt.bool_str _ _ _⟩
  | int a =>
   obtain⟨t0,rfl⟩:=e1
   cases r2 with
   | ty b=>simp[okD]at o2
   | tup b=>simp[okD]at o2
   | ref b=>simp[okD]at o2
   | non=>cases e2;exact⟨SeqAt.EqAt.int_none _ _,SeqAt.RcAt.int_none _ _,SeqAt.RcNeAt.int_none _ _⟩
   | bl b=>cases e2;exact⟨SeqAt.EqAt.int_bool _ _ _,SeqAt.RcAt.int_bool _ _ _,SeqAt.RcNeAt.int_bool _ _ _⟩
   | int b=>obtain⟨t,rfl⟩:=e2;exact⟨SeqAt.EqAt.int_int _ _ _ _,SeqAt.RcAt.int_int _ _ _ _,SeqAt.RcNeAt.int_int _ _ _ _⟩
   | str b=>obtain⟨t,rfl⟩:=e2;exact⟨ACr _ _ _ _,SeqAt.RcAt.int_str _ _ _ _,SeqAt.RcNeAt.int_str _ _ _ _⟩
  | str a =>
   obtain⟨t0,rfl⟩:=e1
   cases r2 with
   | ty b=>simp[okD]at o2
   | tup b=>simp[okD]at o2
   | ref b=>simp[okD]at o2
   | non=>cases e2;exact⟨SeqAt.EqAt.str_none _ _,SeqAt.RcAt.str_none _ _,SeqAt.RcNeAt.str_none _ _⟩
   | bl b=>cases e2;exact⟨SeqAt.EqAt.str_bool _ _ _,SeqAt.RcAt.str_bool _ _ _,SeqAt.RcNeAt.str_bool _ _ _⟩
   | int b=>obtain⟨t,rfl⟩:=e2;exact⟨ACs _ _ _ _,SeqAt.RcAt.str_int _ _ _ _,SeqAt.RcNeAt.str_int _ _ _ _⟩
   | str b=>obtain⟨t,rfl⟩:=e2;exact⟨SeqAt.EqAt.str_str _ _ _ _,SeqAt.RcAt.str_str _ _ _ _,SeqAt.RcNeAt.str_str _ _ _ _⟩
 | succ n ih =>
  intro A x y vx vy u v hu r1 e1 r2 e2 o1 o2
  have hu0:A.units<cLine:=by lia
  have hu1:A.in1.units+n<cLine:=by show A.units+1+n<cLine;lia
  -- what a list or a tuple is,as the heap has it
  have tupAt:∀{a:Addr}{vs:List V}{ds:List D},SqT X.K H a vs->Reps X.K ρ H ds vs->∃its:List Value,aq vs its/\s.heap.IsTuple a its.toArray/\ds.length=its.length:=λ{a vs ds} hq r=>by
   obtain⟨its,rr,pl,_⟩:=I.tuple hq
   exact⟨its,rr,pl,r.length.trans rr.length⟩
  have lstAt:∀{i:Nat}{a:Addr},ρ[i]?=some a->okD M (n+1) (.ref i)=true->∃mo,M[i]?=some mo/\∃vs its,Reps X.K ρ H mo.items vs/\aq vs its/\s.heap.IsList a its.toArray/\mo.items.length=its.length:=λ{i a} e ok=>by
   have hi:i<M.length:=by rw[<-sm.len];exact(AA4.mp e).1
   have hm:=AA1 hi
   obtain⟨vs,its,hq,r,rr,pl⟩:=lM I sm e hm (er hm ok).1
   exact⟨_,hm,vs,its,r,rr,pl.isList,r.length.trans rr.length⟩
  have items:∀{xs ys:List D}{vs ws:List V}{its jts:List Value},Reps X.K ρ H xs vs->aq vs its->Reps X.K ρ H ys ws->aq ws jts->xs.all (okD M n)=true->ys.all (okD M n)=true ->
    ∀(j:Nat) (h1:j<its.toArray.size) (h2:j<jts.toArray.size),ACP A.in1 s its.toArray[j] jts.toArray[j] (eqD M n (xs.getD j .non) (ys.getD j .non)):=λ{xs ys vs ws its jts} r1 q1 r2 q2 o1 o2 j h1 h2=>by
   have l1:j<xs.length:=by rw[r1.length,q1.length];simpa using h1
   have l2:j<ys.length:=by rw[r2.length,q2.length];simpa using h2
   obtain⟨v1,g1,p1⟩:=r1.get (AA1 l1)
   obtain⟨v2,g2,p2⟩:=r2.get (AA1 l2)
   obtain⟨u1,k1,m1⟩:=eF q1 g1
   obtain⟨u2,k2,m2⟩:=eF q2 g2
   have z1:its.toArray[j]=u1:=by
    have:=(AA4.mp k1).2
    simpa using this
   have z2:jts.toArray[j]=u2:=by
    have:=(AA4.mp k2).2
    simpa using this
   rw[z1,z2]
   have y1:xs.getD j .non=xs[j]:=by simp[List.getD,AA1 l1]
   have y2:ys.getD j .non=ys[j]:=by simp[List.getD,AA1 l2]
   rw[y1,y2]
   exact(ih A.in1 _ _ _ _ _ _ hu1 p1 m1 p2 m2 (AAc.mp o1 _ (AB4 l1)) (AAc.mp o2 _ (AB4 l2))).1
  have rng:∀(xs ys:List D),xs.length=ys.length->(AAb xs.length).all (λj=>eqD M n (xs.getD j .non) (ys.getD j .non))=eqL (eqD M n) xs ys:=λxs ys h=>jV h λj x y h1 h2=>by
   simp[List.getD,h1,h2]
  have fin:∀{a b:Addr}{k:Bool},Rep X.K ρ H x (.ref a)->Rep X.K ρ H y (.ref b)->eqD M (n+1) x y=k->SeqAt.RcAt A s (.ref a) (.ref b) k->SeqAt.RcNeAt A s (.ref a) (.ref b) (!k) ->
    ACP A s (.ref a) (.ref b) (eqD M (n+1) x y)/\SeqAt.RcAt A s (.ref a) (.ref b) (eqD M (n+1) x y)/\SeqAt.RcNeAt A s (.ref a) (.ref b) (!eqD M (n+1) x y):=λ{a b k} p1 p2 ek h1 h2=>by
   subst ek
   refine⟨?_,h1,h2⟩
   by_cases hab:a=b
   ·subst hab
    rw[sB I sm (n+1) x y _ p1 p2 o1 o2]
    exact SeqAt.EqAt.same _
   ·exact SeqAt.EqAt.of_refs hab h1
  cases r1 with
  | ty b=>simp[okD]at o1
  | non =>
   cases e1
   cases r2 with
   | ty b=>simp[okD]at o2
   | tup hq r=>cases e2;obtain⟨its,rr,pl,_⟩:=tupAt hq r;exact⟨SeqAt.EqAt.none_tuple pl hu0,SeqAt.RcAt.none_tuple pl hu0,SeqAt.RcNeAt.none_tuple pl hu0⟩
   | ref e=>cases e2;obtain⟨mo,hm,vs,its,r,rr,pl,_⟩:=lstAt e o2;exact⟨SeqAt.EqAt.none_list pl hu0,SeqAt.RcAt.none_list pl hu0,SeqAt.RcNeAt.none_list pl hu0⟩
   | non=>cases e2;exact⟨SeqAt.EqAt.same _,SeqAt.RcAt.none_none,SeqAt.RcNeAt.none_none⟩
   | bl b=>cases e2;exact⟨SeqAt.EqAt.none_bool _,SeqAt.RcAt.none_bool _,SeqAt.RcNeAt.none_bool _⟩
   | int b=>obtain⟨t,rfl⟩:=e2;exact⟨SeqAt.EqAt.none_int _ _,SeqAt.RcAt.none_int _ _,SeqAt.RcNeAt.none_int _ _⟩
   | str b=>obtain⟨t,rfl⟩:=e2;exact⟨SeqAt.EqAt.none_str _ _,SeqAt.RcAt.none_str _ _,SeqAt.RcNeAt.none_str _ _⟩
  | bl a =>
   cases e1
   cases r2 with
   | ty b=>simp[okD]at o2
   | tup hq r=>cases e2;obtain⟨its,rr,pl,_⟩:=tupAt hq r;exact⟨SeqAt.EqAt.bool_tuple _ pl hu0,SeqAt.RcAt.bool_tuple _ pl hu0,SeqAt.RcNeAt.bool_tuple _ pl hu0⟩
   | ref e=>cases e2;obtain⟨mo,hm,vs,its,r,rr,pl,_⟩:=lstAt e o2;exact⟨SeqAt.EqAt.bool_list _ pl hu0,SeqAt.RcAt.bool_list _ pl hu0,SeqAt.RcNeAt.bool_list _ pl hu0⟩
   | non=>cases e2;exact⟨SeqAt.EqAt.bool_none _,SeqAt.RcAt.bool_none _,SeqAt.RcNeAt.bool_none _⟩
   | bl b=>cases e2;exact⟨SeqAt.EqAt.bool_bool _ _,SeqAt.RcAt.bool_bool _ _,SeqAt.RcNeAt.bool_bool _ _⟩
   | int b=>obtain⟨t,rfl⟩:=e2;exact⟨SeqAt.EqAt.bool_int _ _ _,SeqAt.RcAt.bool_int _ _ _,SeqAt.RcNeAt.bool_int _ _ _⟩
   | str b=>obtain⟨t,rfl⟩:=e2;exact⟨SeqAt.EqAt.bool_str _ _ _,SeqAt.RcAt.bool_str _ _ _,SeqAt.RcNeAt.bool_str _ _ _⟩
  | int a =>
   obtain⟨t0,rfl⟩:=e1
   cases r2 with
   | ty b=>simp[okD]at o2
   | tup hq r=>cases e2;obtain⟨its,rr,pl,_⟩:=tupAt hq r;exact⟨SeqAt.EqAt.int_tuple _ _ pl hu0,SeqAt.RcAt.int_tuple _ _ pl hu0,SeqAt.RcNeAt.int_tuple _ _ pl hu0⟩
   | ref e=>cases e2;obtain⟨mo,hm,vs,its,r,rr,pl,_⟩:=lstAt e o2;exact⟨SeqAt.EqAt.int_list _ _ pl hu0,SeqAt.RcAt.int_list _ _ pl hu0,SeqAt.RcNeAt.int_list _ _ pl hu0⟩
   | non=>cases e2;exact⟨SeqAt.EqAt.int_none _ _,SeqAt.RcAt.int_none _ _,SeqAt.RcNeAt.int_none _ _⟩
   | bl b=>cases e2;exact⟨SeqAt.EqAt.int_bool _ _ _,SeqAt.RcAt.int_bool _ _ _,SeqAt.RcNeAt.int_bool _ _ _⟩
   | int b=>obtain⟨t,rfl⟩:=e2;exact⟨SeqAt.EqAt.int_int _ _ _ _,SeqAt.RcAt.int_int _ _ _ _,SeqAt.RcNeAt.int_int _ _ _ _⟩
   | str b=>obtain⟨t,rfl⟩:=e2;exact⟨ACr _ _ _ _,SeqAt.RcAt.int_str _ _ _ _,SeqAt.RcNeAt.int_str _ _ _ _⟩
  | str a =>
   obtain⟨t0,rfl⟩:=e1
   cases r2 with
   | ty b=>simp[okD]at o2
   | tup hq r=>cases e2;obtain⟨its,rr,pl,_⟩:=tupAt hq r;exact⟨SeqAt.EqAt.str_tuple _ _ pl hu0,SeqAt.RcAt.str_tuple _ _ pl hu0,SeqAt.RcNeAt.str_tuple _ _ pl hu0⟩
   | ref e=>cases e2;obtain⟨mo,hm,vs,its,r,rr,pl,_⟩:=lstAt e o2;exact⟨SeqAt.EqAt.str_list _ _ pl hu0,SeqAt.RcAt.str_list _ _ pl hu0,SeqAt.RcNeAt.str_list _ _ pl hu0⟩
   | non=>cases e2;exact⟨SeqAt.EqAt.str_none _ _,SeqAt.RcAt.str_none _ _,SeqAt.RcNeAt.str_none _ _⟩
   | bl b=>cases e2;exact⟨SeqAt.EqAt.str_bool _ _ _,SeqAt.RcAt.str_bool _ _ _,SeqAt.RcNeAt.str_bool _ _ _⟩
   | int b=>obtain⟨t,rfl⟩:=e2;exact⟨ACs _ _ _ _,SeqAt.RcAt.str_int _ _ _ _,SeqAt.RcNeAt.str_int _ _ _ _⟩
   | str b=>obtain⟨t,rfl⟩:=e2;exact⟨SeqAt.EqAt.str_str _ _ _ _,SeqAt.RcAt.str_str _ _ _ _,SeqAt.RcNeAt.str_str _ _ _ _⟩
  | @tup a vs ds hq r =>
   cases e1
   obtain⟨its,rr,pl,ll⟩:=tupAt hq r
   cases r2 with
   | ty b=>simp[okD]at o2
   | non=>cases e2;exact⟨SeqAt.EqAt.tuple_none pl hu0,SeqAt.RcAt.tuple_none pl hu0,SeqAt.RcNeAt.tuple_none pl hu0⟩
   | bl b=>cases e2;exact⟨SeqAt.EqAt.tuple_bool _ pl hu0,SeqAt.RcAt.tuple_bool _ pl hu0,SeqAt.RcNeAt.tuple_bool _ pl hu0⟩
   | int b=>obtain⟨t,rfl⟩:=e2;exact⟨SeqAt.EqAt.tuple_int _ _ pl hu0,SeqAt.RcAt.tuple_int _ _ pl hu0,SeqAt.RcNeAt.tuple_int _ _ pl hu0⟩
   | str b=>obtain⟨t,rfl⟩:=e2;exact⟨SeqAt.EqAt.tuple_str _ _ pl hu0,SeqAt.RcAt.tuple_str _ _ pl hu0,SeqAt.RcNeAt.tuple_str _ _ pl hu0⟩
   | ref e=>cases e2;obtain⟨mo,hm,vs',its',r',rr',pl',_⟩:=lstAt e o2;exact⟨SeqAt.EqAt.tuple_list pl pl' hu0,SeqAt.RcAt.tuple_list pl pl' hu0,SeqAt.RcNeAt.tuple_list pl pl' hu0⟩
   | @tup b ws es hq' r' =>
    cases e2
    obtain⟨jts,rr',pl',ll'⟩:=tupAt hq' r'
    have ok1:ds.all (okD M n)=true:=by simpa [okD]using o1
    have ok2:es.all (okD M n)=true:=by simpa [okD]using o2
    have key:((AAb (min its.toArray.size jts.toArray.size)).all (λj=>eqD M n (ds.getD j .non) (es.getD j .non))&&its.toArray.size==jts.toArray.size)=eqL (eqD M n) ds es:=by
     rw[AA7,AA7]
     by_cases hl:ds.length=es.length
     ·rw[<-ll,<-ll',<-hl,Nat.min_self,rng ds es hl]
      simp
     ·rw[tN hl,<-ll,<-ll']
      simp[hl]
    have h1:=SeqAt.RcAt.tuples pl pl' hu0 (items r rr r' rr' ok1 ok2)
    have h2:=SeqAt.RcNeAt.tuples pl pl' hu0 (items r rr r' rr' ok1 ok2)
    rw[key]at h1 h2
    exact fin (.tup hq r) (.tup hq' r') rfl h1 h2
  | @ref i a e =>
   cases e1
   obtain⟨mo,hm,vs,its,r,rr,pl,ll⟩:=lstAt e o1
   cases r2 with
   | ty b=>simp[okD]at o2
   | non=>cases e2;exact⟨SeqAt.EqAt.list_none pl hu0,SeqAt.RcAt.list_none pl hu0,SeqAt.RcNeAt.list_none pl hu0⟩
   | bl b=>cases e2;exact⟨SeqAt.EqAt.list_bool _ pl hu0,SeqAt.RcAt.list_bool _ pl hu0,SeqAt.RcNeAt.list_bool _ pl hu0⟩
   | int b=>obtain⟨t,rfl⟩:=e2;exact⟨SeqAt.EqAt.list_int _ _ pl hu0,SeqAt.RcAt.list_int _ _ pl hu0,SeqAt.RcNeAt.list_int _ _ pl hu0⟩
   | str b=>obtain⟨t,rfl⟩:=e2;exact⟨SeqAt.EqAt.list_str _ _ pl hu0,SeqAt.RcAt.list_str _ _ pl hu0,SeqAt.RcNeAt.list_str _ _ pl hu0⟩
   | tup hq' r'=>cases e2;obtain⟨its',rr',pl',_⟩:=tupAt hq' r';exact⟨SeqAt.EqAt.list_tuple pl pl' hu0,SeqAt.RcAt.list_tuple pl pl' hu0,SeqAt.RcNeAt.list_tuple pl pl' hu0⟩
   | @ref j b e' =>
    cases e2
    obtain⟨mo',hm',ws,jts,r',rr',pl',ll'⟩:=lstAt e' o2
    have ok1:mo.items.all (okD M n)=true:=(er hm o1).2
    have ok2:mo'.items.all (okD M n)=true:=(er hm' o2).2
    have ek:eqD M (n+1) (.ref i) (.ref j)=eqL (eqD M n) mo.items mo'.items:=by simp only[eqD,hm,hm']
    by_cases hl:mo.items.length=mo'.items.length
    ·have hsz:its.toArray.size=jts.toArray.size:=by rw[AA7,AA7,<-ll,<-ll',hl]
     have h1:=SeqAt.RcAt.lists pl pl' hsz hu0 (items r rr r' rr' ok1 ok2)
     have h2:=SeqAt.RcNeAt.lists pl pl' hsz hu0 (items r rr r' rr' ok1 ok2)
     rw[AA7,<-ll,rng _ _ hl]at h1 h2
     exact fin (.ref e) (.ref e') ek h1 h2
    ·have hsz:(its.toArray.size != jts.toArray.size)=true:=by
      rw[AA7,AA7,<-ll,<-ll']
      simpa using hl
     have h1:=SeqAt.RcAt.lists_lengths pl pl' hsz hu0
     have h2:=SeqAt.RcNeAt.lists_lengths pl pl' hsz hu0
     exact fin (.ref e) (.ref e') (ek.trans (tN hl)) h1 h2
noncomputable def eqN:Nat:=30
def qEq:DR2:=λx y M Q=>(okD M eqN x=true/\okD M eqN y=true)/\Q (.bl (eqD M eqN x y)) M
def qNe:DR2:=λx y M Q=>(okD M eqN x=true/\okD M eqN y=true)/\Q (.bl (!eqD M eqN x y)) M
end
theorem ly(hr:Room k A):A.units+eqN<cLine:=by have:=hr.un;unfold eqN;lia
theorem od_eq{X:Cx}(hr:Room k X.A):OpD X (compareOp .Eq) qEq:=by
 rintro pins s σ H vx vy v u R I rx ry ⟨x,y,M,ρ,Q,sm,r1,r2,⟨⟨o1,o2⟩,q⟩,k⟩
 exact(jW I sm eqN X.A x y vx vy v u (ly hr) r1 rx r2 ry o1 o2).2.1 _ _ _ _ (kZ I sm k q)
theorem od_ne{X:Cx}(hr:Room k X.A):OpD X (compareOp .NotEq) qNe:=by
 rintro pins s σ H vx vy v u R I rx ry ⟨x,y,M,ρ,Q,sm,r1,r2,⟨⟨o1,o2⟩,q⟩,k⟩
 exact(jW I sm eqN X.A x y vx vy v u (ly hr) r1 rx r2 ry o1 o2).2.2 _ _ _ _ (kZ I sm k q)
theorem zh:bootBuiltins "len" = some (.builtin "len"):=by decide +kernel
theorem cv:bootBuiltins "isinstance" = some (.builtin "isinstance"):=by decide +kernel
theorem qv:bootBuiltins "sorted" = some (.builtin "sorted"):=by decide +kernel
theorem zi:bootBuiltins "int" = some (.type "int"):=by decide +kernel
theorem zg:bootBuiltins "str" = some (.type "str"):=by decide +kernel
theorem wt:bootBuiltins "bool" = some (.type "bool"):=by decide +kernel
theorem wr:bootBuiltins "list" = some (.type "list"):=by decide +kernel
theorem sO:bootBuiltins "tuple" = some (.type "tuple"):=by decide +kernel
noncomputable def visB(sc:Scope)(x:Str):Bool:=match sc.names.lookup x with
 | some .local=>true
 | some .cell=>true
 | some .free=>true
 | _=>false
theorem wH(h:visB sc x=true):Vis sc x:=by
 unfold visB at h
 unfold Vis
 split at h
 ·rename_i e;exact .inl e
 ·rename_i e;exact .inr (.inl e)
 ·rename_i e;exact .inr (.inr e)
 ·cases h
noncomputable def uV(sc:Scope)(x:Str):Bool:=match sc.names.lookup x with
 | some .local=>true
 | some .cell=>true
 | _=>false
theorem lT(h:uV sc x=true):Loc sc x:=by
 unfold uV at h
 unfold Loc
 split at h
 ·rename_i e;exact .inl e
 ·rename_i e;exact .inr e
 ·cases h
structure HE(X:Cx)(e:Expr)(t:DTE):Prop where
 ok:DE X e t
structure HT(X:Cx)(e:Expr)(t:DTT):Prop where
 ok:DT X e t
structure HW(X:Cx)(e:Expr)(t:DTT):Prop where
 ok:DW X e t
structure HA(X:Cx)(es:List Expr)(t:DTA):Prop where
 ok:DA X es t
structure HS(X:Cx)(e:Stmt)(t:DTS):Prop where
 ok:DS X e t
structure HB(X:Cx)(e:List Stmt)(t:DTS):Prop where
 ok:DSs X e t
structure HG(X:Cx)(e:Expr)(t:DTG):Prop where
 ok:DG X e t
structure HI(X:Cx)(tg e:Expr)(t:DTI):Prop where
 ok:DI X tg e t
structure HTs(X:Cx)(e:List Expr)(t:DTT):Prop where
 ok:PTs X e (lowT X.K t)
structure HO'(X:Cx)(e:Option Expr)(t:DTO):Prop where
 ok:PO X e (xL X.K t)
structure HOp(X:Cx)(f:Value->Value->Sem Value)(r:DR2):Prop where
 ok:OpD X f r
structure HUn(X:Cx)(f:Value->Sem Value)(r:DR1):Prop where
 ok:UnD X f r
structure HC(X:Cx)(f:Value)(r:DRA):Prop where
 ok:gl X f r
structure HMs(X:Cx)(name:Str)(r:Str->DRA):Prop where
 ok:∃id,Slot "str" name id/\typeOf (.builtin id)=pure (.type "method_descriptor")/\MtR X id (rK X.K r)
structure HMl(X:Cx)(name:Str)(r:Nat->DRA):Prop where
 ok:∃id,Slot "list" name id/\typeOf (.builtin id)=pure (.type "method_descriptor")/\MtR X id (rL X.K r)
theorem k_var(hN:X.N[i]?=some x:=by kernel_rfl)(hv:visB X.env.scope x=true:=by kernel_rfl)(hd:(x==("__debug__":Str))=false:=by kernel_rfl)
  (hcd:(x==("__classdict__":Str))=false:=by kernel_rfl):HE X (.Name x pos) (ad i):=⟨d_var hN (wH hv) hd hcd⟩
theorem k_int:HE X (.Constant (.int i) j pos) (dC (.int i)):=⟨d_int⟩
theorem k_bl:HE X (.Constant (.bool i) j pos) (dC (.bl i)):=⟨d_bl⟩
theorem k_non:HE X (.Constant .none j pos) (dC .non):=⟨d_non⟩
theorem k_str:HE X (.Constant (.str i) j pos) (dC (.str i)):=⟨d_str⟩
theorem vF(hm:∃t,X.mg x=some (.int i t))(hg:X.env.kindOf x=some .globalImplicit:=by kernel_rfl)(hb:(x==("__debug__":Str))=false:=by kernel_rfl):HE X (.Name x pos) (dC (.int i)):=⟨wk hm hg hb⟩
theorem yf(hm:X.mg x=none)(hv:bootBuiltins x=some (.type T))(hg:X.env.kindOf x=some .globalImplicit:=by kernel_rfl)(hn:(x==("__name__":Str))=false:=by kernel_rfl)(hb:(x==("__debug__":Str))=false:=by kernel_rfl):HE X (.Name x pos) (dC (.ty T)) :=
 ⟨yY hm hv hg (by simpa using hn) hb⟩
theorem k_op(ho:HOp X (binaryOp op) r)(ha:HE X a ta)(hb:HE X b tb):HE X (.BinOp a op b pos) (dOp r ta tb):=⟨d_op ho.ok ha.ok hb.ok⟩
theorem k_cmp(ho:HOp X (compareOp op) r)(ha:HE X a ta)(hb:HE X b tb)(hm:behindInMarks op b=false:=by kernel_rfl):HE X (.Compare a [op] [b] pos) (dOp r ta tb):=⟨d_cmp ho.ok ha.ok hb.ok hm⟩
theorem xS(ho:HOp X (compareOp op) r)(ha:HE X a ta)(hb:HE X b tb)(hm:behindInMarks op b=false:=by kernel_rfl):HT X (.Compare a [op] [b] pos) (aB (dOp r ta tb)):=⟨yK ho.ok ha.ok hb.ok hm⟩
theorem rT(ho:HOp X (compareOp op) r)(ho':HOp X (compareOp op') r')(ha:HE X a ta)(hb:HE X b tb)(hc:HE X c tc)(hm:lastMarks [op,op'] [b,c]=false:=by kernel_rfl) :
  HT X (.Compare a [op,op'] [b,c] pos) (aB (fS r r' ta tb tc)):=⟨sC ho.ok ho'.ok ha.ok hb.ok hc.ok hm⟩
theorem xQ(h:HE X e te)(he:∀whole,isTrue e X.env whole=(do let v <-whole;standAt e.pos;holding [v] (truthy v)):=by intro _;kernel_rfl):HT X e (aB te):=⟨yI h.ok he⟩
theorem vc(ha:HT X a tA):HW X (.BoolOp .And [a] pos) tA:=⟨vU ha.ok⟩
theorem xO(ha:HT X a tA):HW X (.BoolOp .Or [a] pos) tA:=⟨yG ha.ok⟩
theorem tF{X:Cx}{a b:Expr}{az:List Expr}{pos:Pos}{tA tB:DTT}(ha:HT X a tA)(hb:HW X (.BoolOp .And (b::az) pos) tB):HW X (.BoolOp .And (a::b::az) pos) (wC tA tB):=⟨yH ha.ok hb.ok⟩
theorem xP{X:Cx}{a b:Expr}{az:List Expr}{pos:Pos}{tA tB:DTT}(ha:HT X a tA)(hb:HW X (.BoolOp .Or (b::az) pos) tB):HW X (.BoolOp .Or (a::b::az) pos) (dOr tA tB):=⟨dw_or ha.ok hb.ok⟩
theorem kw_t(h:HW X e tA):HT X e tA:=⟨dw_t h.ok⟩
theorem xR(ha:HT X a tA):HT X (.UnaryOp .Not a pos) (mY tA):=⟨yJ ha.ok⟩
theorem k_one{op}(h:HE X a ta):HE X (.BoolOp op [a] pos) ta:=⟨d_one h.ok⟩
theorem k_and{X:Cx}{a b:Expr}{az:List Expr}{ta tb:DTE}{pos:Pos}(ha:HE X a ta)(hb:HE X (.BoolOp .And (b::az) pos) tb):HE X (.BoolOp .And (a::b::az) pos) (ka ta tb):=⟨d_and ha.ok hb.ok⟩
theorem k_or{X:Cx}{a b:Expr}{az:List Expr}{ta tb:DTE}{pos:Pos}(ha:HE X a ta)(hb:HE X (.BoolOp .Or (b::az) pos) tb):HE X (.BoolOp .Or (a::b::az) pos) (dOrV ta tb):=⟨d_or ha.ok hb.ok⟩
theorem k_not(ha:HE X a ta):HE X (.UnaryOp .Not a pos) (pZ ta):=⟨d_not ha.ok⟩
theorem ye:HA X [] am:=⟨yX⟩
theorem vB(ha:HE X e te)(hr:HA X es t)(hs:starEach (e::es) X.env=(false,eval e X.env)::starEach es X.env:=by kernel_rfl):HA X (e::es) (aa te t):=⟨wg ha.ok hr.ok hs⟩
theorem k_tup{x1}(h:HA X es t):HE X (.Tuple es x1 pos) (iN t):=⟨d_tup h.ok⟩
theorem k_lst(h:HA X es t):HE X (.List es pos) (fP t):=⟨d_lst h.ok⟩
theorem vH{id:String}{r:DRA}(hc:HC X (.builtin id) r)(hm:X.mg x=none)(hv:bootBuiltins x=some (.builtin id))(ha:HA X (e::es) t)(hg:X.env.kindOf x=some .globalImplicit:=by kernel_rfl)(hn:(x==("__name__":Str))=false:=by kernel_rfl)(hdb:(x==("__debug__":Str))=false:=by kernel_rfl)
  (he:starEach (e::es) X.env=(false,eval e X.env)::starEach es X.env:=by kernel_rfl) (hpl:(backTo pos (starEach es X.env)).any (·.1)=false:=by kernel_rfl):HE X (.Call (.Name x p) (e::es) [] pos) (dCB r t):=⟨wm hc.ok hm hv ha.ok hg (by simpa using hn) hdb he hpl⟩
theorem sd(hc:HC X (.type T) r)(hm:X.mg x=none)(hv:bootBuiltins x=some (.type T))(ha:HA X (e::es) t)(hg:X.env.kindOf x=some .globalImplicit:=by kernel_rfl)(hn:(x==("__name__":Str))=false:=by kernel_rfl)(hdb:(x==("__debug__":Str))=false:=by kernel_rfl)
  (he:starEach (e::es) X.env=(false,eval e X.env)::starEach es X.env:=by kernel_rfl) (hpl:(backTo pos (starEach es X.env)).any (·.1)=false:=by kernel_rfl):HE X (.Call (.Name x p) (e::es) [] pos) (dCB r t):=⟨sI hc.ok hm hv ha.ok hg (by simpa using hn) hdb he hpl⟩
theorem k_cal(C:Cal X.prog X.w X.K X.mg X.base j x ps P)(hr:Room k X.A)(ha:HA X (e::es) t)(hj:Nat.ble j k=true:=by kernel_rfl)
  (hg:X.env.kindOf x=some .globalImplicit:=by kernel_rfl) (hdb:(x==("__debug__":Str))=false:=by kernel_rfl) (he:starEach (e::es) X.env=(false,eval e X.env)::starEach es X.env:=by kernel_rfl) (hpl:(backTo pos (starEach es X.env)).any (·.1)=false:=by kernel_rfl) :
  HE X (.Call (.Name x p) (e::es) [] pos) (dCB P t):=⟨d_cal C hr ha.ok (ACY hj) hg hdb he hpl⟩
theorem k_ix(ha:HE X a ta)(hb:HE X b tb)(hs:lj b:=by intro _ _;kernel_rfl):HE X (.Subscript a b pos) (dOp qIx ta tb):=⟨d_ix ha.ok hb.ok hs⟩
theorem vp:HO' X none bc:=⟨wc⟩
theorem vm(h:HE X e te):HO' X (some e) (dA te):=⟨wb h.ok⟩
theorem vC{lo hi:Option Expr}{tl th:DTO}{p2:Pos}(he:HE X e te)(hl:HO' X lo tl)(hu:HO' X hi th):HE X (.Subscript e (.Slice lo hi none p2) pos) (dSl te tl th):=⟨wj he.ok hl.ok hu.ok⟩
theorem k_ms(hm:HMs X name r)(ho:HE X o to)(ha:HA X (e::es) t)
  (hbase:attributeBase o name X.env (eval o X.env)=eval o X.env:=by kernel_rfl)
  (hfew:((backTo cpos (starEach (e::es) X.env)).all (λx=>!x.1)&&(backToKw cpos (keywordEach [] X.env)).all (λx=>x.1.isSome)
   && decide ((e::es).length+([]:List Keyword).length+(if ([]:List Keyword).isEmpty then 0 else 1)<30))=true:=by kernel_rfl)
  (hline:(apos.endLine==cpos.line)=true:=by kernel_rfl) (hs:starEach (e::es) X.env=(false,eval e X.env)::starEach es X.env:=by kernel_rfl) (hplain:(backTo cpos (starEach es X.env)).any (·.1)=false:=by kernel_rfl) :
  HE X (.Call (.Attribute o name apos) (e::es) [] cpos) (dMs r to t):=let ⟨_,h1,h2,h3⟩:=hm.ok;⟨d_ms h1 h2 h3 ho.ok ha.ok hbase hfew hline hs hplain⟩
theorem k_ml(hm:HMl X name r)(ho:HE X o to)(ha:HA X (e::es) t)
  (hbase:attributeBase o name X.env (eval o X.env)=eval o X.env:=by kernel_rfl)
  (hfew:((backTo cpos (starEach (e::es) X.env)).all (λx=>!x.1)&&(backToKw cpos (keywordEach [] X.env)).all (λx=>x.1.isSome)
   && decide ((e::es).length+([]:List Keyword).length+(if ([]:List Keyword).isEmpty then 0 else 1)<30))=true:=by kernel_rfl)
  (hline:(apos.endLine==cpos.line)=true:=by kernel_rfl) (hs:starEach (e::es) X.env=(false,eval e X.env)::starEach es X.env:=by kernel_rfl) (hplain:(backTo cpos (starEach es X.env)).any (·.1)=false:=by kernel_rfl) :
  HE X (.Call (.Attribute o name apos) (e::es) [] cpos) (dMl r to t):=let ⟨_,h1,h2,h3⟩:=hm.ok;⟨d_ml h1 h2 h3 ho.ok ha.ok hbase hfew hline hs hplain⟩
theorem xU:HB X [] bd:=⟨yO⟩
theorem xT{X:Cx}{st:Stmt}{ts:DTS}(h:HS X st ts):HB X [st] ts:=⟨yN h.ok⟩
theorem vk{X:Cx}{st:Stmt}{sts:List Stmt}{ts us:DTS}(h1:HS X st ts)(h2:HB X sts us):HB X (st::sts) (aw ts us):=⟨wa h1.ok h2.ok⟩
theorem pi(he:HE X e te)(hs:swapsWith e none pos.line X.env=pure false:=by kernel_rfl):HS X (.Expr e pos) (jZ te):=⟨vY he.ok hs⟩
theorem tI(he:HE X e te):HS X (.Return (some e) pos) (cc te):=⟨yM he.ok⟩
theorem xV(hc:HT X c tA)(ha:HB X aS ts)(hb:HB X bS us):HS X (.If c aS bS pos) (dIf tA ts us):=⟨ds_if hc.ok ha.ok hb.ok⟩
theorem tH(hN:X.N.Nodup)(he:HE X e te)(hi:X.N[i]?=some x:=by kernel_rfl)(hx:uV X.env.scope x=true:=by kernel_rfl)(hs:swapsWith e (some (.Name x pos')) pos.line X.env=pure false:=by kernel_rfl)
  (hf:X.fn x=true:=by kernel_rfl):HS X (.Assign [.Name x pos'] e pos) (aN te i):=⟨yL hN he.ok hi (lT hx) hs (.inl hf)⟩
theorem vA(hN:X.N.Nodup)(hi:X.N[i]?=some x:=by kernel_rfl)(hx:uV X.env.scope x=true:=by kernel_rfl)(hf:X.fn x=true:=by kernel_rfl):HG X (.Name x pos) (ao i):=⟨kY hN hi (lT hx) (.inl hf)⟩
theorem ya(hN:X.N.Nodup)(hi:X.N[i]?=some x:=by kernel_rfl)(hf:X.env.scope.names.lookup x=some .local:=by kernel_rfl):HG X (.Name x pos) (ao i):=⟨kY hN hi (.inl hf) (.inr hf)⟩
theorem xX(h:HE X e te):HI X tg e (eE te):=⟨yT h.ok⟩
theorem tJ{body:List Stmt}{tb:DTS}(hi:HI X tg iter di)(hg:HG X tg g)(hb:HB X body tb)(hp:PassesOwn (model X.prog X.w) X.A X.env X.xe:=by exact PassesOwn.never)(hc:X.calm=true:=by kernel_rfl)
  (hs:∀x,foldedSetIterable iter X.env x=pure x:=by intro _;kernel_rfl):HS X (.For tg iter body [] pos) (gk di g tb):=⟨yP hi.ok hg.ok hb.ok hp hc hs⟩
theorem vj:HTs X [] pY:=⟨vW⟩
theorem vh(h:HT X c tA):HTs X [c] tA:=⟨vV h.ok⟩
theorem k_lc(hi:HI X tg iter di)
  (hg:∀cl s0 H0 ex,HG (blk X N' scope cl s0 H0 ex) tg g) (ht:∀cl s0 H0 ex,HTs (blk X N' scope cl s0 H0 ex) ifs tt) (he:∀cl s0 H0 ex,HE (blk X N' scope cl s0 H0 ex) elt te) (B:fU X.env.scope.names X.N N' nt js scope=true:=by kernel_rfl) (hc:X.calm=true:=by kernel_rfl)
  (hs:∀x,foldedSetIterable iter X.env x=pure x:=by intro _;kernel_rfl):HE X (.ListComp elt [⟨tg,iter,ifs,0⟩] scope pos) (dLC nt js di g tt te):=⟨d_lc (BlkSc.chk B) hi.ok (λcl s0 H0 ex=>(hg cl s0 H0 ex).ok) (λcl s0 H0 ex=>(ht cl s0 H0 ex).ok) (λcl s0 H0 ex=>(he cl s0 H0 ex).ok) hc hs⟩
theorem pp(hm:X.mg "range" = none)(ha:HA X [a] t)(hg:X.env.kindOf "range" = some .globalImplicit:=by kernel_rfl)(hs:starEach [a] X.env=[(false,eval a X.env)]:=by kernel_rfl):HI X tg (.Call (.Name "range" p) [a] [] pos) (aF t):=⟨pT hm ha.ok hg hs⟩
theorem yq:HOp X (binaryOp .Sub) wy:=⟨xG⟩
theorem yt:HOp X (binaryOp .Mult) eA:=⟨uO⟩
theorem vO:HOp X (binaryOp .FloorDiv) aU:=⟨uP⟩
theorem yu:HOp X (binaryOp .Mod) ck:=⟨xI⟩
theorem ho_lt:HOp X (compareOp .Lt) qLt:=⟨od_lt⟩
theorem ho_le:HOp X (compareOp .LtE) qLe:=⟨od_le⟩
theorem ho_is:HOp X (compareOp .Is) qIs:=⟨od_is⟩
theorem ho_eq(hr:Room k X.A):HOp X (compareOp .Eq) qEq:=⟨od_eq hr⟩
theorem ho_ne(hr:Room k X.A):HOp X (compareOp .NotEq) qNe:=⟨od_ne hr⟩
theorem yw:HC X (.builtin "len") iM:=⟨zd⟩
theorem yx:HC X (.builtin "isinstance") kr:=⟨ze⟩
theorem pH:HMl X "append" cA:=⟨_,PySem.F.slot_list_append,PySem.F.type_list_append,mQ⟩
theorem Cal.byH{P:Program}{w:World}{K:AA}{mg:Str->Option Value}{base:Heap}{x:Str}{st:Stmt}{N ps:List Str}{k:Nat}{Pr:DSp}(F:dF K mg x st ps)(Sc:FnScope N ps (af st))
  (len:∀ds M R,Pr ds M R->ds.length=ps.length) {t:DTS}
  (der:∀(f:Addr) (cdv:Value) (A:Around) (outer:List Env) (s:Shared) (H:Hp) (E:XK),Room k (A.deeper (envOfC x (af st) s.heap.objs.size f cdv))->HB (iE CX0 P w K mg base N x (af st) f cdv A outer s H E).nox (aQ st) t)
  (wp:∀ds M R,Pr ds M R->t ⟨λ_ M'=>ba M R .non M',ba M R,λ_ _=>False,λ_ _=>False⟩ (bo N ds) M):Cal P w K mg base (k+1) x ps Pr :=
 Cal.of F Sc len (λf cdv A outer s H E hr=>(der f cdv A outer s H E hr).ok) wp
theorem ss{P:Program}{w:World}{K:AA}{mg:Str->Option Value}{base:Heap}{x:Str}{st:Stmt}{N ps:List Str}{k:Nat}{Pr:DSp}{f:Addr}{fd:FuncData}(F:Fun K x x st f fd)(Sc:FnScope N ps (af st))
  (len:∀ds M R,Pr ds M R->ds.length=ps.length) {t:DTS}
  (der:∀(f:Addr) (cdv:Value) (A:Around) (outer:List Env) (s:Shared) (H:Hp) (E:XK),Room k (A.deeper (envOfC x (af st) s.heap.objs.size f cdv))->HB (iE CX0 P w K mg base N x (af st) f cdv A outer s H E).nox (aQ st) t)
  (wp:∀ds M R,Pr ds M R->t ⟨λ_ M'=>ba M R .non M',ba M R,λ_ _=>False,λ_ _=>False⟩ (bo N ds) M):FnOk P w K mg base CX0 (k+1) f fd ps (spL K Pr) :=
 vS F Sc len (λf cdv A outer s H E hr=>(der f cdv A outer s H E hr).ok) wp
theorem cu(I:List D->SD->Mem->Prop)(h0:∀S M,I [] S M->ok M/\E.nx S M)
  (h1:∀x xs S M,I (x::xs) S M->∀L:SD->Mem->Prop,(∀S' M',I xs S' M'->L S' M')->ok M/\g x S M λS2 M2=>tb ⟨Fgt k0 L,E.rt,E.nx,Fgt k0 L⟩ S2 M2) :
  ∀xs S M,I xs S M->jY ok g tb E k0 xs S M
 | [],S,M,h=>h0 S M h
 | x::xs,S,M,h=>h1 x xs S M h _ (cu I h0 h1 xs)
theorem aW(I:Nat->SD->Mem->Prop)(h0:∀S M,I xs.length S M->ok M/\E.nx S M)
  (h1:∀i x S M,xs[i]?=some x->I i S M->∀L:SD->Mem->Prop,(∀S' M',I (i+1) S' M'->L S' M')->ok M/\g x S M λS2 M2=>tb ⟨Fgt k0 L,E.rt,E.nx,Fgt k0 L⟩ S2 M2)
 (h:I 0 S M):jY ok g tb E k0 xs S M:=by
 refine cu (λys S M=>∃i,xs.drop i=ys/\i+ys.length=xs.length/\I i S M) ?_ ?_ xs S M ⟨0,rfl,by simp,h⟩
 ·rintro S M ⟨i,_,e,q⟩
  have:i=xs.length:=by simpa using e
  subst this
  exact h0 S M q
 ·rintro x ys S M ⟨i,e,el,q⟩ L hL
  have hx:xs[i]?=some x:=by
   have:(xs.drop i)[0]?=some x:=by rw[e];rfl
   simpa using this
  refine h1 i x S M hx q L λS' M' q'=>hL S' M' ⟨i+1,?_,by simp at el;lia,q'⟩
  rw[<-List.drop_drop,e]
  rfl
theorem Fgt.now(h:P S M):Fgt k0 P S M:=.inl h
theorem Fgt.back(h:FgtS k0.length S S')(p:k0 <+: M)(q:P S' k0):Fgt k0 P S M:=.inr (.inr ⟨S',h,p,q⟩)
theorem aM{lo:Int}{n i:Nat}{x:D}:(dI lo n)[i]?=some x↔i<n/\x=.int (lo+(i:Int)):=by
 unfold dI
 rw[AAP]
 by_cases h:i<n
 ·simp[h,eq_comm]
 ·simp[h]
theorem au{lo:Int}{n:Nat}:(dI lo n).length=n:=by simp[dI]
theorem cI(p:D->Bool)(f:D->D)(I:SD->Prop)(hok:ok M) :
  ∀(xs acc:List D) (S:SD),(∀x∈xs,∀S,I S->∃S',I S'/\∀(Y:D->SD->Mem->Prop) (Z:SD->Mem->Prop),(if p x=true then Y (f x) S' M else Z S' M) ->
    g x S M λS2 M2=>tt S2 M2 λb M3=>if b=true then te S2 M3 λy M4=>Y y S2 M4 else Z S2 M3) ->
   I S->acc.length+xs.length<=sizeLine->Q (.ref M.length) (M++[.lst (acc++(xs.filter p).map f)])->fR ok g tt te Q xs acc S M
 | [],acc,S,_,_,_,q=>⟨hok,by simpa using q⟩
 | x::xs,acc,S,step,hS,hl,q=>by
  obtain⟨S',hS',k⟩:=step x AAI S hS
  refine⟨hok,k (λy S2 M4=>acc.length<sizeLine/\fR ok g tt te Q xs (acc++[y]) S2 M4) (λS2 M3=>fR ok g tt te Q xs acc S2 M3) ?_⟩
  have step':=λy hy=>step y (AAA _ hy)
  rw[AAW]at hl
  by_cases hp:p x=true
  ·rw[if_pos hp]
   refine⟨by lia,cI p f I hok xs _ S' step' hS' (by rw[AAL,ABH];lia) ?_⟩
   rw[List.filter_cons_of_pos hp,AAQ]at q
   rw[AAT]
   exact q
  ·rw[if_neg hp]
   refine cI p f I hok xs acc S' step' hS' (by lia) ?_
   rw[List.filter_cons_of_neg hp]at q
   exact q
theorem bY(f:D->D)(I:SD->Prop)(hok:ok M)
  (xs acc:List D) (S:SD) (step:∀x∈xs,∀S,I S->∃S',I S'/\∀(Y:D->SD->Mem->Prop),Y (f x) S' M->g x S M λS2 M2=>te S2 M2 λy M4=>Y y S2 M4)
  (hS:I S) (hl:acc.length+xs.length<=sizeLine) (q:Q (.ref M.length) (M++[.lst (acc++xs.map f)])):fR ok g pY te Q xs acc S M:=by
 refine cI (λ_=>true) f I hok xs acc S (λx hx S hS=>?_) hS hl (by rw[List.filter_eq_self.mpr λ_ _=>rfl];exact q)
 obtain⟨S',hS',k⟩:=step x hx S hS
 refine⟨S',hS',λY Z h=>?_⟩
 rw[if_pos rfl]at h
 have:=k Y h
 simp only[pY,if_true]
 exact this
theorem av:(M++[mo])[M.length]?=some mo:=by simp
theorem ak:ah (M++[.lst xs]) M.length xs:=.inl av
theorem ah.more(h:ah M n xs)(L:Mem):ah (M++L) n xs:=by
 have key:∀{mo:MO},M[n]?=some mo->(M++L)[n]?=some mo:=λe=>by
  rw[AAC (AA4.mp e).1];exact e
 rcases h with h | h | h
 ·exact .inl (key h)
 ·exact .inr (.inl (key h))
 ·exact .inr (.inr (key h))
theorem ah.ty(h:ah M n xs):tyD M (.ref n) = "list":=by
 show (match M[n]? with | some mo=>if mo.isL=true then "list" else "?" | none=>"?") = "list"
 rcases h with h | h | h<;>(rw[h];rfl)
theorem ba.keep(h:R d M)(b:Bel M.length d)(p:M <+: M'):ba M R d M':=.inr (.inl ⟨M,.refl,b,p,h⟩)
theorem ba.now(h:R d M):ba M R d M:=.inl h
theorem ba.bl(h:R (.bl b) M)(p:M <+: M'):ba M R (.bl b) M':=.keep h (.bl b) p
theorem ba.str(h:R (.str b) M)(p:M <+: M'):ba M R (.str b) M':=.keep h (.str b) p
theorem kB:M <+: M++[mo]:=AAu _ _
theorem cT{a b:Str}(h:a.cps.toList=b.cps.toList):a=b:=by
 cases a;cases b
 simp only[Array.toList_inj]at h
 simpa using h
theorem aE{a:Str}:a.length=a.cps.toList.length:=by show a.cps.size=_;simp
theorem dS{a b:Str}:(a++b).cps.toList=a.cps.toList++b.cps.toList:=by
 show (a.cps++b.cps).toList=_
 simp
theorem aY{a b:Str}:(a++b).length=a.length+b.length:=by
 rw[aE,aE,aE,dS,AAL]
theorem fB:(⟨#[c]⟩:Str).length=1:=rfl
theorem ae(h:n<=1000):n<=sizeLine:=Nat.le_of_lt (bV h)
theorem glob_mk{K:AA}{h:Heap}{mg:Str->Option Value}{x:Str}{u:Value}{i:Int}(X:K.In h)(G:h.Ns mainGlobals mg)(a:ABI K mainGlobals x=some (some u))(b:∃t,u=Value.int i t):∃t,mg x=some (.int i t):=by
 obtain⟨t,rfl⟩:=b
 exact⟨t,ACF X G a⟩
theorem qw{α:Type}{xs:List α}{i:Int}(h0:0<=i)(h1:i<xs.length):∃(j:Nat) (hj:j<xs.length),atI xs i=some xs[j]/\(j:Int)=i:=by
 have hj:i.toNat<xs.length:=by lia
 refine⟨i.toNat,hj,?_,by lia⟩
 have e:i=((i.toNat:Nat):Int):=by lia
 have q:atI xs ((i.toNat:Nat):Int)=some xs[i.toNat]:=aG (AA1 hj)
 rw[<-e]at q
 exact q
theorem iH{α:Type}{xs:List α}{r:Int}(h:0<xs.length):∃(j:Nat) (hj:j<xs.length),atI xs (r % (xs.length:Int))=some xs[j]/\(j:Int)=r % (xs.length:Int) :=
 qw (AAS _ (by lia)) (AAM _ (by lia))
theorem ah.get(h:ah M n xs):∃mo,M[n]?=some mo/\mo.items=xs/\mo.isL=true:=by
 rcases h with h | h | h<;>exact⟨_,h,rfl,rfl⟩
theorem iA(h1:ah M i xs)(h2:ah M j ys):eqD M (n+1) (.ref i) (.ref j)=eqL (eqD M n) xs ys:=by
 obtain⟨a,ha,rfl,hl1⟩:=h1.get
 obtain⟨b,hb,rfl,hl2⟩:=h2.get
 simp only[eqD,ha,hb]
theorem fE(h1:ah M i xs)(h:∀x∈xs,okD M n x=true):okD M (n+1) (.ref i)=true:=by
 obtain⟨a,ha,rfl,hl1⟩:=h1.get
 simp only[okD,ha,hl1,Bool.true_and]
 exact AAc.mpr h
theorem uM(h:∀x∈xs,okD M n x=true):okD M (n+1) (.tup xs)=true:=by
 simp only[okD]
 exact AAc.mpr h
theorem bt:okD M n (.str x)=true:=by cases n<;>rfl
theorem xF:okD M n (.bl x)=true:=by cases n<;>rfl
theorem pR:eqL f xs []=xs.isEmpty:=by cases xs<;>rfl
theorem yE:eqD M n (.bl a) (.bl b)=(a==b):=by cases n<;>rfl
theorem fN:eqD M n (.str a) (.str b)=(a==b):=by cases n<;>rfl
def gj:wv:=λds S M Q=>match ds with
 | []=>Q S M
 | _=>False
def bp(t:DTG)(u:wv):wv:=λds S M Q=>match ds with
 | d::r=>t d S M λS' M'=>u r S' M' Q
 | []=>False
def gh(n:Nat)(t:wv):DTG:=λd S M Q=>match d with
 | .tup ds=>ds.length=n/\t ds S M Q
 | _=>False
theorem we:DGs X [] gj:=by
 rintro pins s σ H vs us R I r ⟨ds,S,M,ρ,Q,sm,sr,rr,q,k⟩
 cases rr with
 | nil=>exact uA pins s σ H _ us R I r ⟨rfl,k σ H ⟨S,M,ρ,sm,.refl,sr,q⟩⟩
 | cons _ _=>exact q.elim
theorem sF(h1:DG X e t)(h2:DGs X es u)
  (hs:(assignEach (e::es) X.env).map (·.2)=assign e X.env::(assignEach es X.env).map (·.2):=by rfl):DGs X (e::es) (bp t u):=by
 rintro pins s σ H vs us R I r ⟨ds,S,M,ρ,Q,sm,sr,rr,q,k⟩
 cases rr with
 | nil=>exact q.elim
 | cons r1 rr =>
  refine rm h1 h2 hs pins s σ H _ us R I r ⟨_,_,rfl,_,S,M,ρ,_,sm,sr,r1,q,?_⟩
  rintro σ1 H1 ⟨S1,M1,ρ1,s1,g1,sr1,q1⟩
  exact⟨_,S1,M1,ρ1,Q,s1,sr1,rr.grow g1,q1,λσ' H' w=>k σ' H' (SQ.trans g1 w)⟩
theorem yU(h:DGs X es t)(hc:X.calm=true:=by rfl)
  (hn:(assignEach es X.env).length=n:=by rfl) (hst:(assignEach es X.env).findIdx? (·.1)=none:=by rfl):DG X (.Tuple es j pos) (gh n t):=by
 rintro pins s σ H v u R I r ⟨d,S,M,ρ,Q,sm,sr,rd,q,k⟩
 cases rd with
 | tup hq rr=>exact xh hc h hn hst pins s σ H _ u R I r ⟨_,_,rfl,hq,by rw[<-rr.length];exact q.1,_,S,M,ρ,Q,sm,sr,rr,q.2,k⟩
 | _=>exact q.elim
def wB(te:DTE)(g:DTG):DTS:=λE S M=>te S M λd M1=>g d S M1 E.nx
theorem yQ(he:DE X e te)(hg:DG X tg g)(hs:swapsWithSole [tg] e pos.line X.env=pure false:=by rfl)(hw:swappedStores [tg] e X.env=pure none:=by rfl)
  (h1:(assignEach [tg] X.env).map (·.2)=[assign tg X.env]:=by rfl):DS X (.Assign [tg] e pos) (wB te g):=by
 refine PS.imp (xg he hg hs hw h1) ?_
 rintro E σ H ⟨S,M,ρ,F,s,sr,q,k⟩
 refine⟨S,M,ρ,_,s,sr,q,?_⟩
 rintro v H1 ⟨d,M1,ρ1,s1,g1,r1,q1⟩
 exact⟨d,S,M1,ρ1,_,s1,sr.grow g1,r1,q1,λσ' H' w=>k.nx σ' H' (SQ.trans g1 w)⟩
def qSet:D->D->D->Mem->(Mem->Prop)->Prop:=λo i v M Q=>match o,i with
 | .ref n,.int k=>∃xs j,M[n]?=some (.lst xs)/\ixN xs.length k=some j/\Q (M.set n (.lst (xs.set j v)))
 | _,_=>False
theorem Reps.set{K:AA}{ρ:List Addr}{H:Hp}{d:D}{v:V}(r:Rep K ρ H d v):∀{ds:List D}{vs:List V} (i:Nat),Reps K ρ H ds vs->Reps K ρ H (ds.set i d) (vs.set i v)
 | _,_,_,.nil=>.nil
 | _,_,0,.cons _ t=>.cons r t
 | _,_,i+1,.cons q t=>.cons q (Reps.set r i t)
def sG(to ti:DTE):DTG:=λv S M Q=>to S M λo M1=>ti S M1 λi M2=>qSet o i v M2 λM3=>Q S M3
theorem yV(ho:DE X o to)(hi:DE X i ti)
  (ha:∀v,assign (.Subscript o i pos) X.env v=(do
   let ov <-holding [v] (eval o X.env)
   let iv <-holding [v,ov] (eval i X.env)
   standAt pos
   holding [v,ov,iv] (setItem ov iv v)
   release [v,ov,iv] []):=by intro _;rfl):DG X (.Subscript o i pos) (sG to ti):=by
 rintro pins s σ H v u R I r ⟨d,S,M,ρ,Q,sm,sr,rd,q,k⟩
 refine xi ho hi qT ha pins s σ H v u R I r ⟨S,M,ρ,_,sm,sr,q,?_⟩
 rintro vo H1 ⟨o',M1,ρ1,s1,g1,r1,q1⟩
 refine⟨S,M1,ρ1,_,s1,sr.grow g1,q1,?_⟩
 rintro vi H2 ⟨i',M2,ρ2,s2,g2,r2,q2⟩
 have r1':=r1.grow g2
 cases r1' with
 | @ref n a hn =>
  cases r2 with
  | int j =>
   obtain⟨xs,jj,e,hj,q3⟩:=(show ∃xs j',M2[n]?=some (.lst xs)/\ixN xs.length j=some j'/\Q S (M2.set n (.lst (xs.set j' d)))from q2)
   obtain⟨vs,hH,rr⟩:=s2.obj n a _ hn e
   obtain⟨w1,w2⟩:=s2.write hn e hH (Reps.set (rd.grow (g1.trans g2)) jj rr)
   exact⟨a,vs,j,jj,rfl,rfl,hH,by rw[<-rr.length];exact hj,k σ _ ⟨S,_,ρ2,w1,(g1.trans g2).trans w2,sr.grow ((g1.trans g2).trans w2),q3⟩⟩
  | _=>exact q2.elim
 | _=>exact q2.elim
def cR:DRA:=λds M Q=>match ds with
 | [.ref n]=>∃xs,ah M n xs/\Q (.tup xs) M
 | [.tup xs]=>Q (.tup xs) M
 | _=>False
theorem sK:gl X (.type "tuple") cR:=by
 refine cL.imp iF ?_
 rintro vs H R ⟨ds,M,ρ,Q,sm,rs,q,k⟩
 unfold cR at q
 split at q
 ·obtain⟨xs,hL,q⟩:=q
  first | have hzz:=Reps.inv_cons rs | have hzz:=aq.inv_cons rs
  clear rs
  obtain⟨_,_,rfl,r1,rs⟩:=hzz
  cases rs
  obtain⟨_,rfl,e⟩:=Rep.inv_ref r1
  obtain⟨ws,hq,r⟩:=ah.seq sm hL e
  exact⟨_,ws,rfl,.inl ⟨hq,λl hl=>k _ _ (VQ.laidT sm .refl r hl q)⟩⟩
 ·first | have hzz:=Reps.inv_cons rs | have hzz:=aq.inv_cons rs
  clear rs
  obtain⟨_,_,rfl,r1,rs⟩:=hzz
  cases rs
  cases r1 with
  | tup hq r=>exact⟨_,_,rfl,.inr ⟨hq,k _ H (VQ.now sm (.tup hq r) q)⟩⟩
 ·exact q.elim
theorem rA:OpR X (binaryOp .Add) (λx y H Q=>∃a b ys,x=.ref a/\y=.ref b/\SqT X.K H a []/\SqT X.K H b ys/\Q (.ref b) H):=by
 intro pins s σ H x y v u Q I rx ry h
 obtain⟨a,b,ys,rfl,rfl,ha,hb,q⟩:=h
 cases rx
 cases ry
 obtain⟨its,r1,p1,_⟩:=I.tuple ha
 obtain⟨its2,r2,p2,_⟩:=I.tuple hb
 have e:its=[]:=r1.nil_iff.mpr rfl
 subst e
 obtain⟨⟨cls,dd,data,sl⟩,ho,hc,n,hd⟩:=id p1
 obtain⟨⟨cls2,dd2,data2,sl2⟩,ho2,hc2,n2,hd2⟩:=id p2
 simp only at hc hd hc2 hd2
 subst hc hd hc2 hd2
 exact concat_meets ⟨_,ho,rfl⟩ ⟨_,ho2,rfl⟩ noFill_tuple_add seq_tuple_add ACL ACD (ACB _ _)
  (tuple_addW0 a b _ _ n n2 dd dd2 sl sl2 (by simp)) ⟨ho,ho2,⟨.ref b,H,I,rfl,q⟩⟩
def ar:DR2:=λx y M Q=>match x,y with
 | .tup xs,.tup ys=>xs.length+ys.length<=sizeLine/\Q (.tup (xs++ys)) M
 | _,_=>qAdd x y M Q
theorem uQ:OpD X (binaryOp .Add) ar:=by
 rintro pins s σ H vx vy v u R I rx ry ⟨x,y,M,ρ,Q,sm,r1,r2,q,k⟩
 unfold ar at q
 split at q
 ·rename_i xs ys
  obtain⟨a,vs,rfl,h1,t1⟩:=Rep.inv_tup r1
  obtain⟨b,ws,rfl,h2,t2⟩:=Rep.inv_tup r2
  have l1:=t1.length
  have l2:=t2.length
  cases xs with
  | nil =>
   cases t1
   exact rA pins s σ H _ _ v u R I rx ry ⟨a,b,ws,rfl,rfl,h1,h2,k _ H (VQ.now sm (.tup h2 t2) q.2)⟩
  | cons x0 xs0 =>
   refine uK pins s σ H _ _ v u R I rx ry ⟨a,b,vs,ws,rfl,rfl,h1,h2,?_,by rw[<-l1,<-l2];exact q.1,λz=>?_,λ_ p hp=>k _ _ (VQ.laidT sm .refl (t1.append t2) hp q.2)⟩
   ·intro z
    subst z
    simp at l1
   ·subst z
    have:ys=[]:=by simpa using l2
    subst this
    rw[AAw]at q
    exact k _ H (VQ.now sm (.tup h1 t1) q.2)
 ·exact xJ pins s σ H vx vy v u R I rx ry ⟨x,y,M,ρ,Q,sm,r1,r2,q,k⟩
def fq(n:Nat):DRA:=λds M Q=>match ds with
 | [.ref m]=>∃xs ys,M[n]?=some (.lst xs)/\M[m]?=some (.lst ys)/\n≠m/\xs.length+ys.length<=sizeLine/\Q .non (M.set n (.lst (xs++ys)))
 | _=>False
theorem mP:MtR X "list.extend" (rL X.K fq):=by
 rintro pins s σ H x xs v us R I rx rs ⟨n,a,ds,M,ρ,Q,ez,hn,sm,rr,q,k⟩
 unfold fq at q
 split at q
 ·rename_i m
  obtain⟨ys,zs,e,e2,hne,hl,q⟩:=q
  first | have hzz:=Reps.inv_cons rr | have hzz:=aq.inv_cons rr
  clear rr
  obtain⟨_,_,rfl,r1,rr⟩:=hzz
  cases rr
  obtain⟨b,rfl,hm⟩:=Rep.inv_ref r1
  obtain⟨vs,hH,r⟩:=sm.obj n a _ hn e
  obtain⟨ws,hH2,r2⟩:=sm.obj m b _ hm e2
  obtain⟨w1,w2⟩:=sm.write hn e hH (r.append r2)
  exact oP pins s σ H x _ v us R I rx rs ⟨a,b,vs,ws,ez,rfl,hH,hH2,by rw[<-r.length,<-r2.length];exact hl,k _ _ ⟨.non,_,ρ,w1,w2,.non,q⟩⟩
 ·exact q.elim
end L2
namespace Srt
open PySem PySem.W PyProof.Rows
noncomputable def run{α:Type}(c:Nat->Nat->Bool):KasT α->α
 | .ret a=>a
 | .ask i j k=>run c (k (c i j))
theorem cF{α β:Type}{c:Nat->Nat->Bool}{f:α->KasT β}:∀t:KasT α,run c (t.bind f)=run c (f (run c t))
 | .ret a=>rfl
 | .ask i j k=>cF (k (c i j))
def Bd{α:Type}(n:Nat):KasT α->Prop
 | .ret _=>True
 | .ask i j k=>i<n/\j<n/\∀b,Bd n (k b)
def All{α:Type}(P:α->Prop):KasT α->Prop
 | .ret a=>P a
 | .ask _ _ k=>∀b,All P (k b)
theorem All.mono{α:Type}{P Q:α->Prop}(h:∀a,P a->Q a):∀t:KasT α,All P t->All Q t
 | .ret a,q=>h a q
 | .ask _ _ k,q=>λb=>All.mono h (k b) (q b)
theorem All.bind{α β:Type}{P:β->Prop}{f:α->KasT β}:∀t:KasT α,All (λa=>All P (f a)) t->All P (t.bind f)
 | .ret a,q=>q
 | .ask _ _ k,q=>λb=>All.bind (k b) (q b)
theorem Bd.bindA{α β:Type}{n:Nat}{f:α->KasT β}:∀t:KasT α,Bd n t->All (λa=>Bd n (f a)) t->Bd n (t.bind f)
 | .ret a,_,q=>q
 | .ask _ _ k,b,q=>⟨b.1,b.2.1,λx=>Bd.bindA (k x) (b.2.2 x) (q x)⟩
theorem All.run{α:Type}{P:α->Prop}{c:Nat->Nat->Bool}:∀t:KasT α,All P t->P (Srt.run c t)
 | .ret a,q=>q
 | .ask i j k,q=>All.run (k (c i j)) (q _)
theorem wp_run{α:Type}{cmp:Nat->Nat->(Bool->Shared->Prop)->Shared->Prop}{c:Nat->Nat->Bool}{n:Nat}{s:Shared}{Q:α->Shared->Prop}(hc:∀i j (C:Bool->Shared->Prop),i<n->j<n->C (c i j) s->cmp i j C s) :
  ∀t:KasT α,Bd n t->Q (run c t) s->t.kasWp cmp Q s
 | .ret a,_,q=>q
 | .ask i j k,b,q=>hc i j _ b.1 b.2.1 (wp_run hc (k (c i j)) (b.2.2 _) q)
structure Ord(c:Nat->Nat->Bool):Prop where
 irr:∀a,c a a=false
 tr:∀a b d,c a b=true->c b d=true->c a d=true
 neg:∀a b d,c a d=true->c a b=true\/c b d=true
section
variable{c:Nat->Nat->Bool}(O:Ord c)
def le(c:Nat->Nat->Bool)(a b:Nat):Prop:=c b a=false
theorem le_refl(O:Ord c)(a:Nat):le c a a:=O.irr a
theorem le_trans(O:Ord c)(h1:le c a b)(h2:le c b d):le c a d:=by
 unfold le at *
 cases q:c d a with
 | false=>rfl
 | true =>
  rcases O.neg d b a q with h | h
  ·rw[h2]at h;cases h
  ·rw[h1]at h;cases h
theorem le_of_lt(O:Ord c)(h:c a b=true):le c a b:=by
 unfold le
 cases q:c b a with
 | false=>rfl
 | true=>have:=O.tr a b a h q;rw[O.irr]at this;cases this
noncomputable abbrev at_(p:Array Nat)(k:Nat):Nat:=p.getD k 0
def Up(c:Nat->Nat->Bool)(p:Array Nat)(m:Nat):Prop:=∀i j,i<=j->j<m->le c (at_ p i) (at_ p j)
def Dn(c:Nat->Nat->Bool)(p:Array Nat)(m:Nat):Prop:=∀i j,i<=j->j<m->le c (at_ p j) (at_ p i)
def Eqs(c:Nat->Nat->Bool)(p:Array Nat)(a b:Nat):Prop:=∀i j,a<=i->i<b->a<=j->j<b->le c (at_ p i) (at_ p j)
theorem Up.one(O:Ord c)(p:Array Nat):Up c p 1:=λi j hij hj=>by
 have:i=j:=by lia
 subst this;exact le_refl O _
theorem Up.snoc(O:Ord c)(h:Up c p n)(h1:1<=n)(hl:le c (at_ p (n-1)) (at_ p n)):Up c p (n+1):=λi j hij hj=>by
 by_cases hjn:j<n
 ·exact h i j hij hjn
 ·have:j=n:=by lia
  subst this
  by_cases hi:i=j
  ·subst hi;exact le_refl O _
  ·exact le_trans O (h i (j-1) (by lia) (by lia)) hl
theorem Dn.snoc(O:Ord c)(h:Dn c p n)(h1:1<=n)(hl:le c (at_ p n) (at_ p (n-1))):Dn c p (n+1):=λi j hij hj=>by
 by_cases hjn:j<n
 ·exact h i j hij hjn
 ·have:j=n:=by lia
  subst this
  by_cases hi:i=j
  ·subst hi;exact le_refl O _
  ·exact le_trans O hl (h i (j-1) (by lia) (by lia))
theorem cS(hj:j<=p.size)(k:Nat):at_ (AC1 p i j) k=if i<=k/\k<j then at_ p (i+j-1-k)else at_ p k:=by
 have e:=getElem?_mirror_all (xs:=p) (i:=i) hj k
 unfold at_ AC1
 rw[AAX,e]
 by_cases h:i<=k/\k<j
 ·rw[if_pos h,if_pos h,AAX]
 ·rw[if_neg h,if_neg h,AAX]
theorem kq(hk:k<p.size)(hd:d<=k)(i:Nat):at_ (bubble p k d) i=if i=k-d then at_ p k else if k-d<i/\i<=k then at_ p (i-1)else at_ p i:=by
 have e:=getElem?_bubble (xs:=p) hk d hd i
 unfold at_
 rw[AAX,e]
 by_cases h:i=k-d
 ·rw[if_pos h,if_pos h,AAX]
 ·rw[if_neg h,if_neg h]
  by_cases h':k-d<i/\i<=k
  ·rw[if_pos h',if_pos h',AAX]
  ·rw[if_neg h',if_neg h',AAX]
theorem Dn.rev(h:Dn c p n)(hn:n<=p.size):Up c (AC1 p 0 n) n:=λi j hij hj=>by
 rw[cS hn,cS hn,if_pos ⟨AAZ _,by lia⟩,if_pos ⟨AAZ _,hj⟩]
 exact h _ _ (by lia) (by lia)
theorem Dn.revEq(O:Ord c)(h:Dn c p n)(hn:n<=p.size)(he:Eqs c p a n):Dn c (AC1 p a n) n:=λi j hij hj=>by
 rw[cS hn,cS hn]
 by_cases h1:a<=i/\i<n
 ·by_cases h2:a<=j/\j<n
  ·rw[if_pos h1,if_pos h2]
   exact he _ _ (by lia) (by lia) (by lia) (by lia)
  ·exact absurd ⟨by lia,hj⟩ h2
 ·by_cases h2:a<=j/\j<n
  ·rw[if_neg h1,if_pos h2]
   exact h _ _ (by lia) (by lia)
  ·rw[if_neg h1,if_neg h2]
   exact h _ _ hij hj
theorem lg(O:Ord c):∀(f n:Nat),1<=n->Up c p n->Up c p (run c (ACQ p f n))/\n<=run c (ACQ p f n)/\run c (ACQ p f n)<=n+f /\
  (run c (ACQ p f n)<n+f->c (at_ p (run c (ACQ p f n))) (at_ p (run c (ACQ p f n)-1))=true)
 | 0,n,_,h=>⟨h,AA8 _,AA8 _,λz=>absurd z (AAh _)⟩
 | f+1,n,h1,h=>by
  show Up c p (run c (if c (at_ p n) (at_ p (n-1))=true then .ret n else ACQ p f (n+1)))/\n<=run c (if c (at_ p n) (at_ p (n-1))=true then .ret n else ACQ p f (n+1)) /\
   run c (if c (at_ p n) (at_ p (n-1))=true then .ret n else ACQ p f (n+1))<=n+(f+1)/\(run c (if c (at_ p n) (at_ p (n-1))=true then .ret n else ACQ p f (n+1))<n+(f+1) ->
    c (at_ p (run c (if c (at_ p n) (at_ p (n-1))=true then .ret n else ACQ p f (n+1)))) (at_ p (run c (if c (at_ p n) (at_ p (n-1))=true then .ret n else ACQ p f (n+1))-1))=true)
  by_cases q:c (at_ p n) (at_ p (n-1))=true
  ·rw[if_pos q]
   exact⟨h,AA8 _,Nat.le_add_right _ _,λ_=>q⟩
  ·rw[if_neg q]
   obtain⟨a1,a2,a3,a4⟩:=lg O f (n+1) (by lia) (h.snoc O h1 (by unfold le;simpa using q))
   exact⟨a1,by lia,by lia,λz=>a4 (by lia)⟩
theorem cj:(AC1 p i j).size=p.size:=mirror_size _ _ _ _
def qA(c:Nat->Nat->Bool)(z n m:Nat)(r:Array Nat×Nat×Nat):Prop:=r.1.size=z/\Dn c r.1 r.2.1/\n<=r.2.1/\r.2.1<=m/\r.2.2+1<=r.2.1/\Eqs c r.1 (r.2.1-(r.2.2+1)) r.2.1
def iK(c:Nat->Nat->Bool)(z nrem:Nat)(r:Nat×Array Nat):Prop:=r.2.size=z/\Up c r.2 r.1/\1<=r.1/\r.1<=nrem
def lq(c:Nat->Nat->Bool)(p:Array Nat)(k m:Nat):Prop:=m<=k/\(∀i,i<m->le c (at_ p i) (at_ p k))/\∀i,m<=i->i<k->c (at_ p k) (at_ p i)=true
theorem eN(O:Ord c):∀(f:Nat) (p:Array Nat) (n q:Nat),q+1<=n->n+f<=p.size->Dn c p n->Eqs c p (n-(q+1)) n ->
  qA c p.size n (n+f) (run c (ABJ f p n q))
 | 0,p,n,q,h1,h2,hd,he=>⟨rfl,hd,AA8 _,AA8 _,h1,he⟩
 | f+1,p,n,q,h1,h2,hd,he=>by
  have hn:n<=p.size:=by lia
  show qA c p.size n (n+(f+1)) (run c (if c (at_ p n) (at_ p (n-1))=true then(if q > 0 then ABJ f (AC1 p (n-(q+1)) n) (n+1) 0 else ABJ f p (n+1) 0)
   else .ask (at_ p (n-1)) (at_ p n) λd=>if d=true then .ret (p,n,q)else ABJ f p (n+1) (q+1)))
  by_cases hc:c (at_ p n) (at_ p (n-1))=true
  ·rw[if_pos hc]
   by_cases hq:q > 0
   ·rw[if_pos hq]
    have hd':Dn c (AC1 p (n-(q+1)) n) (n+1):=by
     refine(hd.revEq O hn he).snoc O (by lia) ?_
     rw[cS hn,cS hn,if_neg (by lia),if_pos ⟨by lia,by lia⟩]
     exact le_trans O (le_of_lt O hc) (he _ _ (by lia) (by lia) (by lia) (by lia))
    have r:=eN O f (AC1 p (n-(q+1)) n) (n+1) 0 (by lia) (by rw[cj];lia) hd' (λi j a1 a2 a3 a4=>by
     have:i=n:=by lia
     have:j=n:=by lia
     subst_vars
     exact le_refl O _)
    obtain⟨a1,a2,a3,a4,a5,a6⟩:=r
    exact⟨a1.trans cj,a2,by lia,by lia,a5,a6⟩
   ·rw[if_neg hq]
    have r:=eN O f p (n+1) 0 (by lia) (by lia) (hd.snoc O (by lia) (le_of_lt O hc)) (λi j a1 a2 a3 a4=>by
     have:i=n:=by lia
     have:j=n:=by lia
     subst_vars
     exact le_refl O _)
    obtain⟨a1,a2,a3,a4,a5,a6⟩:=r
    exact⟨a1,a2,by lia,by lia,a5,a6⟩
  ·rw[if_neg hc]
   show qA c p.size n (n+(f+1)) (run c (if c (at_ p (n-1)) (at_ p n)=true then .ret (p,n,q)else ABJ f p (n+1) (q+1)))
   by_cases hc':c (at_ p (n-1)) (at_ p n)=true
   ·rw[if_pos hc']
    exact⟨rfl,hd,AA8 _,by show n<=_;lia,h1,he⟩
   ·rw[if_neg hc']
    have l1:le c (at_ p n) (at_ p (n-1)):=by unfold le;simpa using hc'
    have l2:le c (at_ p (n-1)) (at_ p n):=by unfold le;simpa using hc
    have r:=eN O f p (n+1) (q+1) (by lia) (by lia) (hd.snoc O (by lia) l1) (λi j a1 a2 a3 a4=>by
     by_cases hi:i=n
     ·by_cases hj:j=n
      ·subst hi hj;exact le_refl O _
      ·subst hi
       exact le_trans O l1 (he _ _ (by lia) (by lia) (by lia) (by lia))
     ·by_cases hj:j=n
      ·subst hj
       exact le_trans O (he _ _ (by lia) (by lia) (by lia) (by lia)) l2
      ·exact he _ _ (by lia) (by lia) (by lia) (by lia))
    obtain⟨a1,a2,a3,a4,a5,a6⟩:=r
    exact⟨a1,a2,by lia,by lia,a5,a6⟩
theorem iV(O:Ord c)(h1:1<=n)(hn:n<=nrem)(hz:nrem<=p.size)(hd:Dn c p n) :
  iK c p.size nrem (run c (kas_tail3 n nrem p)):=by
 unfold kas_tail3
 rw[cF]
 obtain⟨a1,a2,a3,_⟩:=lg O (nrem-n) n h1 (hd.rev (by lia))
 exact⟨cj,a1,AAn h1 a2,AAn a3 (by lia)⟩
theorem et(O:Ord c)(h1:1<=n)(hn:n+1<=nrem)(hz:nrem<=p.size)(he:Eqs c p 0 n)(hc:c (at_ p n) (at_ p (n-1))=true) :
  iK c p.size nrem (run c (ACZ n nrem p)):=by
 have hd:Dn c p (n+1):=by
  refine Dn.snoc O (λi j hij hj=>he _ _ (by lia) (by lia) (by lia) (by lia)) h1 (le_of_lt O hc)
 unfold ACZ
 rw[cF]
 obtain⟨b1,b2,b3,b4,b5,b6⟩:=eN O (nrem-(n+1)) p (n+1) 0 (by lia) (by lia) hd (λi j a1 a2 a3 a4=>by
  have:i=n:=by lia
  have:j=n:=by lia
  subst_vars
  exact le_refl O _)
 by_cases hq:(run c (ABJ (nrem-(n+1)) p (n+1) 0)).2.2 > 0
 ·rw[if_pos hq]
  obtain⟨d1,d2,d3,d4⟩:=iV O (p:=AC1 (run c (ABJ (nrem-(n+1)) p (n+1) 0)).1 ((run c (ABJ (nrem-(n+1)) p (n+1) 0)).2.1-((run c (ABJ (nrem-(n+1)) p (n+1) 0)).2.2+1)) (run c (ABJ (nrem-(n+1)) p (n+1) 0)).2.1)
   (n:=(run c (ABJ (nrem-(n+1)) p (n+1) 0)).2.1) (nrem:=nrem) (by lia) (by lia) (by rw[cj,b1];exact hz) (b2.revEq O (by rw[b1];lia) b6)
  exact⟨d1.trans (cj.trans b1),d2,d3,d4⟩
 ·rw[if_neg hq]
  obtain⟨d1,d2,d3,d4⟩:=iV O (p:=(run c (ABJ (nrem-(n+1)) p (n+1) 0)).1) (n:=(run c (ABJ (nrem-(n+1)) p (n+1) 0)).2.1) (nrem:=nrem) (by lia) (by lia) (by rw[b1];exact hz) b2
  exact⟨d1.trans b1,d2,d3,d4⟩
theorem qh(O:Ord c)(h1:1<=nrem)(hz:nrem<=p.size) :
  iK c p.size nrem (run c (kas_count nrem p)):=by
 unfold kas_count
 rw[cF]
 obtain⟨a1,a2,a3,a4⟩:=lg O (nrem-1) 1 (AA8 _) (Up.one O p)
 generalize run c (ACQ p (nrem-1) 1)=n at a1 a2 a3 a4
 by_cases hn:(n==nrem)=true
 ·rw[if_pos hn]
  exact⟨rfl,a1,a2,by show n<=nrem;lia⟩
 ·rw[if_neg hn]
  have hn':n≠nrem:=by simpa using hn
  have hlt:c (at_ p n) (at_ p (n-1))=true:=a4 (by lia)
  by_cases h2:n > 1
  ·rw[if_pos h2]
   show iK c p.size nrem (run c (if c (at_ p 0) (at_ p (n-1))=true then .ret (n,p)else ACZ n nrem (AC1 p 0 n)))
   by_cases hc:c (at_ p 0) (at_ p (n-1))=true
   ·rw[if_pos hc]
    exact⟨rfl,a1,a2,by show n<=nrem;lia⟩
   ·rw[if_neg hc]
    have hz':n<=p.size:=by lia
    have l0:le c (at_ p (n-1)) (at_ p 0):=by unfold le;simpa using hc
    have he:Eqs c p 0 n:=λi j b1 b2 b3 b4=>le_trans O (a1 i (n-1) (by lia) (by lia)) (le_trans O l0 (a1 0 j (by lia) b4))
    have he':Eqs c (AC1 p 0 n) 0 n:=λi j b1 b2 b3 b4=>by
     rw[cS hz',cS hz',if_pos ⟨b1,b2⟩,if_pos ⟨b3,b4⟩]
     exact he _ _ (by lia) (by lia) (by lia) (by lia)
    have hc':c (at_ (AC1 p 0 n) n) (at_ (AC1 p 0 n) (n-1))=true:=by
     rw[cS hz',cS hz',if_neg (by lia),if_pos ⟨by lia,by lia⟩]
     rcases O.neg _ (at_ p (0+n-1-(n-1))) _ hlt with z | z
     ·exact z
     ·have:=he (n-1) (0+n-1-(n-1)) (by lia) (by lia) (by lia) (by lia)
      unfold le at this
      rw[this]at z;cases z
    obtain⟨d1,d2,d3,d4⟩:=et O (p:=AC1 p 0 n) (n:=n) (nrem:=nrem) (by lia) (by lia) (by rw[cj];exact hz) he' hc'
    exact⟨d1.trans cj,d2,d3,d4⟩
  ·rw[if_neg h2]
   have:n=1:=by lia
   subst this
   exact et O (by lia) (by lia) hz (λi j b1 b2 b3 b4=>by
    have:i=0:=by lia
    have:j=0:=by lia
    subst_vars
    exact le_refl O _) hlt
theorem fu(O:Ord c)(hu:Up c p k):∀(f l r:Nat),l<=r->r<=k->r-l<=f->(∀i,i<l->le c (at_ p i) (at_ p k))->(∀i,r<=i->i<k->c (at_ p k) (at_ p i)=true) ->
  lq c p k (run c (AC3 p k f l r))
 | 0,l,r,h1,h2,h3,h4,h5=>⟨by show l<=k;lia,h4,λi a1 a2=>h5 i (by have a1':l<=i:=a1;lia) a2⟩
 | f+1,l,r,h1,h2,h3,h4,h5=>by
  show lq c p k (run c (if l ≥ r then .ret l else .ask (at_ p k) (at_ p ((l+r) / 2)) λc=>if c=true then AC3 p k f l ((l+r) / 2)else AC3 p k f ((l+r) / 2+1) r))
  by_cases hl:l ≥ r
  ·rw[if_pos hl]
   exact⟨by show l<=k;lia,h4,λi a1 a2=>h5 i (by have a1':l<=i:=a1;lia) a2⟩
  ·rw[if_neg hl]
   show lq c p k (run c (if c (at_ p k) (at_ p ((l+r) / 2))=true then AC3 p k f l ((l+r) / 2)else AC3 p k f ((l+r) / 2+1) r))
   by_cases hc:c (at_ p k) (at_ p ((l+r) / 2))=true
   ·rw[if_pos hc]
    refine fu O hu f l ((l+r) / 2) (by lia) (by lia) (by lia) h4 λi a1 a2=>?_
    rcases O.neg _ (at_ p i) _ hc with z | z
    ·exact z
    ·have:=hu ((l+r) / 2) i a1 a2
     unfold le at this
     rw[this]at z;cases z
   ·rw[if_neg hc]
    have lm:le c (at_ p ((l+r) / 2)) (at_ p k):=by unfold le;simpa using hc
    refine fu O hu f ((l+r) / 2+1) r (by lia) h2 (by lia) (λi hi=>?_) h5
    exact le_trans O (hu i ((l+r) / 2) (by lia) (by lia)) lm
theorem qq(O:Ord c)(hk:k<p.size)(hu:Up c p k)(hm:m<=k)(h1:∀i,i<m->le c (at_ p i) (at_ p k))(h2:∀i,m<=i->i<k->c (at_ p k) (at_ p i)=true):Up c (bubble p k (k-m)) (k+1):=by
 intro i j hij hj
 have e:k-(k-m)=m:=by lia
 rw[kq hk (by lia),kq hk (by lia),e]
 by_cases hi:i=m
 ·rw[if_pos hi]
  by_cases hjm:j=m
  ·rw[if_pos hjm];exact le_refl O _
  ·rw[if_neg hjm,if_pos ⟨by lia,by lia⟩]
   exact le_of_lt O (h2 _ (by lia) (by lia))
 ·rw[if_neg hi]
  by_cases hi2:m<i/\i<=k
  ·rw[if_pos hi2,if_neg (by lia),if_pos ⟨by lia,by lia⟩]
   exact hu _ _ (by lia) (by lia)
  ·rw[if_neg hi2]
   by_cases hjm:j=m
   ·rw[if_pos hjm];exact h1 i (by lia)
   ·rw[if_neg hjm]
    by_cases hj2:m<j/\j<=k
    ·rw[if_pos hj2]
     exact hu _ _ (by lia) (by lia)
    ·rw[if_neg hj2]
     exact hu _ _ hij (by lia)
theorem qt(O:Ord c):∀(f:Nat) (p:Array Nat) (k:Nat),k+f<=p.size->Up c p k->(run c (kas_bin f p k)).size=p.size/\Up c (run c (kas_bin f p k)) (k+f)
 | 0,p,k,_,h=>⟨rfl,h⟩
 | f+1,p,k,hz,h=>by
  show (run c ((AC3 p k k 0 k).bind λl=>kas_bin f (bubble p k (k-l)) (k+1))).size=p.size/\Up c (run c ((AC3 p k k 0 k).bind λl=>kas_bin f (bubble p k (k-l)) (k+1))) (k+(f+1))
  rw[cF]
  obtain⟨a1,a2,a3⟩:=fu O h k 0 k (AAZ _) (AA8 _) (by lia) (λi hi=>absurd hi (ACE _)) λi a1 a2=>absurd a2 (by lia)
  obtain⟨b1,b2⟩:=qt O f (bubble p k (k-run c (AC3 p k k 0 k))) (k+1) (by rw[bubble_size];lia) (qq O (by lia) h a1 a2 a3)
  exact⟨b1.trans (bubble_size _ _ _),by rw[show k+(f+1)=k+1+f by lia];exact b2⟩
theorem uf(O:Ord c)(h1:1<=n):(run c (ACy n)).size=n/\Up c (run c (ACy n)) n:=by
 have hs:(ACz (AAb n)).size=n:=by simp
 unfold ACy
 rw[cF]
 obtain⟨a1,a2,a3,a4⟩:=qh O (p:=ACz (AAb n)) h1 (by rw[hs];exact AA8 _)
 rw[hs]at a1
 generalize run c (kas_count n (ACz (AAb n)))=r at a1 a2 a3 a4
 by_cases hl:r.1<n
 ·rw[if_pos hl]
  obtain⟨b1,b2⟩:=qt O (n-max r.1 1) r.2 (max r.1 1) (by rw[a1];lia) (by rw[show max r.1 1=r.1 by lia];exact a2)
  exact⟨b1.trans a1,by rw[show n=max r.1 1+(n-max r.1 1) by lia];simpa using b2⟩
 ·rw[if_neg hl]
  have e1:r.1=n:=by lia
  rw[e1]at a2
  exact⟨a1,a2⟩
def Ent(n:Nat)(p:Array Nat):Prop:=p.toList.Perm (AAb n)
theorem Ent.lt(h:Ent n p)(h0:0<n)(k:Nat):at_ p k<n:=by
 unfold at_
 rw[AAX]
 cases e:p[k]? with
 | none=>simpa using h0
 | some x =>
  have:x∈p.toList:=by
   rw[<-Array.getElem?_toList]at e
   exact ABd e
  have:=h.mem_iff.mp this
  simpa using this
theorem Ent.rev(h:Ent n p):Ent n (AC1 p i j):=(Array.perm_iff_toList_perm.mp (mirror_perm p i j ((j-i) / 2))).trans h
theorem Ent.bub(h:Ent n p):Ent n (bubble p i j):=(Array.perm_iff_toList_perm.mp (bubble_perm p i j)).trans h
section
variable{n:Nat}(h0:0<n)
theorem qx(h0:0<n)(h:Ent n p):∀(f k:Nat),Bd n (ACQ p f k)
 | 0,_=>trivial
 | f+1,k=>⟨h.lt h0 _,h.lt h0 _,λb=>by cases b with
  | true=>exact trivial
  | false=>exact qx h0 h f (k+1)⟩
theorem iC(h0:0<n):∀(f:Nat) (p:Array Nat) (k q:Nat),Ent n p->Bd n (ABJ f p k q)/\All (λr=>Ent n r.1) (ABJ f p k q)
 | 0,p,k,q,h=>⟨trivial,h⟩
 | f+1,p,k,q,h=>by
  have key:∀b,(Bd n (if b=true then(if q > 0 then ABJ f (AC1 p (k-(q+1)) k) (k+1) 0 else ABJ f p (k+1) 0)
    else KasT.ask (p.getD (k-1) 0) (p.getD k 0) λd=>if d=true then KasT.ret (p,k,q)else ABJ f p (k+1) (q+1)))/\All (λr=>Ent n r.1) (if b=true then(if q > 0 then ABJ f (AC1 p (k-(q+1)) k) (k+1) 0 else ABJ f p (k+1) 0)
    else KasT.ask (p.getD (k-1) 0) (p.getD k 0) λd=>if d=true then KasT.ret (p,k,q)else ABJ f p (k+1) (q+1)):=λb=>by
   cases b with
   | true =>
    rw[if_pos rfl]
    by_cases hq:q > 0
    ·rw[if_pos hq];exact iC h0 f _ _ _ h.rev
    ·rw[if_neg hq];exact iC h0 f _ _ _ h
   | false =>
    rw[if_neg (by simp)]
    have a:=iC h0 f p (k+1) (q+1) h
    refine⟨⟨h.lt h0 _,h.lt h0 _,λb=>?_⟩,λb=>?_⟩
    ·cases b with
     | true=>exact trivial
     | false=>exact a.1
    ·cases b with
     | true=>exact h
     | false=>exact a.2
  exact⟨⟨h.lt h0 _,h.lt h0 _,λb=>(key b).1⟩,λb=>(key b).2⟩
theorem eI(h0:0<n)(h:Ent n p):Bd n (kas_tail3 k m p)/\All (λr=>Ent n r.2) (kas_tail3 k m p):=by
 have triv:∀{t:KasT Nat}{Q:Prop},Q->All (λ_=>Q) t:=λ{t Q} q=>by
  induction t with
  | ret a=>exact q
  | ask i j k ih=>exact λb=>ih b
 unfold kas_tail3
 exact⟨Bd.bindA _ (qx h0 h.rev _ _) (triv trivial),All.bind _ (triv h.rev)⟩
theorem cr(h0:0<n)(h:Ent n p):Bd n (ACZ k m p)/\All (λr=>Ent n r.2) (ACZ k m p):=by
 unfold ACZ
 obtain⟨b1,b2⟩:=iC h0 (m-(k+1)) p (k+1) 0 h
 refine⟨Bd.bindA _ b1 (b2.mono (λr hr=>?_)),All.bind _ (b2.mono (λr hr=>?_))⟩
 ·by_cases hq:r.2.2 > 0
  ·rw[if_pos hq];exact(eI h0 hr.rev).1
  ·rw[if_neg hq];exact(eI h0 hr).1
 ·by_cases hq:r.2.2 > 0
  ·rw[if_pos hq];exact(eI h0 hr.rev).2
  ·rw[if_neg hq];exact(eI h0 hr).2
theorem sJ(h0:0<n)(h:Ent n p):Bd n (kas_count m p)/\All (λr=>Ent n r.2) (kas_count m p):=by
 have triv:∀{t:KasT Nat}{Q:Nat->Prop},(∀a,Q a)->All Q t:=λ{t Q} q=>by
  induction t with
  | ret a=>exact q a
  | ask i j k ih=>exact λb=>ih b
 unfold kas_count
 refine⟨Bd.bindA _ (qx h0 h _ _) (triv λk=>?_),All.bind _ (triv λk=>?_)⟩
 ·by_cases h1:(k==m)=true
  ·rw[if_pos h1];exact trivial
  ·rw[if_neg h1]
   by_cases h2:k > 1
   ·rw[if_pos h2]
    refine⟨h.lt h0 _,h.lt h0 _,λb=>?_⟩
    cases b with
    | true=>exact trivial
    | false=>exact(cr h0 h.rev).1
   ·rw[if_neg h2];exact(cr h0 h).1
 ·by_cases h1:(k==m)=true
  ·rw[if_pos h1];exact h
  ·rw[if_neg h1]
   by_cases h2:k > 1
   ·rw[if_pos h2]
    intro b
    cases b with
    | true=>exact h
    | false=>exact(cr h0 h.rev).2
   ·rw[if_neg h2];exact(cr h0 h).2
theorem ic(h0:0<n)(h:Ent n p):∀(f l r:Nat),Bd n (AC3 p k f l r)
 | 0,_,_=>trivial
 | f+1,l,r=>by
  show Bd n (if l ≥ r then KasT.ret l else KasT.ask (p.getD k 0) (p.getD ((l+r) / 2) 0) λc=>if c=true then AC3 p k f l ((l+r) / 2)else AC3 p k f ((l+r) / 2+1) r)
  by_cases hl:l ≥ r
  ·rw[if_pos hl];exact trivial
  ·rw[if_neg hl]
   refine⟨h.lt h0 _,h.lt h0 _,λb=>?_⟩
   cases b with
   | true=>exact ic h0 h f _ _
   | false=>exact ic h0 h f _ _
theorem mq(h0:0<n):∀(f:Nat) (p:Array Nat) (k:Nat),Ent n p->Bd n (kas_bin f p k)/\All (λr=>Ent n r) (kas_bin f p k)
 | 0,p,k,h=>⟨trivial,h⟩
 | f+1,p,k,h=>by
  have triv:∀{t:KasT Nat}{Q:Nat->Prop},(∀a,Q a)->All Q t:=λ{t Q} q=>by
   induction t with
   | ret a=>exact q a
   | ask i j k ih=>exact λb=>ih b
  exact⟨Bd.bindA _ (ic h0 h _ _ _) (triv λl=>(mq h0 f _ _ h.bub).1),All.bind _ (triv λl=>(mq h0 f _ _ h.bub).2)⟩
theorem sort_bd(h0:0<n):Bd n (ACy n)/\All (λr=>Ent n r) (ACy n):=by
 have h:Ent n (ACz (AAb n)):=by unfold Ent;simp
 obtain⟨b1,b2⟩:=sJ h0 (m:=n) h
 unfold ACy
 refine⟨Bd.bindA _ b1 (b2.mono λr hr=>?_),All.bind _ (b2.mono λr hr=>?_)⟩
 ·by_cases hl:r.1<n
  ·rw[if_pos hl];exact(mq h0 _ _ _ hr).1
  ·rw[if_neg hl];exact trivial
 ·by_cases hl:r.1<n
  ·rw[if_pos hl];exact(mq h0 _ _ _ hr).2
  ·rw[if_neg hl];exact hr
end
theorem sort_list{α:Type}[Inhabited α]{lt:α->α->Bool}(xs:List α)(h1:1<=xs.length)(irr:∀a∈xs,lt a a=false)(tr:∀a∈xs,∀b∈xs,∀d∈xs,lt a b=true->lt b d=true->lt a d=true)
  (neg:∀a∈xs,∀b∈xs,∀d∈xs,lt a d=true->lt a b=true\/lt b d=true) :
  let c:=λi j=>if i<xs.length then(if j<xs.length then lt (xs.getD i default) (xs.getD j default)else true)else false
  let p:=run c (ACy xs.length)
  let ys:=p.toList.map λi=>xs.getD i default
  ys.Perm xs/\ys.Pairwise λa b=>lt b a=false:=by
 intro c p ys
 have mem:∀i,i<xs.length->xs.getD i default∈xs:=λi hi=>by
  rw[AAE,AA1 hi]
  exact AB4 hi
 have O:Ord c:=by
  refine⟨λa=>?_,λa b d=>?_,λa b d=>?_⟩
  ·show (if a<xs.length then(if a<xs.length then lt _ _ else true)else false)=false
   by_cases ha:a<xs.length
   ·rw[if_pos ha,if_pos ha];exact irr _ (mem a ha)
   ·rw[if_neg ha]
  ·show (if a<xs.length then(if b<xs.length then lt _ _ else true)else false)=true->(if b<xs.length then(if d<xs.length then lt _ _ else true)else false)=true->(if a<xs.length then(if d<xs.length then lt _ _ else true)else false)=true
   by_cases ha:a<xs.length
   ·by_cases hb:b<xs.length
    ·by_cases hd:d<xs.length
     ·rw[if_pos ha,if_pos hb,if_pos hb,if_pos hd,if_pos ha,if_pos hd];exact tr _ (mem a ha) _ (mem b hb) _ (mem d hd)
     ·intro _ _;rw[if_pos ha,if_neg hd]
    ·rw[if_neg (show ¬b<xs.length from hb)]
     intro _ z
     rw[if_neg hb]at z;cases z
   ·intro z;rw[if_neg ha]at z;cases z
  ·show (if a<xs.length then(if d<xs.length then lt _ _ else true)else false)=true->(if a<xs.length then(if b<xs.length then lt _ _ else true)else false)=true\/(if b<xs.length then(if d<xs.length then lt _ _ else true)else false)=true
   by_cases ha:a<xs.length
   ·by_cases hb:b<xs.length
    ·by_cases hd:d<xs.length
     ·rw[if_pos ha,if_pos hd,if_pos ha,if_pos hb,if_pos hb,if_pos hd];exact neg _ (mem a ha) _ (mem b hb) _ (mem d hd)
     ·intro _;right;rw[if_pos hb,if_neg hd]
    ·intro _;left;rw[if_pos ha,if_neg hb]
   ·intro z;rw[if_neg ha]at z;cases z
 have hE:Ent xs.length p:=All.run _ (sort_bd (by lia)).2
 obtain⟨hs,hU⟩:=uf O h1
 refine⟨?_,?_⟩
 ·have e:(AAb xs.length).map (λi=>xs.getD i default)=xs:=by
   apply List.ext_getElem?
   intro i
   rw[AAP]
   by_cases hi:i<xs.length
   ·rw[ACl hi]
    simp[AAE,AA1 hi]
   ·rw[ABV (by simpa using hi),ABV (by simpa using hi)]
    rfl
  have:=hE.map λi=>xs.getD i default
  rw[e]at this
  exact this
 ·show (p.toList.map λi=>xs.getD i default).Pairwise λa b=>lt b a=false
  rw[List.pairwise_iff_getElem]
  intro i j hi hj hij
  rw[AA6,AC9]at hi hj
  have hs':p.size=xs.length:=hs
  have l:=hU i j (by lia) (by lia)
  have hl:∀k,at_ p k<xs.length:=λk=>hE.lt (by lia) k
  unfold le at l
  have l':(if at_ p j<xs.length then(if at_ p i<xs.length then lt (xs.getD (at_ p j) default) (xs.getD (at_ p i) default)else true)else false)=false:=l
  rw[if_pos (hl j),if_pos (hl i)]at l'
  have ai:p.toList[i]=at_ p i:=by unfold at_;simp[Array.getD,hi]
  have aj:p.toList[j]=at_ p j:=by unfold at_;simp[Array.getD,hj]
  rw[ACc,ACc,ai,aj]
  exact l'
end
end Srt
namespace L2
open PySem PySem.Spec PyProof.Rows DL
def nj(A:Around)(s:Shared)(x y:Value)(k:Bool):Prop:=∀(prog:Program) (w:World) (E:Value->Shared->Prop) (Q:Value->Shared->Prop),Q (.bool k) s->wpAny (model prog w) A (richCompare .Lt x y) Q E s
inductive LexAt(A:Around)(s:Shared):List Value->List Value->Bool->Prop
 | nn:LexAt A s [] [] false
 | nc {y:Value}{ys:List Value}:LexAt A s [] (y::ys) true
 | cn {x:Value}{xs:List Value}:LexAt A s (x::xs) [] false
 | eq {x y:Value}{xs ys:List Value}{k:Bool} (h:ACP A s x y true) (t:LexAt A s xs ys k):LexAt A s (x::xs) (y::ys) k
 | ne {x y:Value}{xs ys:List Value}{k:Bool} (h:ACP A s x y false) (t:nj A s x y k):LexAt A s (x::xs) (y::ys) k
section
open PySem.SeqAt
open PySem.AutoSeq1 (wpAny_loadPart')
open PySem.MeetsSeq PySem.MeetsSeq2 PySem.MeetsSeq3
theorem iT(l b:Addr)(items items2:Array Value)(n n2:Nat)(dd dd2:Option Addr)(sl sl2:Array (Option Value))(k:Bool) :
  Meets (Builtin.«tuple.__lt__» ⟨[.ref l,.ref b],[]⟩)
   (λA R s=>s.heap.get? l=some (⟨.type "tuple",dd,.seq items n,sl⟩:Obj)/\s.heap.get? b=some { cls:=.type "tuple",dict:=dd2,data:=.seq items2 n2,slots:=sl2 } /\
    LexAt A.in1 s items.toList items2.toList k/\R (.ok (.ret (.bool k))) s) :=
 .of_wp λprog w A R s h=>by
  obtain⟨hp,g,d,tk,os⟩:=s;obtain⟨hl,hb,hx,h⟩:=h
  have f2:=AutoSeq1.sub_tuple_tuple
  wp_walk using ABt hl,ABt hb,wpAny_forIn_list _ (λaz b s'=>b.1=none/\s'=⟨hp,g,d,tk,os⟩/\∃(vs ws:List Value),az=vs.zip ws /\
   LexAt A.in1 ⟨hp,g,d,tk,os⟩ vs ws k/\vs.length+items2.size=ws.length+items.size) _
  case turn =>
   rintro⟨y,x⟩ az b s' ⟨hb',rfl,vs,ws,hz,hlex,hlen⟩
   cases hlex with
   | nn=>cases hz
   | nc=>cases hz
   | cn=>cases hz
   | eq he t =>
    rw[ABK]at hz
    injection hz with hyx hrest
    injection hyx with hy hx
    subst hy hx
    refine AA0 (he prog w _ _ ?_)
    wp_walk
    exact⟨rfl,rfl,_,_,hrest,t,by simp only[AAW]at hlen;lia⟩
   | ne he t =>
    rw[ABK]at hz
    injection hz with hyx hrest
    injection hyx with hy hx
    subst hy hx
    refine AA0 (he prog w _ _ ?_)
    have hri:=t prog w
    wp_walk using hri
    exact⟨_,rfl,by simpa using h⟩
  case fin =>
   rintro⟨b1,b2⟩ s' ⟨hb',rfl,vs,ws,hz,hlex,hlen⟩
   simp only at hb'
   subst hb'
   have hv:k=decide (items.size<items2.size):=by
    cases hlex with
    | nn=>simp only[AAk]at hlen;exact(dF_ (by lia)).symm
    | nc=>simp only[AAk,AAW]at hlen;exact(dT_ (by lia)).symm
    | cn=>simp only[AAk,AAW]at hlen;exact(dF_ (by lia)).symm
    | eq _ _=>rw[ABK]at hz;cases hz
    | ne _ _=>rw[ABK]at hz;cases hz
   rw[hv]at h
   wp_walk
   exact⟨_,rfl,by simpa [Builtin.Tuple.tupleCompareSizes]using h⟩
  case h =>
   exact⟨rfl,rfl,items.toList,items2.toList,rfl,hx,by simp;lia⟩
end
theorem nj.tuples(hl:s.heap.IsTuple l items)(hb:s.heap.IsTuple b items2)(hu:A.units<cLine)(hx:LexAt A.in1 s items.toList items2.toList k):nj A s (.ref l) (.ref b) k:=λprog w E Q h=>by
 obtain⟨⟨cls,dd,data,sl⟩,ho,hc,n,hd⟩:=id hl
 obtain⟨⟨cls2,dd2,data2,sl2⟩,ho2,hc2,n2,hd2⟩:=id hb
 simp only at hc hd hc2 hd2
 subst hc hd hc2 hd2
 exact richCompare_meets_room (op:=.Lt) ⟨_,ho,rfl⟩ ⟨_,ho2,rfl⟩ PySem.F.slot_tuple_lt PySem.F.entry_tuple_lt (PySem.F.args_tuple_lt_2 _ _) (iT l b items items2 n n2 dd dd2 sl sl2 k)
  ⟨ho,ho2,hx,show Value.bool k≠Value.notImplemented/\Q (.bool k) s from⟨(λx=>nomatch x),h⟩⟩ hu
noncomputable def kt(f g:D->D->Bool):List D->List D->Bool
 | [],[]=>false
 | [],_::_=>true
 | _::_,[]=>false
 | x::xs,y::ys=>if f x y=true then kt f g xs ys else g x y
noncomputable def ltD(M:Mem):Nat->D->D->Bool
 | _,.int a,.int b=>decide (a<b)
 | _,.str a,.str b=>bf a b
 | n+1,.tup xs,.tup ys=>kt (eqD M n) (ltD M n) xs ys
 | _,_,_=>false
noncomputable def nb(f g:D->D->Bool):List D->List D->Bool
 | x::xs,y::ys=>if f x y=true then nb f g xs ys else g x y
 | _,_=>true
noncomputable def dE(M:Mem):Nat->D->D->Bool
 | _,.int _,.int _=>true
 | _,.str _,.str _=>true
 | n+1,.tup xs,.tup ys=>nb (eqD M n) (dE M n) xs ys
 | _,_,_=>false
theorem nj.ints(A:Around)(s:Shared)(a:Int)(t:Tok)(c:Int)(u:Tok):nj A s (.int a t) (.int c u) (decide (a<c)):=λprog w E Q h=>HT.rcLt_int A s a t c u prog w E Q h
theorem nj.texts(A:Around)(s:Shared)(a:Str)(t:Tok)(c:Str)(u:Tok):nj A s (.str a t) (.str c u) (bf a c):=λprog w E Q h =>
 (PySem.P.lt_str (show Q (.bool (decide (a.cps.toList<c.cps.toList))) s from h):wpAny (model prog w) A (compareOp .Lt (.str a t) (.str c u)) Q E s)
theorem tu(I:Inv X pins σ H s)(sm:Sim X.K ρ M H):∀(n:Nat) (A:Around) (x y:D) (vx vy:V) (u v:Value),A.units+n<cLine->Rep X.K ρ H x vx->aH vx u->Rep X.K ρ H y vy->aH vy v->okD M n x=true->okD M n y=true->dE M n x y=true ->
  nj A s u v (ltD M n x y):=by
 intro n
 induction n with
 | zero =>
  intro A x y vx vy u v hu r1 e1 r2 e2 o1 o2 cm
  cases r1 with
  | int a =>
   cases r2 with
   | int b=>obtain⟨t,rfl⟩:=e1;obtain⟨t',rfl⟩:=e2;exact nj.ints A s a t b t'
   | _=>simp[dE]at cm
  | str a =>
   cases r2 with
   | str b=>obtain⟨t,rfl⟩:=e1;obtain⟨t',rfl⟩:=e2;exact nj.texts A s a t b t'
   | _=>simp[dE]at cm
  | _=>simp[dE]at cm
 | succ n ih =>
  intro A x y vx vy u v hu r1 e1 r2 e2 o1 o2 cm
  have hu0:A.units<cLine:=by lia
  have hu1:A.in1.units+n<cLine:=by show A.units+1+n<cLine;lia
  have lex:∀(ds es:List D) (vs ws:List V) (its jts:List Value),Reps X.K ρ H ds vs->aq vs its->Reps X.K ρ H es ws->aq ws jts->ds.all (okD M n)=true->es.all (okD M n)=true->nb (eqD M n) (dE M n) ds es=true ->
    LexAt A.in1 s its jts (kt (eqD M n) (ltD M n) ds es):=by
   intro ds
   induction ds with
   | nil =>
    intro es vs ws its jts p1 q1 p2 q2 _ _ _
    cases p1;cases q1
    cases p2 with
    | nil=>cases q2;exact .nn
    | cons _ _=>cases q2;exact .nc
   | cons d ds hi =>
    intro es vs ws its jts p1 q1 p2 q2 k1 k2 k3
    cases p1 with
    | cons a1 p1 =>
     cases q1 with
     | cons b1 q1 =>
      cases p2 with
      | nil=>cases q2;exact .cn
      | @cons e _ es' _ a2 p2 =>
       cases q2 with
       | cons b2 q2 =>
        rw[ABM,AAG]at k1 k2
        have he:=(jW I sm n A.in1 d _ _ _ _ _ hu1 a1 b1 a2 b2 k1.1 k2.1).1
        rw[kt]
        rw[nb]at k3
        by_cases hq:eqD M n d e=true
        ·rw[hq]at he
         rw[if_pos hq]at k3 ⊢
         exact .eq he (hi _ _ _ _ _ p1 q1 p2 q2 k1.2 k2.2 k3)
        ·have hq':=ABz.mpr hq
         rw[hq']at he
         rw[if_neg hq]at k3 ⊢
         exact .ne he (ih A.in1 _ _ _ _ _ _ hu1 a1 b1 a2 b2 k1.1 k2.1 k3)
  cases r1 with
  | int a =>
   cases r2 with
   | int b=>obtain⟨t,rfl⟩:=e1;obtain⟨t',rfl⟩:=e2;exact nj.ints A s a t b t'
   | _=>simp[dE]at cm
  | str a =>
   cases r2 with
   | str b=>obtain⟨t,rfl⟩:=e1;obtain⟨t',rfl⟩:=e2;exact nj.texts A s a t b t'
   | _=>simp[dE]at cm
  | tup hq r =>
   cases r2 with
   | tup hq' r' =>
    cases e1;cases e2
    obtain⟨its,rr,pl,_⟩:=I.tuple hq
    obtain⟨jts,rr',pl',_⟩:=I.tuple hq'
    refine nj.tuples pl pl' hu0 ?_
    exact lex _ _ _ _ _ _ r rr r' rr' (by simpa [okD]using o1) (by simpa [okD]using o2) cm
   | _=>simp[dE]at cm
  | _=>simp[dE]at cm
noncomputable def okP:Nat->D->Bool
 | _,.int _=>true
 | _,.str _=>true
 | n+1,.tup xs=>xs.all (okP n)
 | _,_=>false
noncomputable def wA(f:D->List Int):List D->List Int
 | []=>[0]
 | x::xs=>1::(f x++wA f xs)
noncomputable def enc:Nat->D->List Int
 | _,.int i=>[0,i]
 | _,.str x=>1::(x.cps.toList.map (λ(c:Nat)=>(c:Int)+1)++[0])
 | n+1,.tup xs=>2::wA (enc n) xs
 | _,_=>[3]
def bh(x y:List Int):Prop:=∀a b,x++a<y++b
theorem bh.cons(i:Int)(h:bh x y):bh (i::x) (i::y):=λa b=>AAe.mpr (.inr ⟨rfl,h a b⟩)
theorem bh.head(x y:List Int)(h:i<j):bh (i::x) (j::y):=λa b=>AAe.mpr (.inl h)
theorem bh.lt(h:bh x y):x<y:=by have:=h [] [];simpa using this
theorem bh.pre(z:List Int)(h:bh x y):bh (z++x) (z++y):=by
 induction z with
 | nil=>exact h
 | cons i z ih=>exact ih.cons i
theorem bh.more(u v:List Int)(h:bh x y):bh (x++u) (y++v):=λa b=>by
 rw[AAT,AAT]
 exact h _ _
def Tri(x y:D)(n:Nat)(l:Bool)(r:Bool):Prop:=(x=y/\l=false/\r=false)\/(x≠y/\l=true/\r=false/\bh (enc n x) (enc n y))\/(x≠y/\l=false/\r=true/\bh (enc n y) (enc n x))
theorem ke:∀(x y:List Nat),(x=y)\/(x<y/\¬y<x/\bh (x.map (λ(c:Nat)=>(c:Int)+1)++[0]) (y.map (λ(c:Nat)=>(c:Int)+1)++[0]))\/(¬x<y/\y<x/\bh (y.map (λ(c:Nat)=>(c:Int)+1)++[0]) (x.map (λ(c:Nat)=>(c:Int)+1)++[0]))
 | [],[]=>.inl rfl
 | [],c::y=>.inr (.inl ⟨List.nil_lt_cons _ _,List.not_lt_nil _,bh.head _ _ (by dsimp only;lia)⟩)
 | c::x,[]=>.inr (.inr ⟨List.not_lt_nil _,List.nil_lt_cons _ _,bh.head _ _ (by dsimp only;lia)⟩)
 | c::x,e::y=>by
  rcases Nat.lt_trichotomy c e with h | h | h
  ·refine .inr (.inl ⟨AAe.mpr (.inl h),λz=>?_,bh.head _ _ (by dsimp only;lia)⟩)
   rcases AAe.mp z with z | ⟨z,_⟩<;>lia
  ·subst h
   rcases ke x y with q | ⟨q1,q2,q3⟩|⟨q1,q2,q3⟩
   ·exact .inl (by rw[q])
   ·refine .inr (.inl ⟨AAe.mpr (.inr ⟨rfl,q1⟩),λz=>?_,q3.cons _⟩)
    rcases AAe.mp z with z | ⟨_,z⟩
    ·lia
    ·exact q2 z
   ·refine .inr (.inr ⟨λz=>?_,AAe.mpr (.inr ⟨rfl,q2⟩),q3.cons _⟩)
    rcases AAe.mp z with z | ⟨_,z⟩
    ·lia
    ·exact q1 z
  ·refine .inr (.inr ⟨λz=>?_,AAe.mpr (.inl h),bh.head _ _ (by dsimp only;lia)⟩)
   rcases AAe.mp z with z | ⟨z,_⟩<;>lia
theorem yF(M:Mem):∀(n:Nat) (x y:D),okP n x=true->okP n y=true->(eqD M n x y=true↔x=y):=by
 have all:∀(n:Nat),(∀(x y:D),okP n x=true->okP n y=true->(eqD M n x y=true↔x=y))->∀(xs ys:List D),xs.all (okP n)=true->ys.all (okP n)=true->(eqL (eqD M n) xs ys=true↔xs=ys):=by
  intro n ih xs
  induction xs with
  | nil=>intro ys _ _;cases ys<;>simp[eqL]
  | cons x xs hi =>
   intro ys h1 h2
   cases ys with
   | nil=>simp[eqL]
   | cons y ys =>
    rw[ABM,AAG]at h1 h2
    rw[eqL,AAG,ih x y h1.1 h2.1,hi ys h1.2 h2.2,List.cons.injEq]
 intro n
 induction n with
 | zero =>
  intro x y h1 h2
  cases x<;>simp[okP]at h1<;>cases y<;>simp[okP]at h2<;>simp[eqD]
 | succ n ih =>
  intro x y h1 h2
  cases x with
  | int a=>cases y<;>simp[okP]at h2<;>simp[eqD]
  | str a=>cases y<;>simp[okP]at h2<;>simp[eqD]
  | tup xs =>
   cases y with
   | tup ys =>
    simp only[eqD,D.tup.injEq]
    exact all n ih xs ys (by simpa [okP]using h1) (by simpa [okP]using h2)
   | int a=>simp[eqD]
   | str a=>simp[eqD]
   | _=>simp[okP]at h2
  | _=>simp[okP]at h1
theorem xE(M:Mem):∀(n:Nat) (x:D),okP n x=true->okD M n x=true:=by
 intro n
 induction n with
 | zero=>intro x h;cases x<;>simp[okP]at h<;>rfl
 | succ n ih =>
  intro x h
  cases x with
  | int a=>rfl
  | str a=>rfl
  | tup xs =>
   simp only[okD]
   rw[AAc]
   intro y hy
   exact ih y (AAc.mp (show xs.all (okP n)=true from h) y hy)
  | _=>simp[okP]at h
theorem tri_D(M:Mem):∀(n:Nat) (x y:D),okP n x=true->okP n y=true->dE M n x y=true->Tri x y n (ltD M n x y) (ltD M n y x):=by
 have base:∀(n:Nat) (a b:Int),Tri (.int a) (.int b) n (decide (a<b)) (decide (b<a)):=λn a b=>by
  have e:∀a,enc n (.int a)=[0,a]:=λa=>by cases n<;>rfl
  rcases Int.lt_trichotomy a b with h | h | h
  ·exact .inr (.inl ⟨by simp;lia,dT_ h,dF_ (by lia),by rw[e,e];exact(bh.head [] [] h).cons 0⟩)
  ·subst h;exact .inl ⟨rfl,dF_ (by lia),dF_ (by lia)⟩
  ·exact .inr (.inr ⟨by simp;lia,dF_ (by lia),dT_ h,by rw[e,e];exact(bh.head [] [] h).cons 0⟩)
 have bases:∀(n:Nat) (a b:Str),Tri (.str a) (.str b) n (bf a b) (bf b a):=λn a b=>by
  have e:∀a:Str,enc n (.str a)=1::(a.cps.toList.map (λ(c:Nat)=>(c:Int)+1)++[0]):=λa=>by cases n<;>rfl
  unfold bf
  rcases ke a.cps.toList b.cps.toList with h | ⟨h1,h2,h3⟩|⟨h1,h2,h3⟩
  ·have:a=b:=cT h
   subst this
   exact .inl ⟨rfl,dF_ (ACU _),dF_ (ACU _)⟩
  ·exact .inr (.inl ⟨λz=>by cases z;exact h2 h1,dT_ h1,dF_ h2,by rw[e,e];exact h3.cons 1⟩)
  ·exact .inr (.inr ⟨λz=>by cases z;exact h1 h2,dF_ h1,dT_ h2,by rw[e,e];exact h3.cons 1⟩)
 intro n
 induction n with
 | zero =>
  intro x y h1 h2 h3
  cases x<;>simp[okP]at h1<;>cases y<;>simp[okP]at h2<;>first | exact base 0 _ _ | exact bases 0 _ _ | simp[dE]at h3
 | succ n ih =>
  intro x y h1 h2 h3
  have lists:∀(xs ys:List D),xs.all (okP n)=true->ys.all (okP n)=true->nb (eqD M n) (dE M n) xs ys=true ->
    (xs=ys/\kt (eqD M n) (ltD M n) xs ys=false/\kt (eqD M n) (ltD M n) ys xs=false) \/
    (xs≠ys/\kt (eqD M n) (ltD M n) xs ys=true/\kt (eqD M n) (ltD M n) ys xs=false/\bh (wA (enc n) xs) (wA (enc n) ys)) \/
    (xs≠ys/\kt (eqD M n) (ltD M n) xs ys=false/\kt (eqD M n) (ltD M n) ys xs=true/\bh (wA (enc n) ys) (wA (enc n) xs)):=by
   intro xs
   induction xs with
   | nil =>
    intro ys _ _ _
    cases ys with
    | nil=>exact .inl ⟨rfl,rfl,rfl⟩
    | cons y ys=>exact .inr (.inl ⟨by simp,rfl,rfl,bh.head _ _ (by decide)⟩)
   | cons x xs hi =>
    intro ys h1 h2 h3
    cases ys with
    | nil=>exact .inr (.inr ⟨by simp,rfl,rfl,bh.head _ _ (by decide)⟩)
    | cons y ys =>
     rw[ABM,AAG]at h1 h2
     rw[nb]at h3
     have qe:=yF M n x y h1.1 h2.1
     have qe':=yF M n y x h2.1 h1.1
     rw[kt,kt]
     by_cases hq:x=y
     ·subst hq
      rw[if_pos (qe.mpr rfl)]at h3
      rw[if_pos (qe.mpr rfl),if_pos (qe.mpr rfl)]
      rcases hi ys h1.2 h2.2 h3 with⟨a1,a2,a3⟩|⟨a1,a2,a3,a4⟩|⟨a1,a2,a3,a4⟩
      ·exact .inl ⟨by rw[a1],a2,a3⟩
      ·exact .inr (.inl ⟨λz=>a1 (AD5 z).2,a2,a3,(a4.pre (enc n x)).cons 1⟩)
      ·exact .inr (.inr ⟨λz=>a1 (AD5 z).2,a2,a3,(a4.pre (enc n x)).cons 1⟩)
     ·have n1:¬eqD M n x y=true:=λz=>hq (qe.mp z)
      have n2:¬eqD M n y x=true:=λz=>hq (qe'.mp z).symm
      rw[if_neg n1]at h3
      rw[if_neg n1,if_neg n2]
      rcases ih x y h1.1 h2.1 h3 with⟨a1,_⟩|⟨a1,a2,a3,a4⟩|⟨a1,a2,a3,a4⟩
      ·exact absurd a1 hq
      ·exact .inr (.inl ⟨λz=>hq (AD5 z).1,a2,a3,(a4.more _ _).cons 1⟩)
      ·exact .inr (.inr ⟨λz=>hq (AD5 z).1,a2,a3,(a4.more _ _).cons 1⟩)
  cases x with
  | int a=>cases y<;>simp[okP]at h2<;>first | exact base (n+1) _ _ | simp[dE]at h3
  | str a=>cases y<;>simp[okP]at h2<;>first | exact bases (n+1) _ _ | simp[dE]at h3
  | tup xs =>
   cases y with
   | tup ys =>
    rcases lists xs ys (by simpa [okP]using h1) (by simpa [okP]using h2) h3 with⟨a1,a2,a3⟩|⟨a1,a2,a3,a4⟩|⟨a1,a2,a3,a4⟩
    ·exact .inl ⟨by rw[a1],a2,a3⟩
    ·exact .inr (.inl ⟨λz=>a1 (D.tup.inj z),a2,a3,a4.cons 2⟩)
    ·exact .inr (.inr ⟨λz=>a1 (D.tup.inj z),a2,a3,a4.cons 2⟩)
   | _=>simp[dE]at h3
  | _=>simp[okP]at h1
theorem uT(h1:okP n x=true)(h2:okP n y=true)(h3:dE M n x y=true):ltD M n x y=decide (enc n x<enc n y):=by
 rcases tri_D M n x y h1 h2 h3 with⟨a1,a2,a3⟩|⟨a1,a2,a3,a4⟩|⟨a1,a2,a3,a4⟩
 ·subst a1;rw[a2,dF_ (ACU _)]
 ·rw[a2,dT_ a4.lt]
 ·rw[a2,dF_ (λz=>ACU _ (List.lt_trans z a4.lt))]
end L2
namespace L2
open PySem PySem.Spec PyProof.Rows DL PySem.W
theorem Inv.laidF(I:Inv X pins σ H s)(k:∀b u,b≠X.env.locals->s.heap.get? b=some u->h'.get? b=some u)(hn:s.heap.Ns X.env.locals m)(hn':h'.Ns X.env.locals m)
  (hp:s.heap.get? a=none) (fa:H a=none) (new:br X.prog X.w (upd H a o) h' a o):Inv X pins σ (upd H a o) { s with heap:=h',toks:=t' }:=by
 have nea:∀b u,s.heap.get? b=some u->b≠a:=λb u e z=>by subst z;rw[hp]at e;cases e
 refine I.step (g':=s.gens) (d':=s.drawn) (ch:=[]) (λ_ z=>nomatch z) (λb u hL _ _ e _=>k b u hL e) (λb u hL _ _ e _=>⟨u.slots,k b u hL e⟩) (λb u _ e n=>by rw[ag (nea b u e)];exact n) (λb u _ e=>?_)
  (λb xs q=>by rw[ag (ac q fa)];exact q) (λb u xs q=>by rw[ag (ac q fa)];exact q) (λb ps q=>⟨#[],by rw[ag (ac q fa),q];simp⟩) (λm' hm=>?_) (λb w q=>?_) I.bare
 ·by_cases hb:b=X.env.locals
  ·subst hb
   obtain⟨o',_,_,ho,_⟩:=hn'
   exact⟨o',ho⟩
  ·exact⟨u,k b u hb e⟩
 ·have:m=m':=funext λx=>hn.agree hm x
  subst this
  exact hn'
 ·by_cases hb:b=a
  ·subst hb
   rw[aL]at q
   cases q
   exact new
  ·rw[ag hb]at q
   refine(I.hok b w q).stay (λc v hc r=>k c v ?_ r) (λc z=>by rw[ag (ac z fa)];exact z) λc xs z=>by rw[ag (ac z fa)];exact z
   rcases hc with rfl | hc
   ·exact ac q I.free
   ·exact ac hc I.free
theorem Inv.keptF(I:Inv X pins σ H s)(k:∀b u,b≠X.env.locals->s.heap.get? b=some u->h'.get? b=some u)(hn:s.heap.Ns X.env.locals m)(hn':h'.Ns X.env.locals m):Inv X pins σ H { s with heap:=h',toks:=t' }:=by
 refine I.step (g':=s.gens) (d':=s.drawn) (ch:=[]) (λ_ z=>nomatch z) (λb u hL _ _ e _=>k b u hL e) (λb u hL _ _ e _=>⟨u.slots,k b u hL e⟩) (λb u _ e n=>n) (λb u _ e=>?_)
  (λb xs q=>q) (λb u xs q=>q) (λb ps q=>⟨#[],by rw[q];simp⟩) (λm' hm=>?_) (λb w q=>?_) I.bare
 ·by_cases hb:b=X.env.locals
  ·subst hb
   obtain⟨o',_,_,ho,_⟩:=hn'
   exact⟨o',ho⟩
  ·exact⟨u,k b u hb e⟩
 ·have:m=m':=funext λx=>hn.agree hm x
  subst this
  exact hn'
 ·refine(I.hok b w q).stay (λc v hc r=>k c v ?_ r) (λc z=>z) λc xs z=>z
  rcases hc with rfl | hc
  ·exact ac q I.free
  ·exact ac hc I.free
theorem jy{prog:Program}{w:World}{A:Around}{E:Value->Shared->Prop}{s:Shared}{l:Addr}{vs:List Value}{Q:Value->Shared->Prop}(hl:s.heap.IsList l vs.toArray)(h2:vs.length<2)
  (h:∀D h' n,s.heap.objs.size<=D->(∀b o,s.heap.get? b=some o->h'.get? b=some o)->h'.get? D=some { cls:=.type "list",data:=.seq vs.toArray n }->Q (.ref D) { s with heap:=h' }) :
  wpAny (model prog w) A (call (.builtin "sorted") ([ABC l])) Q E s:=by
 have few:vs.length<=sizeLine:=by rw[ABr];lia
 refine Calls.call_function_entry kind_sorted plain_sorted entry_sorted (args_sorted1 (.ref l)) ?_
 unfold Builtin.«sorted»
 refine AA0 (m:=checkCount "sorted" 1 1 _) (AAD (AA0 (collect_list hl (AA0 (wpAny_newList ?_ few)) few)))
 generalize hg:((s.heap.push (seqObj "list" #[] 0)).update s.heap.objs.size (ABi (· ++ vs.toArray)))=g1
 have hsz:g1.objs.size=s.heap.objs.size+1:=by rw[<-hg,Heap.size_update,size_push']
 have k1:∀b o,s.heap.get? b=some o->g1.get? b=some o:=λb o q=>by
  have hlt:=AAB q
  rw[<-hg,ABm _ _ _ _ (AAK hlt),Heap.get?_push_ne _ _ _ (AAK hlt)]
  exact q
 show wpAny _ _ _ _ _ { s with heap:=g1.push (seqObj "list" vs.toArray 0) }
 have hoL:(g1.push (seqObj "list" vs.toArray 0)).get? g1.objs.size=some (seqObj "list" vs.toArray 0):=AAH _ rfl
 refine AA0 (ABE (ABB slot_list_sort (⟨_,hoL,rfl⟩) entry_list_sort ?body (args_list_sort (.ref _))))
 case body =>
  rw[list_sort_plain]
  refine AA0 (listItems_at hoL rfl ?_)
  refine AA0 (listUpdate_at hoL rfl ?_ (by rw[AA7,ABr];lia) (AAZ _))
  obtain⟨e1,ho1⟩:∃e1,((g1.push (seqObj "list" vs.toArray 0)).update g1.objs.size (ABi λ_=>(#[]:Array Value))).get? g1.objs.size=some (seqObj "list" #[] e1):=⟨_,ACm hoL λ_=>#[]⟩
  refine AA0 (seqEpoch_at ho1 rfl (AA0 (wpAny_newTuple (AA0 (wpAny_newList (ABE ?_) (AAZ _))) few)))
  dsimp only
  have hv2:vs.toArray.size<2:=by rw[AA7];exact h2
  rw[if_pos hv2,if_pos hv2]
  refine AA0 (AAD ?_)
  rw[StateT.run_pure]
  refine AA0 (AAD ?_)
  dsimp only
  generalize hg3:(((g1.push (seqObj "list" vs.toArray 0)).update g1.objs.size (ABi λ_=>(#[]:Array Value))).push (seqObj "tuple" vs.toArray 0)).push (seqObj "list" #[] 0)=g3
  have ho3:g3.get? g1.objs.size=some (seqObj "list" #[] e1):=by rw[<-hg3];exact AA3 _ (AA3 _ ho1)
  have k3:∀b o,b≠g1.objs.size->s.heap.get? b=some o->g3.get? b=some o:=λb o hb q=>by
   have q1:=k1 b o q
   rw[<-hg3]
   refine AA3 _ (AA3 _ ?_)
   rw[ABm _ _ _ _ hb]
   exact AA3 _ q1
  refine AA0 (seqEpoch_at ho3 rfl ?_)
  have eo:∀us:List Value,us.length<2->(us.toArray.zip us.toArray).map (·.2)=us.toArray:=λus hu=>by
   match us,hu with
   | [],_=>simp
   | [v],_=>simp
   | _::_::_,hu=>simp at hu;lia
  have eout:(arrOf (SortSt.mk' general' (vs.toArray.zip vs.toArray) #[] 7 none)).map (·.2)=vs.toArray:=eo vs h2
  rw[eout]
  refine AA0 (listUpdate_at ho3 rfl ?_ (AAZ _) (by rw[AA7,ABr];lia))
  simp only[show failedOf (SortSt.mk' general' (vs.toArray.zip vs.toArray) #[] 7 none)=none from rfl,bne_self_eq_false,AAU,if_false]
  refine AAD ⟨_,rfl,AAD ⟨_,rfl,?_⟩⟩
  obtain⟨c2,hc2⟩:∃c2,(g3.update g1.objs.size (ABi λ_=>vs.toArray)).get? g1.objs.size=some (seqObj "list" vs.toArray c2):=⟨_,ACm ho3 λ_=>vs.toArray⟩
  refine h g1.objs.size _ c2 (by lia) (λb o q=>?_) hc2
  have hb:b≠g1.objs.size:=AAK (by rw[hsz];exact ABP (AAB q))
  rw[ABm _ _ _ _ hb]
  exact k3 b o hb q
structure SrtOk(M:Mem)(xs:List D):Prop where
 len:xs.length<64
 ok:∀x∈xs,okP eqN x=true
 cm:∀x∈xs,∀y∈xs,dE M eqN x y=true
 kd:(∀x∈xs,∃z,x=.str z)\/(∀x∈xs,∃i,x=.int i)\/(∀x∈xs,∃z r,x=.tup (.str z::r))\/(∀x∈xs,∃i r,x=.tup (.int i::r))\/(∀x∈xs,∃z r,x=.tup (.tup z::r))
structure SrtG(M:Mem)(xs:List D):Prop where
 len:xs.length<64
 okd:∀x∈xs,okD M eqN x=true
 cm:∀x∈xs,∀y∈xs,dE M eqN x y=true
 kd:(∀x∈xs,∃z,x=.str z)\/(∀x∈xs,∃i,x=.int i)\/(∀x∈xs,∃z r,x=.tup (.str z::r))\/(∀x∈xs,∃i r,x=.tup (.int i::r))\/(∀x∈xs,∃z r,x=.tup (.tup z::r))
 od:∃en:D->List Int,∀a∈xs,∀b∈xs,ltD M eqN a b=decide (en a<en b)
theorem SrtOk.g(so:SrtOk M xs):SrtG M xs :=
 ⟨so.len,λx hx=>xE M _ _ (so.ok x hx),so.cm,so.kd,enc eqN,λa ha b hb=>uT (so.ok a ha) (so.ok b hb) (so.cm a ha b hb)⟩
def nv(M:Mem)(ys:List D):Prop:=ys.Pairwise λa b=>ltD M eqN b a=false
def ou:DRA:=λds M Q=>match ds with
 | [.ref n]=>∃xs,ah M n xs/\SrtG M xs/\∀ys,ys.Perm xs->nv M ys->Q (.ref M.length) (M++[.lst ys])
 | _=>False
theorem Reps.perm{K:AA}{ρ:List Addr}{H:Hp}{ds:List D}{vs:List V}(r:Reps K ρ H ds vs)(is:List Nat)(hi:∀i∈is,i<ds.length):Reps K ρ H (is.map λi=>ds.getD i .non) (is.map λi=>vs.getD i .non):=by
 induction is with
 | nil=>exact .nil
 | cons i is ih =>
  have h:=hi i AAI
  obtain⟨v,e,rv⟩:=r.get (AA1 h)
  refine .cons ?_ (ih λj hj=>hi j (AAA _ hj))
  show Rep K ρ H (ds.getD i .non) (vs.getD i .non)
  rw[AAE,AAE,e,AA1 h]
  exact rv
theorem aq.perm(r:aq vs us)(is:List Nat)(hi:∀i∈is,i<vs.length):aq (is.map λi=>vs.getD i .non) (is.map λi=>us.getD i .none):=by
 induction is with
 | nil=>exact .nil
 | cons i is ih =>
  have h:=hi i AAI
  obtain⟨v,e,rv⟩:=eF r (AA1 h)
  refine .cons ?_ (ih λj hj=>hi j (AAA _ hj))
  show aH (vs.getD i .non) (us.getD i .none)
  rw[AAE,AAE,e,AA1 h]
  exact rv
instance:Inhabited D:=⟨.non⟩
theorem uR(o:HO)(x:br P w H h a o):∃u,h.get? a=some u:=by
 cases o with
 | lst _=>obtain⟨_,_,_,_,e⟩:=x;exact⟨_,e⟩
 | tup _=>obtain⟨_,_,_,o,e,_⟩:=x;exact⟨o,e⟩
 | dK _=>obtain⟨_,_,_,_,_,_,_,e,_⟩:=x;exact⟨_,e⟩
 | dT _=>obtain⟨_,_,_,_,o,_,_,e,_⟩:=x;exact⟨o,e⟩
 | set _ _=>obtain⟨o,_,_,_,e,_⟩:=x;exact⟨_,e⟩
 | ins _ _ _=>obtain⟨_,_,_,e,_⟩:=x;exact⟨_,e⟩
 | own _=>exact x
 | xd _=>obtain⟨_,⟨_,_,_,e,_⟩,_⟩:=x;exact⟨_,e⟩
 | rng _ _=>obtain⟨_,_,_,e⟩:=x;exact⟨_,e⟩
 | frz _ _=>obtain⟨e,_⟩:=x;exact⟨_,e⟩
 | tbl _=>exact⟨_,x⟩
 | met _ _=>exact⟨_,x⟩
 | ext _=>obtain⟨_,e,_⟩:=x;exact e
theorem HOk.none(x:HOk P w H h)(e:h.get? a=none):H a=none:=by
 cases q:H a with
 | none=>rfl
 | some o =>
  exfalso
  obtain⟨u,hu⟩:=uR o (x a o q)
  rw[e]at hu;cases hu
theorem uW(I:Inv X pins σ H s)(sm:Sim X.K ρ M H)(n:Nat)(A:Around)(hu:A.units+n<cLine):∀(ds es:List D) (vs ws:List V) (its jts:List Value),Reps X.K ρ H ds vs->aq vs its->Reps X.K ρ H es ws->aq ws jts->ds.all (okD M n)=true->es.all (okD M n)=true ->
  nb (eqD M n) (dE M n) ds es=true->LexAt A s its jts (kt (eqD M n) (ltD M n) ds es):=by
 intro ds
 induction ds with
 | nil =>
  intro es vs ws its jts p1 q1 p2 q2 _ _ _
  cases p1;cases q1
  cases p2 with
  | nil=>cases q2;exact .nn
  | cons _ _=>cases q2;exact .nc
 | cons d ds hi =>
  intro es vs ws its jts p1 q1 p2 q2 k1 k2 k3
  cases p1 with
  | cons a1 p1 =>
   cases q1 with
   | cons b1 q1 =>
    cases p2 with
    | nil=>cases q2;exact .cn
    | @cons e _ es' _ a2 p2 =>
     cases q2 with
     | cons b2 q2 =>
      rw[ABM,AAG]at k1 k2
      have he:=(jW I sm n A d _ _ _ _ _ hu a1 b1 a2 b2 k1.1 k2.1).1
      rw[kt]
      rw[nb]at k3
      by_cases hq:eqD M n d e=true
      ·rw[hq]at he
       rw[if_pos hq]at k3 ⊢
       exact .eq he (hi _ _ _ _ _ p1 q1 p2 q2 k1.2 k2.2 k3)
      ·have hq':=ABz.mpr hq
       rw[hq']at he
       rw[if_neg hq]at k3 ⊢
       exact .ne he (tu I sm n A _ _ _ _ _ _ hu a1 b1 a2 b2 k1.1 k2.1 k3)
theorem rZ(h:LexAt A s its jts k):∀(i:Nat),(b&&i==0)=false->(b&&i+1==0)=false->Q k s->KatLex prog w A b (decide (its.length<jts.length)) Q (its.zip jts) i s:=by
 have un:∀i:Nat,(b&&i+1==0)=false:=λi=>by cases b<;>simp
 induction h with
 | nn=>intro i _ _ q;exact q
 | nc=>intro i _ _ q;exact(show Q (decide (0<_+1)) s by rw[dT_ (Nat.succ_pos _)];exact q)
 | cn=>intro i _ _ q;exact(show Q (decide (_+1<0)) s by rw[dF_ (ACE _)];exact q)
 | @eq x y xs ys k he t ih =>
  intro i hb _ q
  refine kat_cons (he prog w _ _ (kat_yes ?_))
  have:=ih (i+1) (un i) (un (i+1)) q
  rw[show decide ((x::xs).length<(y::ys).length)=decide (xs.length<ys.length) by simp]
  exact this
 | @ne x y xs ys k he t =>
  intro i hb _ q
  refine kat_cons (he prog w _ _ (kat_no ?_))
  rw[hb]
  exact kat_one _ _ (t prog w _ _ q)
theorem pA(he:ACP A s p q e)(hl:e=false->∀Q':Bool->Shared->Prop,Q' l s->wpAny (model prog w) A (oneLt' (b&&0==0) p q) Q' (λ_ _=>False) s)(ht:e=true->LexAt A s its jts k)(h:Q (if e=true then k else l) s) :
  KatLex prog w A b (decide ((p::its).length<(q::jts).length)) Q ((p::its).zip (q::jts)) 0 s:=by
 refine kat_cons (he prog w _ _ ?_)
 cases e with
 | true =>
  refine kat_yes ?_
  rw[show decide ((p::its).length<(q::jts).length)=decide (its.length<jts.length) by simp]
  exact rZ (ht rfl) 1 (by cases b<;>rfl) (by cases b<;>rfl) h
 | false=>exact kat_no (hl rfl _ h)
section
variable{X:Cx}{pins:List (Addr×Obj)}{σ:St}{H:Hp}{s:Shared}{ρ:List Addr}{M:Mem}
theorem jN{M:Model}{h:Heap}{x:Str}{t:Tok}:Looks M h (typeOf (.str x t)) (.type "str"):=Looks.of_pure rfl
theorem jO{M:Model}{h:Heap}{x:Int}{t:Tok}:Looks M h (typeOf (.int x t)) (.type "int"):=Looks.of_pure rfl
theorem Reps.getD'(r:Reps X.K ρ H ds vs)(rr:aq vs its)(h:i<ds.length):∃v,Rep X.K ρ H (ds.getD i default) v/\aH v (its.getD i .none)/\ds.getD i default∈ds:=by
 obtain⟨v,e,rv⟩:=r.get (AA1 h)
 obtain⟨u,e',ru⟩:=eF rr e
 refine⟨v,?_,?_,?_⟩
 ·rw[AAE,AA1 h];exact rv
 ·rw[AAE,e'];exact ru
 ·rw[AAE,AA1 h];exact AB4 h
theorem Reps.mem(r:Reps X.K ρ H ds vs)(rr:aq vs its)(h:u∈its):∃d v,d∈ds/\Rep X.K ρ H d v/\aH v u:=by
 induction ds generalizing vs its with
 | nil=>cases r;cases rr;cases h
 | cons d0 ds ih =>
  cases r with
  | cons r1 r =>
   cases rr with
   | cons q1 q =>
    rcases(AA9 (a:=u)).mp h with rfl | h
    ·exact⟨_,_,AAI,r1,q1⟩
    ·obtain⟨d,v,h1,h2,h3⟩:=ih r q h
     exact⟨d,v,AAA _ h1,h2,h3⟩
theorem kT(I:Inv X pins σ H s)(r:Reps X.K ρ H xs ws)(rr:aq ws its)(hx:∀x∈xs,∃f r,x=.tup (f::r)) :
  ∃fs,KatTups s.heap its fs/\fs.length=its.length/\∀u∈fs,∃d v,Rep X.K ρ H d v/\aH v u/\∃r,D.tup (d::r)∈xs:=by
 induction xs generalizing ws its with
 | nil=>cases r;cases rr;exact⟨[],.nil,rfl,λ_ z=>nomatch z⟩
 | cons d ds ih =>
  cases r with
  | cons r1 r =>
   cases rr with
   | cons q1 q =>
    obtain⟨fs,h1,h2,h3⟩:=ih r q λx hx'=>hx x (AAA _ hx')
    obtain⟨f,az,rfl⟩:=hx d AAI
    cases r1 with
    | tup hq rs =>
     cases q1
     obtain⟨its,rv,pl,hz⟩:=I.tuple hq
     cases rs with
     | cons a1 rs =>
      cases rv with
      | cons b1 rv =>
       obtain⟨o,ho,hc,n,hd⟩:=pl
       refine⟨_::fs,.cons ho hc hd rfl h1,by simp[h2],λu hu=>?_⟩
       rcases AA9.mp hu with rfl | hu
       ·exact⟨_,_,a1,b1,_,AAI⟩
       ·obtain⟨d,v,e1,e2,r',e3⟩:=h3 u hu
        exact⟨d,v,e1,e2,r',AAA _ e3⟩
noncomputable def ltc(M:Mem)(xs:List D)(i j:Nat):Bool:=ltD M eqN (xs.getD i default) (xs.getD j default)
theorem jz(I:Inv X pins σ H s)(sm:Sim X.K ρ M H){xs:List D}{ws:List V}{its:List Value}(so:SrtG M xs)(r:Reps X.K ρ H xs ws)(rr:aq ws its)(h2:2<=its.length){A:Around}(hu:A.units+eqN<cLine) :
  wpAny (model X.prog X.w) A (keyKind' its.toArray) (λκ s'=>s'=s/\∀i j (C:Bool->Shared->Prop),i<its.length->j<its.length->C (ltc M xs i j) s->kas_ask X.prog X.w A κ its i j C s) (λ_ _=>False) s:=by
 have lw:=r.length
 have li:=rr.length
 have le:xs.length=its.length:=by lia
 have tups:∀(b:Bool),(∀x∈xs,∃f r,x=.tup (f::r))->(∀(f g:D) (vf vg:V) (p q:Value) (r r':List D),D.tup (f::r)∈xs->D.tup (g::r')∈xs->Rep X.K ρ H f vf->aH vf p->Rep X.K ρ H g vg->aH vg q ->
   (eqD M 29 f g=false->∀Q':Bool->Shared->Prop,Q' (ltD M 29 f g) s->wpAny (model X.prog X.w) A (oneLt' (b&&0==0) p q) Q' (λ_ _=>False) s)) ->
   ∀i j (C:Bool->Shared->Prop),i<its.length->j<its.length->C (ltc M xs i j) s->kas_ask X.prog X.w A (tuples' b) its i j C s:=by
  intro b hx hone i j C hi hj hc
  unfold kas_ask
  obtain⟨v1,r1,e1,m1⟩:=r.getD' rr (show i<xs.length by lia)
  obtain⟨v2,r2,e2,m2⟩:=r.getD' rr (show j<xs.length by lia)
  unfold ltc at hc
  have k1:=so.okd _ m1
  have k2:=so.okd _ m2
  have k3:=so.cm _ m1 _ m2
  generalize xs.getD i default=x at *
  generalize xs.getD j default=y at *
  obtain⟨f,rf,rfl⟩:=hx _ m1
  obtain⟨g,rg,rfl⟩:=hx _ m2
  cases r1 with
  | tup hq rs =>
   cases r2 with
   | tup hq' rs' =>
    generalize its.getD i .none=u1 at *
    generalize its.getD j .none=u2 at *
    cases e1;cases e2
    obtain⟨as,ra,pa,_⟩:=I.tuple hq
    obtain⟨bs,rb,pb,_⟩:=I.tuple hq'
    obtain⟨o,ho,_,n,hd⟩:=pa
    obtain⟨o',ho',_,n',hd'⟩:=pb
    refine kat_lt ho hd ho' hd' ?_
    cases rs with
    | cons a1 rs =>
     cases ra with
     | @cons _ p _ la b1 ra =>
      cases rs' with
      | cons a2 rs' =>
       cases rb with
       | @cons _ q _ lb b2 rb =>
        have hu':A.units+29<cLine:=by have:eqN=30:=rfl;lia
        have z1:okD M 29 f=true/\rf.all (okD M 29)=true:=by
         have:(f::rf).all (okD M 29)=true:=k1
         rwa [ABM,AAG]at this
        have z2:okD M 29 g=true/\rg.all (okD M 29)=true:=by
         have:(g::rg).all (okD M 29)=true:=k2
         rwa [ABM,AAG]at this
        have z3:(if eqD M 29 f g=true then nb (eqD M 29) (dE M 29) rf rg else dE M 29 f g)=true:=k3
        have he:=(jW I sm 29 A _ _ _ _ _ _ hu' a1 b1 a2 b2 z1.1 z2.1).1
        have hc':C (if eqD M 29 f g=true then kt (eqD M 29) (ltD M 29) rf rg else ltD M 29 f g) s:=hc
        cases hq3:eqD M 29 f g with
        | true =>
         rw[hq3]at he hc' z3
         have:=pA (prog:=X.prog) (w:=X.w) (b:=b) (Q:=C) (l:=true) he (λz=>nomatch z) (λ_=>uW I sm 29 A hu' _ _ _ _ _ _ rs ra rs' rb z1.2 z2.2 z3) hc'
         simpa using this
        | false =>
         rw[hq3]at he hc'
         have:=pA (prog:=X.prog) (w:=X.w) (b:=b) (Q:=C) (l:=ltD M 29 f g) (its:=la) (jts:=lb) (k:=true) he (λ_=>hone f g _ _ _ _ _ _ m1 m2 a1 b1 a2 b2 hq3) (λz=>nomatch z) hc'
         simpa using this
 have fin:∀(κ:SortKind),(∀i j (C:Bool->Shared->Prop),i<its.length->j<its.length->C (ltc M xs i j) s->kas_ask X.prog X.w A κ its i j C s)->(s=s/\∀i j (C:Bool->Shared->Prop),i<its.length->j<its.length->C (ltc M xs i j) s->kas_ask X.prog X.w A κ its i j C s):=λκ h=>⟨rfl,h⟩
 have eqn:A.units+29<cLine:=by have:eqN=30:=rfl;lia
 rcases so.kd with hk | hk | hk | hk | hk
 ·refine kas_kind (T:=.type "str") h2 (λu hu=>?_) (by decide) (by decide) (fin _ λi j C hi hj hc=>?_)
  ·obtain⟨d,v,m1,r1,e1⟩:=r.mem rr hu
   obtain⟨z,rfl⟩:=hk d m1
   cases r1
   obtain⟨t,rfl⟩:=e1
   exact jN
  ·unfold kas_ask
   obtain⟨v1,r1,e1,m1⟩:=r.getD' rr (show i<xs.length by lia)
   obtain⟨v2,r2,e2,m2⟩:=r.getD' rr (show j<xs.length by lia)
   unfold ltc at hc
   obtain⟨z,hz⟩:=hk _ m1
   obtain⟨z',hz'⟩:=hk _ m2
   rw[hz]at r1 hc
   rw[hz']at r2 hc
   cases r1;cases r2
   obtain⟨t,h1⟩:=e1
   obtain⟨t',h2⟩:=e2
   rw[h1,h2]
   exact kas_lt_str hc
 ·refine kas_kind (T:=.type "int") h2 (λu hu=>?_) (by decide) (by decide) (fin _ λi j C hi hj hc=>?_)
  ·obtain⟨d,v,m1,r1,e1⟩:=r.mem rr hu
   obtain⟨z,rfl⟩:=hk d m1
   cases r1
   obtain⟨t,rfl⟩:=e1
   exact jO
  ·unfold kas_ask
   obtain⟨v1,r1,e1,m1⟩:=r.getD' rr (show i<xs.length by lia)
   obtain⟨v2,r2,e2,m2⟩:=r.getD' rr (show j<xs.length by lia)
   unfold ltc at hc
   obtain⟨z,hz⟩:=hk _ m1
   obtain⟨z',hz'⟩:=hk _ m2
   rw[hz]at r1 hc
   rw[hz']at r2 hc
   cases r1;cases r2
   obtain⟨t,h1⟩:=e1
   obtain⟨t',h2⟩:=e2
   rw[h1,h2]
   exact kat_lt_int hc
 ·obtain⟨fs,t1,t2,t3⟩:=kT I r rr λx hx=>(hk x hx).elim λz ⟨r,e⟩=>⟨_,_,e⟩
  refine kat_kind (T:=.type "str") t1 (by lia) (λu hu=>?_) (by decide) (fin _ (tups _ (λx hx=>(hk x hx).elim λz ⟨r,e⟩=>⟨_,_,e⟩) λf g vf vg p q r r' m1 m2 r1 e1 r2 e2 hq Q' h=>?_))
  ·obtain⟨d,v,r1,e1,r',m1⟩:=t3 u hu
   obtain⟨z,r'',e⟩:=hk _ m1
   cases e
   cases r1
   obtain⟨t,rfl⟩:=e1
   exact jN
  ·obtain⟨z,_,e⟩:=hk _ m1
   cases e
   obtain⟨z',_,e'⟩:=hk _ m2
   cases e'
   cases r1;cases r2
   obtain⟨t,rfl⟩:=e1
   obtain⟨t',rfl⟩:=e2
   exact oneLt_str h
 ·obtain⟨fs,t1,t2,t3⟩:=kT I r rr λx hx=>(hk x hx).elim λz ⟨r,e⟩=>⟨_,_,e⟩
  refine kat_kind (T:=.type "int") t1 (by lia) (λu hu=>?_) (by decide) (fin _ (tups _ (λx hx=>(hk x hx).elim λz ⟨r,e⟩=>⟨_,_,e⟩) λf g vf vg p q r r' m1 m2 r1 e1 r2 e2 hq Q' h=>?_))
  ·obtain⟨d,v,r1,e1,r',m1⟩:=t3 u hu
   obtain⟨z,r'',e⟩:=hk _ m1
   cases e
   cases r1
   obtain⟨t,rfl⟩:=e1
   exact jO
  ·obtain⟨z,_,e⟩:=hk _ m1
   cases e
   obtain⟨z',_,e'⟩:=hk _ m2
   cases e'
   cases r1;cases r2
   obtain⟨t,rfl⟩:=e1
   obtain⟨t',rfl⟩:=e2
   exact oneLt_int h
 ·obtain⟨fs,t1,t2,t3⟩:=kT I r rr λx hx=>(hk x hx).elim λz ⟨r,e⟩=>⟨_,_,e⟩
  refine kat_kind (T:=.type "tuple") t1 (by lia) (λu hu=>?_) (by decide) (fin _ (tups _ (λx hx=>(hk x hx).elim λz ⟨r,e⟩=>⟨_,_,e⟩) λf g vf vg p q r r' m1 m2 r1 e1 r2 e2 hq Q' h=>?_))
  ·obtain⟨d,v,r1,e1,r',m1⟩:=t3 u hu
   obtain⟨z,r'',e⟩:=hk _ m1
   cases e
   cases r1 with
   | tup hq rs =>
    cases e1
    obtain⟨_,_,pl,_⟩:=I.tuple hq
    obtain⟨o,ho,hc,_⟩:=pl
    rw[<-hc]
    exact(show Looks _ s.heap (typeOf (.ref _)) o.cls from(Looks.ld ho).andThen .now)
  ·have k1:okD M 29 f=true:=by
    have:(f::r).all (okD M 29)=true:=so.okd _ m1
    rw[ABM,AAG]at this
    exact this.1
   have k2:okD M 29 g=true:=by
    have:(g::r').all (okD M 29)=true:=so.okd _ m2
    rw[ABM,AAG]at this
    exact this.1
   have k3:(if eqD M 29 f g=true then nb (eqD M 29) (dE M 29) r r' else dE M 29 f g)=true:=so.cm _ m1 _ m2
   rw[hq]at k3
   exact kat_one _ _ (tu I sm 29 A _ _ _ _ _ _ eqn r1 e1 r2 e2 k1 k2 k3 _ _ _ _ h)
end
theorem uJ{xs:List D}{lt:D->D->Bool}{en:D->List Int}(e:∀a∈xs,∀b∈xs,lt a b=decide (en a<en b)):(∀a∈xs,lt a a=false)/\(∀a∈xs,∀b∈xs,∀d∈xs,lt a b=true->lt b d=true->lt a d=true)/\∀a∈xs,∀b∈xs,∀d∈xs,lt a d=true->lt a b=true\/lt b d=true:=by
 refine⟨λa ha=>?_,λa ha b hb d hd h1 h2=>?_,λa ha b hb d hd h=>?_⟩
 ·rw[e a ha a ha,dF_ (ACU _)]
 ·rw[e a ha b hb,decide_eq_true_eq]at h1
  rw[e b hb d hd,decide_eq_true_eq]at h2
  rw[e a ha d hd,decide_eq_true_eq]
  exact List.lt_trans h1 h2
 ·rw[e a ha d hd,decide_eq_true_eq]at h
  rw[e a ha b hb,e b hb d hd,decide_eq_true_eq,decide_eq_true_eq]
  by_cases z:en a<en b
  ·exact .inl z
  ·have z':en b<=en a:=z
   exact .inr (List.lt_of_le_of_lt z' h)
theorem xv{xs:List D}(so:SrtG M xs):(∀a∈xs,ltD M eqN a a=false)/\(∀a∈xs,∀b∈xs,∀d∈xs,ltD M eqN a b=true->ltD M eqN b d=true->ltD M eqN a d=true)/\∀a∈xs,∀b∈xs,∀d∈xs,ltD M eqN a d=true->ltD M eqN a b=true\/ltD M eqN b d=true :=
 so.od.elim λ_ e=>uJ e
theorem om{l:Addr}{xs:List D}{ws:List V}{its:List Value}{R:VK}{lt:D->D->Bool}(I:Inv X pins σ H s)(sm:Sim X.K ρ M H)
  (keys:∀h',Inv X pins σ H { s with heap:=h' }->wpAny (model X.prog X.w) X.A.in1.in1 (keyKind' its.toArray) (λκ s'=>s'={ s with heap:=h' }/\∀i j (C:Bool->Shared->Prop),i<its.length->j<its.length->C (lt (xs.getD i default) (xs.getD j default)) { s with heap:=h' }->kas_ask X.prog X.w X.A.in1.in1 κ its i j C { s with heap:=h' }) (λ_ _=>False) { s with heap:=h' })
  (o1:∀a∈xs,lt a a=false) (o2:∀a∈xs,∀b∈xs,∀d∈xs,lt a b=true->lt b d=true->lt a d=true) (o3:∀a∈xs,∀b∈xs,∀d∈xs,lt a d=true->lt a b=true\/lt b d=true) (r:Reps X.K ρ H xs ws) (rr:aq ws its) (hl:s.heap.IsList l its.toArray) (hz:ws.length<=sizeLine) (h2:2<=its.length) (h64:its.length<64)
  (hne:l≠X.env.locals) (kk:∀v H',((∀Q:DK,(∀ys,ys.Perm xs->(ys.Pairwise λa b=>lt b a=false)->Q (.ref M.length) (M++[.lst ys]))->VQ X.K ρ H Q v H'))->R v H') :
  wpAny (model X.prog X.w) X.A (call (.builtin "sorted") [.ref l]) (EP X pins σ R) X.xe s:=by
 obtain⟨m,hn,hm⟩:=I.loc
 have lw:=r.length
 have li:=rr.length
 obtain⟨ol,hol,_⟩:=id hl
 have mem:∀a o,(a,o)∈[]++(l,ol)::Att.ledger s.heap X.env.locals l↔a≠X.env.locals/\s.heap.get? a=some o:=λa o=>by
  rw[AB2,AA9,Att.mem_ledger]
  constructor
  ·rintro(h | ⟨h1,_,h3⟩)
   ·cases h;exact⟨hne,hol⟩
   ·exact⟨h1,h3⟩
  ·rintro⟨h1,h2⟩
   by_cases hal:a=l
   ·subst hal
    rw[hol]at h2;cases h2
    exact .inl rfl
   ·exact .inr ⟨h1,hal,h2⟩
 refine kat_sorted (Att.fr_all hn) (Att.news_ledger hne hol) hl h2 h64 λD e1 h' F' N' lw'=>?_
 have kp:∀b u,b≠X.env.locals->s.heap.get? b=some u->h'.get? b=some u:=λb u hb e=>(N' (b,u) (AAA _ ((mem b u).mpr ⟨hb,e⟩))).1
 have hDL:D≠X.env.locals:=(N' _ AAI).2.1
 have hD:s.heap.get? D=none:=by
  cases q:s.heap.get? D with
  | none=>rfl
  | some o=>exact absurd (lw' (D,o) ((mem D o).mpr ⟨hDL,q⟩)) (AAh _)
 have I':Inv X pins σ H { s with heap:=h' }:=I.keptF (t':=s.toks) kp hn F'.ns
 refine AAo (keys h' I') (λκ s' hk=>?_) λ_ _ x=>x
 obtain⟨rfl,hask⟩:=hk
 refine Srt.wp_run (n:=its.length) (c:=λi j=>if i<xs.length then(if j<xs.length then lt (xs.getD i default) (xs.getD j default)else true)else false) (λi j C hi hj hc=>?_) _ (Srt.sort_bd (by lia)).1 ?_
 ·refine hask i j C hi hj ?_
  rw[if_pos (by lia),if_pos (by lia)]at hc
  exact hc
 ·have hent:=Srt.All.run (c:=λi j=>if i<xs.length then(if j<xs.length then lt (xs.getD i default) (xs.getD j default)else true)else false) _ (Srt.sort_bd (n:=its.length) (by lia)).2
  have hsl:=Srt.sort_list xs (by lia) o1 o2 o3
  try dsimp only at hsl
  rw[show xs.length=its.length by lia]at hsl hent ⊢
  generalize Srt.run _ (ACy its.length)=p at hent hsl ⊢
  have hi:∀i∈p.toList,i<xs.length:=λi h=>by
   have:=hent.mem_iff.mp h
   rw[AB6]at this
   lia
  refine KasFin.intro F' N' (UpdF.head λq hq=>AAK (lw' q hq)) λh2 c F2 N2=>?_
  have r':=r.perm p.toList hi
  have rr':=rr.perm p.toList (λi h=>by have:=hi i h;lia)
  have hD':H D=none:=HOk.none I.hok hD
  refine⟨.ref D,_,I.laidF (t':=s.toks) (o:=.lst (p.toList.map λi=>ws.getD i .non)) (λb u hb e=>(N2 (b,u) (AAA _ ((mem b u).mpr ⟨hb,e⟩))).1) hn F2.ns hD hD' ⟨?_,_,c,rr',(N2 _ AAI).1⟩,rfl,
   kk _ _ λQ hQ=>VQ.laidL sm .refl r' hD' (hQ _ hsl.1 hsl.2)⟩
  rw[AA6]
  have:=hsl.1.length_eq
  rw[AA6]at this
  lia
theorem nD{X:Cx}(hr:Room k X.A):X.A.in1.in1.units+eqN<cLine:=by
 have:=hr.un
 have:eqN=30:=rfl
 show X.A.units+1+1+eqN<cLine
 lia
theorem qP{k:Nat}{l:Addr}{xs:List D}{ws:List V}{its:List Value}{R:VK}(hr:Room k X.A)(I:Inv X pins σ H s)(sm:Sim X.K ρ M H)(so:SrtG M xs)(r:Reps X.K ρ H xs ws)(rr:aq ws its)(hl:s.heap.IsList l its.toArray)(hz:ws.length<=sizeLine)(h2:2<=its.length)(h64:its.length<64)
  (hne:l≠X.env.locals) (kk:∀v H',((∀Q:DK,(∀ys,ys.Perm xs->nv M ys->Q (.ref M.length) (M++[.lst ys]))->VQ X.K ρ H Q v H'))->R v H') :
  wpAny (model X.prog X.w) X.A (call (.builtin "sorted") [.ref l]) (EP X pins σ R) X.xe s :=
 have o:=xv so
 om (lt:=ltD M eqN) I sm (λ_ I'=>jz I' sm so r rr h2 (nD hr)) o.1 o.2.1 o.2.2 r rr hl hz h2 h64 hne kk
theorem Inv.sqL_ne(I:Inv X pins σ H s)(h:SqL X.K H a xs):a≠X.env.locals:=by
 rcases h with h | ⟨o,its,n,hk,_⟩
 ·rcases h with h | ⟨_,h⟩
  ·exact ac h I.free
  ·exact ac h I.free
 ·have:=AAB (I.mod.kin a o hk)
  exact AAK (AAF this (AAn I.ok.bsz I.ok.above))
theorem qk(hr:Room k X.A):gl X (.builtin "sorted") ou:=by
 rintro pins s σ H vs us R I rv ⟨ds,M,ρ,Q,sm,rs,q,kk⟩
 unfold ou at q
 split at q
 ·obtain⟨xs,hL,so,q⟩:=q
  cases rs with
  | cons r1 rs =>
   cases rs
   obtain⟨u,rfl,e1⟩:=aq.one rv
   cases r1 with
   | ref e =>
    cases e1
    obtain⟨ws,hq,r⟩:=ah.seq sm hL e
    obtain⟨its,rr,pl,hz⟩:=I.list hq
    have lw:=r.length
    have li:=rr.length
    by_cases h2:its.length<2
    ·refine jy pl.isList h2 λD h' n hD hk ho=>?_
     refine⟨.ref D,_,I.laid (t':=s.toks) (o:=.lst ws) hk hD ⟨hz,its,n,rr,ho⟩,rfl,kk _ _ (VQ.laidL sm .refl r (I.hok.fresh hD) (q xs (List.Perm.refl _) ?_))⟩
     unfold nv
     match xs,(show xs.length<2 by lia) with
     | [],_=>exact AD3
     | [x],_=>exact List.pairwise_singleton _ _
     | _::_::_,hx=>simp at hx;lia
    ·have h2':2<=its.length:=by lia
     have h64:its.length<64:=by have:=so.len;lia
     exact qP hr I sm so r rr pl.isList hz h2' h64 (I.sqL_ne hq) λv H' x=>kk v H' (x Q q)
 ·exact q.elim
theorem jK(hit:s.heap.IsTupleIter it t i)(ht:s.heap.IsTuple t items)(hx:items[i]?=some x)
  (hQ:∀h',h'.IsTupleIter it t (i+1)->ACu it s.heap h'->Q x { s with heap:=h' }):wpAny (model prog w) A (AAf (.ref it)) Q E s:=by
 obtain⟨o,ho,hc,hd⟩:=id hit
 obtain⟨ol,hol,_,nl,hdl⟩:=ht
 unfold AAf
 refine AA0 (AB (name:=AA2 "__next__") hit.typeIs F.slot_tuple_iterator_next (ABB F.slot_tuple_iterator_next hit.typeIs F.entry_tuple_iterator_next ?_ (F.args_tuple_iterator_next_1 (.ref it))))
 refine(show wpAny (model prog w) _ (field (.ref it) 0 >>= _) _ _ s from AA0 (AAY ho hd (x:=.ref t) rfl ?_))
 refine(show wpAny (model prog w) _ (if (ABC t==AB0)=true then _ else field (.ref it) 1 >>= _) _ _ s from ?_)
 rw[if_neg (show ¬(ABC t==AB0)=true from ABp)]
 refine AA0 (AAY ho hd (x:=.int i 0) rfl (show wpAny (model prog w) _ (seqItems? (.ref t) >>= _) _ _ s from AA0 (ABc hol hdl ?_)))
 simp only[AAz,hx]
 refine AA0 (AC4 ho hd (by simp) (AAD ⟨x,rfl,AAD (hQ _ ⟨_,ABU _ ho (ABw (ABW hd _)),(Obj.cls_mapFields ..).trans hc,?_⟩ (Heap.SameBut.update ..))⟩))
 rw[ABW hd];simp[rawInt]
theorem eB(hh:A.handled=none)(hit:s.heap.IsTupleIter it t i)(ht:s.heap.IsTuple t items)(hx:items[i]?=none)
  (hE:∀h' e,Heap.ExtBut it s.heap h'->(∃o,h'.get? e=some o/\o.cls=.type "StopIteration")->E (.ref e) { s with heap:=h' }):wpAny (model prog w) A (AAf (.ref it)) Q E s:=by
 obtain⟨o,ho,hc,hd⟩:=id hit
 obtain⟨ol,hol,_,nl,hdl⟩:=ht
 unfold AAf
 refine AA0 (AB (name:=AA2 "__next__") hit.typeIs F.slot_tuple_iterator_next (ABB F.slot_tuple_iterator_next hit.typeIs F.entry_tuple_iterator_next ?_ (F.args_tuple_iterator_next_1 (.ref it))))
 refine(show wpAny (model prog w) _ (field (.ref it) 0 >>= _) _ _ s from AA0 (AAY ho hd (x:=.ref t) rfl ?_))
 refine(show wpAny (model prog w) _ (if (ABC t==AB0)=true then _ else field (.ref it) 1 >>= _) _ _ s from ?_)
 rw[if_neg (show ¬(ABC t==AB0)=true from ABp)]
 refine AA0 (AAY ho hd (x:=.int i 0) rfl (show wpAny (model prog w) _ (seqItems? (.ref t) >>= _) _ _ s from AA0 (ABc hol hdl ?_)))
 simp only[AAz,hx]
 refine AA0 (wpAny_rule (AA0 (AC4 ho hd (by simp) (show wpAny (model prog w) _ (newExc (.type "StopIteration") [] >>= _) _ _ _ from AA0 ?_))))
 simp only[newExc,newTuple]
 refine AA0 (AAs (AA0 (m:=firstArgMember _ _) (wpAny_of_eq (a:=AB0) (by first | rfl | (simp only[firstArgMember];rfl)) (AAs ?_ (by size_fits)))) (by size_fits))
 simp only[raiseNew]
 refine AA0 (wpAny_handled ?_)
 first | rw[show A.in1.handled=none from hh] | rw[hh]
 exact AA0 (AAD (wpAny_throw (hE _ _ (((Heap.SameBut.update ..).extBut.push _).push _) (⟨_,AAH _ rfl,rfl⟩))))
theorem kW(hh:A.handled=none)(it t:Addr)(hne:t≠it)(items:Array Value):Draws prog w A it [it,t] items.size (λi v=>items[i]?=some v) (λi h=>h.IsTupleIter it t i/\h.IsTuple t items) where
 live:=λ_ _ ⟨⟨o,ho,_⟩,_⟩=>⟨o,ho⟩
 frame:=λ_ _ _ ⟨h1,o,e,r⟩ hk=>⟨h1.at λo e=>hk it (AAI) o e,o,hk t (by simp) o e,r⟩
 item:=λi s Q E hi ⟨h1,h2⟩ hQ=>by
  refine jK h1 h2 (x:=items[i]) (Array.getElem?_eq_getElem hi) λh' hit' hs'=>hQ _ h' s.toks (Array.getElem?_eq_getElem hi) ⟨hit',?_⟩ hs'
  obtain⟨o,e,r⟩:=h2
  exact⟨o,hs'.extBut _ _ hne e,r⟩
 done:=λs Q E ⟨h1,h2⟩ hE=>eB hh h1 h2 (Array.getElem?_eq_none (AA8 _)) hE
structure ZA(z TI TO i1 i2:Addr)(f1 f2:List Addr):Prop where
 nd:[z,TI,TO,i1,i2].Nodup
 z1:z∉f1
 o1:TO∉f1
 y1:i2∉f1
 z2:z∉f2
 o2:TO∉f2
 x2:i1∉f2
theorem bX{prog:Program}{w:World}{A:Around}{it c:Addr}{fp:List Addr}{n k:Nat}{P:Nat->Value->Prop}{St:Nat->Heap->Prop}{h h':Heap}(D:Draws prog w A it fp n P St)(hc:c∉fp)(hs:Heap.ExtBut c h h')(st:St k h):St k h' :=
 D.frame k h h' st λb hb o e=>hs b o (λq=>hc (q ▸ hb)) e
section
variable{prog:Program}{w:World}{A:Around}{E:Value->Shared->Prop}{s:Shared}{z TI TO i1 i2:Addr}{f1 f2:List Addr}{n1 n2 k:Nat}{P1 P2:Nat->Value->Prop}{S1 S2:Nat->Heap->Prop}{a b:Value}
theorem qE{Q:Value->Shared->Prop}(D1:Draws prog w A i1 f1 n1 P1 S1)(D2:Draws prog w A i2 f2 n2 P2 S2)(Z:ZA z TI TO i1 i2 f1 f2)(hz:IsZip s.heap z TI TO .none)(hTI:IsPair s.heap TI (.ref i1) (.ref i2))(hTO:IsPair s.heap TO a b)
  (st1:S1 k s.heap) (st2:S2 k s.heap) (l1:k<n1) (l2:k<n2)
  (hQ:∀h' tk x y T,P1 k x->P2 k y->s.heap.objs.size<=T->IsZip h' z TI TO (rawInt T)->IsPair h' TO x y->S1 (k+1) h'->S2 (k+1) h'->IsPair h' T x y->(∀c o,c≠z->c≠TO->c≠i1->c≠i2->s.heap.get? c=some o->h'.get? c=some o)->Q (.ref T) { s with heap:=h',toks:=tk }) :
  wpAny (model prog w) A (Builtin.«zip.__next__» ⟨[.ref z],[]⟩) (λfin s'=>∃v,fin=.done (.ret v)/\Q v s') E s:=by
 have nd:=Z.nd
 simp only[AAi,AA9,AAd,or_false,not_or]at nd
 obtain⟨⟨zTI,zTO,zi1,zi2⟩,⟨TITO,TIi1,TIi2⟩,⟨TOi1,TOi2⟩,i12,_⟩:=nd
 refine(show wpAny (model prog w) A (field (.ref z) 2 >>= _) _ _ _ from AA0 (AAY hz rfl (x:=.bool false) rfl ?_))
 refine(show wpAny (model prog w) A (field (.ref z) 3 >>= _) _ _ _ from AA0 (AAY hz rfl (x:=.ref TI) rfl (AA0 (ABc hTI rfl ?_))))
 refine(show wpAny (model prog w) A (AB5 (.ref z) >>= _) _ _ _ from AA0 ?_)
 unfold AB5
 refine AA0 (AAY hz rfl (x:=AB0) rfl (AAD ?_))
 simp only[if_true]
 refine AA0 (wpAny_rule (AA0 (AAY hz rfl (x:=.ref TO) rfl (AA0 (ABX hz (by simp) λh₁ (hz₁:IsZip h₁ z TI TO .ellipsis) hs₁=>AA0 ?_)))))
 simp only[List.zipIdx_cons,List.zipIdx_nil,ACj,List.forIn_nil]
 refine AA0 (AA0 (ACf (show wpAny (model prog w) A (AAf (.ref i1) >>= _) _ _ _ from AA0 ?_)))
 refine D1.item k _ _ _ l1 (bX D1 Z.z1 hs₁.extBut st1) λx h₂ tk₂ px s1₂ hs₂=>AAD ?_
 have hTO₂:IsPair h₂ TO a b:=hs₂.extBut _ _ TOi1 (hs₁.extBut _ _ (AAm zTO) hTO)
 refine AA0 (ABc hTO₂ rfl (AA0 (wpAny_updateSeq_pair hTO₂ λh₃ (hTO₃:IsPair h₃ TO x b) hs₃=>AA0 (wpAny_letGo (AAD ?_)))))
 refine AA0 (AA0 (ACf (show wpAny (model prog w) A (AAf (.ref i2) >>= _) _ _ _ from AA0 ?_)))
 refine D2.item k _ _ _ l2 (bX D2 Z.o2 hs₃.extBut (bX D2 Z.x2 hs₂.extBut (bX D2 Z.z2 hs₁.extBut st2))) λy h₄ tk₄ py s2₄ hs₄=>AAD ?_
 have hTO₄:IsPair h₄ TO x b:=hs₄.extBut _ _ TOi2 hTO₃
 refine AA0 (ABc hTO₄ rfl (AA0 (wpAny_updateSeq_pair hTO₄ λh₅ (hTO₅:IsPair h₅ TO x y) hs₅=>AA0 (wpAny_letGo (AAD (AAD ?_))))))
 refine AA0 (ABc hTO₅ rfl (AA0 (wpAny_newTuple ?_)))
 have hz₅:IsZip h₅ z TI TO .ellipsis:=hs₅.extBut _ _ zTO (hs₄.extBut _ _ zi2 (hs₃.extBut _ _ zTO (hs₂.extBut _ _ zi1 hz₁)))
 have kp:∀c o,c≠z->c≠TO->c≠i1->c≠i2->s.heap.get? c=some o->h₅.get? c=some o:=λc o c1 c2 c3 c4 e=>hs₅.extBut _ _ c2 (hs₄.extBut _ _ c4 (hs₃.extBut _ _ c2 (hs₂.extBut _ _ c3 (hs₁.extBut _ _ c1 e))))
 have sz:h₅.objs.size=s.heap.objs.size:=by rw[hs₅.1,hs₄.1,hs₃.1,hs₂.1];exact hs₁.1
 have t1:=bX D1 Z.o1 hs₅.extBut (bX D1 Z.y1 hs₄.extBut (bX D1 Z.o1 hs₃.extBut s1₂))
 have t2:=bX D2 Z.o2 hs₅.extBut s2₄
 refine(show wpAny (model prog w) A (AC5 (.ref z) (.ref h₅.objs.size) >>= _) _ _ _ from AA0 ?_)
 unfold AC5
 have hz₆:IsZip (h₅.push { cls:=.type "tuple",data:=.seq #[x,y] }) z TI TO .ellipsis:=AA3 _ hz₅
 refine AA0 (ABX hz₆ (by simp) λh₇ (hz₇:IsZip h₇ z TI TO (rawInt h₅.objs.size)) hs₇=>ABX hz₇ (by simp) λh₈ (hz₈:IsZip h₈ z TI TO (rawInt h₅.objs.size)) hs₈=>?_)
 have up:∀c o,c≠z->h₅.get? c=some o->h₈.get? c=some o:=λc o c1 e=>hs₈.extBut _ _ c1 (hs₇.extBut _ _ c1 (AA3 _ e))
 have ne:h₅.objs.size≠z:=Nat.ne_of_gt (AAB hz₅)
 refine AAD ⟨_,rfl,hQ h₈ _ x y h₅.objs.size px py (Nat.le_of_eq sz.symm) hz₈ (up _ _ (AAm zTO) hTO₅) ?_ ?_ (hs₈.extBut _ _ ne (hs₇.extBut _ _ ne (AAH _ rfl))) λc o c1 c2 c3 c4 e=>up c o c1 (kp c o c1 c2 c3 c4 e)⟩
 ·exact D1.frame _ _ _ t1 λc hc o e=>up c o (λq=>Z.z1 (q ▸ hc)) e
 ·exact D2.frame _ _ _ t2 λc hc o e=>up c o (λq=>Z.z2 (q ▸ hc)) e
theorem qG{Q:Fin->Shared->Prop}(D1:Draws prog w A i1 f1 n1 P1 S1)(D2:Draws prog w A i2 f2 n2 P2 S2)(Z:ZA z TI TO i1 i2 f1 f2)(hz:IsZip s.heap z TI TO .none)(hTI:IsPair s.heap TI (.ref i1) (.ref i2))(hTO:IsPair s.heap TO a b)
  (st1:S1 k s.heap) (st2:S2 k s.heap) (hk:k=n1\/(k<n1/\k=n2))
  (hE:∀h' tk e,(∀c o,c≠z->c≠TO->c≠i1->c≠i2->s.heap.get? c=some o->h'.get? c=some o)->(∃o,h'.get? e=some o/\o.cls=.type "StopIteration")->E (.ref e) { s with heap:=h',toks:=tk }) :
  wpAny (model prog w) A (Builtin.«zip.__next__» ⟨[.ref z],[]⟩) Q E s:=by
 have nd:=Z.nd
 simp only[AAi,AA9,AAd,or_false,not_or]at nd
 obtain⟨⟨zTI,zTO,zi1,zi2⟩,⟨TITO,TIi1,TIi2⟩,⟨TOi1,TOi2⟩,i12,_⟩:=nd
 refine(show wpAny (model prog w) A (field (.ref z) 2 >>= _) _ _ _ from AA0 (AAY hz rfl (x:=.bool false) rfl ?_))
 refine(show wpAny (model prog w) A (field (.ref z) 3 >>= _) _ _ _ from AA0 (AAY hz rfl (x:=.ref TI) rfl (AA0 (ABc hTI rfl ?_))))
 refine(show wpAny (model prog w) A (AB5 (.ref z) >>= _) _ _ _ from AA0 ?_)
 unfold AB5
 refine AA0 (AAY hz rfl (x:=AB0) rfl (AAD ?_))
 simp only[if_true]
 refine AA0 (wpAny_rule (AA0 (AAY hz rfl (x:=.ref TO) rfl (AA0 (ABX hz (by simp) λh₁ (hz₁:IsZip h₁ z TI TO .ellipsis) hs₁=>AA0 ?_)))))
 simp only[List.zipIdx_cons,List.zipIdx_nil,ACj,List.forIn_nil]
 refine AA0 (AA0 (ACf (show wpAny (model prog w) A (AAf (.ref i1) >>= _) _ _ _ from AA0 ?_)))
 rcases hk with rfl | ⟨l1,rfl⟩
 ·refine D1.done _ _ _ (bX D1 Z.z1 hs₁.extBut st1) ?_
  rintro h₂ e hs₂ ⟨oe,hoe,hce⟩
  have hz₂:IsZip h₂ z TI TO .ellipsis:=hs₂ _ _ zi1 hz₁
  have hez:e≠z:=λq=>by subst q;rw[hz₂]at hoe;cases hoe;simp at hce
  exact ABX hz₂ (by simp) λh₃ _ hs₃=>hE h₃ _ e (λc o c1 _ c3 _ q=>hs₃.extBut _ _ c1 (hs₂ _ _ c3 (hs₁.extBut _ _ c1 q))) ⟨oe,hs₃.extBut _ _ hez hoe,hce⟩
 ·refine D1.item k _ _ _ l1 (bX D1 Z.z1 hs₁.extBut st1) λx h₂ tk₂ px s1₂ hs₂=>AAD ?_
  have hTO₂:IsPair h₂ TO a b:=hs₂.extBut _ _ TOi1 (hs₁.extBut _ _ (AAm zTO) hTO)
  refine AA0 (ABc hTO₂ rfl (AA0 (wpAny_updateSeq_pair hTO₂ λh₃ (hTO₃:IsPair h₃ TO x b) hs₃=>AA0 (wpAny_letGo (AAD ?_)))))
  refine AA0 (AA0 (ACf (show wpAny (model prog w) A (AAf (.ref i2) >>= _) _ _ _ from AA0 ?_)))
  refine D2.done _ _ _ (bX D2 Z.o2 hs₃.extBut (bX D2 Z.x2 hs₂.extBut (bX D2 Z.z2 hs₁.extBut st2))) ?_
  rintro h₄ e hs₄ ⟨oe,hoe,hce⟩
  have hz₄:IsZip h₄ z TI TO .ellipsis:=hs₄ _ _ zi2 (hs₃.extBut _ _ zTO (hs₂.extBut _ _ zi1 hz₁))
  have hez:e≠z:=λq=>by subst q;rw[hz₄]at hoe;cases hoe;simp at hce
  exact ABX hz₄ (by simp) λh₅ _ hs₅=>hE h₅ _ e (λc o c1 c2 c3 c4 q=>hs₅.extBut _ _ c1 (hs₄ _ _ c4 (hs₃.extBut _ _ c2 (hs₂.extBut _ _ c3 (hs₁.extBut _ _ c1 q))))) ⟨oe,hs₅.extBut _ _ hez hoe,hce⟩
end
section
variable{X:Cx}{pins:List (Addr×Obj)}{σ:St}{H:Hp}{s:Shared}{h':Heap}
theorem Inv.turnedL{t':Nat}{fp:List Addr}(I:Inv X pins σ H s)(hf:∀b∈fp,iO X pins H b)(k:∀b o,b∉fp->s.heap.get? b=some o->h'.get? b=some o):Inv X pins σ H { s with heap:=h',toks:=t' }:=by
 have nfp:∀b u,H b=some u->b∉fp:=λb u e z=>by rw[(hf b z).1]at e;cases e
 refine I.step (g':=s.gens) (d':=s.drawn) (ch:=fp) (λb hb=>⟨(hf b hb).2.2.2.1,(hf b hb).2.1,(hf b hb).2.2.2.2.1,(hf b hb).2.2.2.2.2⟩) (λb o _ _ hc e _=>k b o hc e) (λb o _ _ hc e _=>⟨o.slots,k b o hc e⟩) (λ_ _ _ _ n=>n)
  (λb o hc e=>⟨o,k b o hc e⟩) (λ_ _ e=>e) (λ_ _ _ e=>e) (λb ps e=>⟨#[],by rw[e];simp⟩) (λm hm=>?_) (λb u e=>?_) I.bare
 ·obtain⟨o,es,ep,ho,r⟩:=hm
  exact⟨o,es,ep,k _ o (λz=>(hf _ z).2.1 rfl) ho,r⟩
 ·refine(I.hok b u e).stay (λc v hc q=>k c v ?_ q) (λ_ q=>q) λ_ _ q=>q
  rcases hc with rfl | z
  ·exact nfp _ u e
  ·exact nfp _ _ z
theorem Inv.turnedT{t':Nat}{fp:List Addr}{T:Addr}{o:HO}(I:Inv X pins σ H s)(hf:∀b∈fp,iO X pins H b)(k:∀b o,b∉fp->s.heap.get? b=some o->h'.get? b=some o)(hT:s.heap.objs.size<=T)(new:br X.prog X.w (upd H T o) h' T o):Inv X pins σ (upd H T o) { s with heap:=h',toks:=t' }:=by
 have fa:H T=none:=I.hok.fresh hT
 have neT:∀b u,s.heap.get? b=some u->b≠T:=λb u e=>AAK (AAF (AAB e) hT)
 have nfp:∀b u,H b=some u->b∉fp:=λb u e z=>by rw[(hf b z).1]at e;cases e
 refine I.step (g':=s.gens) (d':=s.drawn) (ch:=fp) (λb hb=>⟨(hf b hb).2.2.2.1,(hf b hb).2.1,(hf b hb).2.2.2.2.1,(hf b hb).2.2.2.2.2⟩) (λb o _ _ hc e _=>k b o hc e) (λb o _ _ hc e _=>⟨o.slots,k b o hc e⟩) (λb u _ e n=>by rw[ag (neT b u e)];exact n)
  (λb o hc e=>⟨o,k b o hc e⟩) (λb xs q=>by rw[ag (ac q fa)];exact q) (λb u xs q=>by rw[ag (ac q fa)];exact q) (λb ps q=>⟨#[],by rw[ag (ac q fa),q];simp⟩) (λm hm=>?_) (λb u e=>?_) I.bare
 ·obtain⟨o,es,ep,ho,r⟩:=hm
  exact⟨o,es,ep,k _ o (λz=>(hf _ z).2.1 rfl) ho,r⟩
 ·by_cases hb:b=T
  ·subst hb
   rw[aL]at e
   cases e
   exact new
  ·rw[ag hb]at e
   refine(I.hok b u e).stay (λc v hc q=>k c v ?_ q) (λc q=>by rw[ag (ac q fa)];exact q) λc xs q=>by rw[ag (ac q fa)];exact q
   rcases hc with rfl | z
   ·exact nfp _ u e
   ·exact nfp _ _ z
def Sq(t:Bool)(K:AA)(H:Hp)(a:Addr)(xs:List V):Prop:=if t=true then SqT K H a xs else SqL K H a xs
def SIt(t:Bool)(h:Heap)(i l:Addr)(k:Nat):Prop:=if t=true then h.IsTupleIter i l k else h.IsListIter i l k
def SIs(t:Bool)(h:Heap)(l:Addr)(xs:Array Value):Prop:=if t=true then h.IsTuple l xs else h.IsList l xs
theorem SIt.at(x:SIt t h i l k)(e:∀o,h.get? i=some o->h'.get? i=some o):SIt t h' i l k:=by
 cases t with
 | true=>exact(show h.IsTupleIter i l k from x).at e
 | false=>exact(show h.IsListIter i l k from x).at e
theorem SIt.obj(x:SIt t h i l k):∃o,h.get? i=some o/\∀v,o.data≠.cell v:=by
 cases t with
 | true =>
  obtain⟨o,e,c,d⟩:=(show h.IsTupleIter i l k from x)
  exact⟨o,e,λv z=>by rw[d]at z;cases z⟩
 | false =>
  obtain⟨o,e,c,d⟩:=(show h.IsListIter i l k from x)
  exact⟨o,e,λv z=>by rw[d]at z;cases z⟩
theorem Sq.is(I:Inv X pins σ H s)(h:Sq t X.K H a xs):∃its,aq xs its/\SIs t s.heap a its.toArray/\xs.length<=sizeLine:=by
 cases t with
 | true=>exact I.tuple (show SqT X.K H a xs from h)
 | false =>
  obtain⟨its,rr,pl,hz⟩:=I.list (show SqL X.K H a xs from h)
  exact⟨its,rr,pl.isList,hz⟩
theorem Sq.inj(I:Inv X pins σ H s)(h:Sq t X.K H a xs)(h':Sq t X.K H a ys):xs=ys:=by
 cases t with
 | true=>exact I.tuple_inj h h'
 | false=>exact I.list_inj h h'
theorem Sq.ne(I:Inv X pins σ H s)(h:Sq t X.K H a xs)(f:iO X pins H b):a≠b:=by
 have kc:∀o,X.K.lookup a=some o->a≠b:=λo hk=>by
  have hb:=I.mod.kin a o hk
  rcases f.2.2.2.1 with z | z
  ·intro q;subst q;exact I.ok.noex a o hb z
  ·exact AAK (AAF (AAB hb) (AAn I.ok.bsz z))
 cases t with
 | true =>
  rcases(show SqT X.K H a xs from h)with(h | ⟨_,h⟩) | ⟨o,its,n,hk,_⟩
  ·exact ac h f.1
  ·exact ac h f.1
  ·exact kc o hk
 | false =>
  rcases(show SqL X.K H a xs from h)with(h | ⟨_,h⟩) | ⟨o,its,n,hk,_⟩
  ·exact ac h f.1
  ·exact ac h f.1
  ·exact kc o hk
theorem dz(hh:A.handled=none)(t:Bool)(it l:Addr)(hne:l≠it)(items:Array Value):Draws prog w A it [it,l] items.size (λi v=>items[i]?=some v) (λi h=>SIt t h it l i/\SIs t h l items):=by
 cases t with
 | true=>exact kW hh it l hne items
 | false=>exact Draws.list hh it l hne items
noncomputable def Itz(K:AA)(t1 t2:Bool)(l1 l2:Addr):It :=
 ⟨λi H=>∃xs ys x y,Sq t1 K H l1 xs/\Sq t2 K H l2 ys/\xs[i]?=some x/\ys[i]?=some y,
  λi H v H'=>∃T x y,v=.ref T/\H T=none/\H'=upd H T (.tup [x,y])/\(∀xs,Sq t1 K H l1 xs->xs[i]?=some x)/\∀ys,Sq t2 K H l2 ys->ys[i]?=some y,
  λi H=>∃xs ys,Sq t1 K H l1 xs/\Sq t2 K H l2 ys/\(i=xs.length\/(i<xs.length/\i=ys.length))⟩
def ZSt(t1 t2:Bool)(z TI TO i1 i2 l1 l2:Addr)(i:Nat)(h:Heap):Prop:=IsZip h z TI TO .none/\IsPair h TI (.ref i1) (.ref i2)/\(∃a b,IsPair h TO a b)/\SIt t1 h i1 l1 i/\SIt t2 h i2 l2 i
theorem qM{P:Program}{w:World}{K:AA}{elts:List Expr}{x1:Nat}{pos:Pos}{t1 t2:Bool}{z TI TO i1 i2 l1 l2:Addr}(nd:[z,TI,TO,i1,i2].Nodup) :
  Turn P w K (.Tuple elts x1 pos) (Itz K t1 t2 l1 l2) [z,TI,TO,i1,i2] z (ZSt t1 t2 z TI TO i1 i2 l1 l2) where
 mem:=AAI
 obj:=λi h ⟨hz,hTI,⟨a,b,hTO⟩,h1,h2⟩ c hc=>by
  simp only[AA9,AAd,or_false]at hc
  rcases hc with rfl | rfl | rfl | rfl | rfl
  ·exact⟨_,hz,λv q=>nomatch q⟩
  ·exact⟨_,hTI,λv q=>nomatch q⟩
  ·exact⟨_,hTO,λv q=>nomatch q⟩
  ·exact h1.obj
  ·exact h2.obj
 keep:=λi h h' ⟨hz,hTI,⟨a,b,hTO⟩,h1,h2⟩ k=>⟨k z (by simp) _ hz,k TI (by simp) _ hTI,⟨a,b,k TO (by simp) _ hTO⟩,h1.at λo e=>k i1 (by simp) o e,h2.at λo e=>k i2 (by simp) o e⟩
 item:=by
  rintro X hP hw hK hc i pins s σ H E I hf ⟨hz,hTI,⟨a,b,hTO⟩,h1,h2⟩ ⟨xs,ys,x,y,q1,q2,hx,hy⟩
  subst hP hw hK
  obtain⟨us,ru,iu,hzu⟩:=q1.is I
  obtain⟨vs,rv,iv,hzv⟩:=q2.is I
  have lu:=ru.length
  have lv:=rv.length
  have f:=hf
  have nd':=nd
  simp only[AAi,AA9,AAd,or_false,not_or]at nd'
  obtain⟨⟨zTI,zTO,zi1,zi2⟩,⟨TITO,TIi1,TIi2⟩,⟨TOi1,TOi2⟩,i12,_⟩:=nd'
  have a1:l1≠i1:=q1.ne I (f i1 (by simp))
  have a2:l2≠i2:=q2.ne I (f i2 (by simp))
  have Z:ZA z TI TO i1 i2 [i1,l1] [i2,l2]:=⟨nd,by simp[zi1,AAm (q1.ne I (f z (by simp)))],by simp[TOi1,AAm (q1.ne I (f TO (by simp)))],by simp[AAm i12,AAm (q1.ne I (f i2 (by simp)))],
   by simp[zi2,AAm (q2.ne I (f z (by simp)))],by simp[TOi2,AAm (q2.ne I (f TO (by simp)))],by simp[i12,AAm (q2.ne I (f i1 (by simp)))]⟩
  have ix:i<us.length:=by have:=(AA4.mp hx).1;lia
  have iy:i<vs.length:=by have:=(AA4.mp hy).1;lia
  have hT:s.TypeIs (.ref z) "zip":=⟨_,hz,rfl⟩
  unfold pyNext
  refine AA0 (ACg (AB (name:=AA2 "__next__") hT F.slot_zip_next (ABB F.slot_zip_next hT F.entry_zip_next ?_ (F.args_zip_next_1 (.ref z)))))
  refine qE (k:=i) (dz (show X.A.in1.handled=none from I.ok.hd hc) t1 i1 l1 a1 us.toArray) (dz (show X.A.in1.handled=none from I.ok.hd hc) t2 i2 l2 a2 vs.toArray) Z hz hTI hTO ⟨h1,iu⟩ ⟨h2,iv⟩ (by simpa using ix) (by simpa using iy)
   λh' tk px py T hpx hpy hT' hz' hTO' s1 s2 hp hk=>AAD ⟨_,rfl,?_⟩
  refine wpAny_letOwnedTupleGo_zip hz' λh2 hz2 hs2=>?_
  have zne:T≠z:=λq=>by subst q;exact absurd (AAB hz) (Nat.not_lt_of_le hT')
  obtain⟨px',epx,rpx⟩:=ru.get hx
  obtain⟨py',epy,rpy⟩:=rv.get hy
  have e1:px'=px:=by rw[List.getElem?_toArray,epx]at hpx;exact AAN hpx
  have e2:py'=py:=by rw[List.getElem?_toArray,epy]at hpy;exact AAN hpy
  subst e1 e2
  have hp2:IsPair h2 T px' py':=hs2.extBut _ _ zne hp
  refine⟨.ref T,upd H T (.tup [x,y]),?_,rfl,⟨T,x,y,rfl,I.hok.fresh hT',rfl,λzs hq=>by rw[hq.inj I q1];exact hx,λzs hq=>by rw[hq.inj I q2];exact hy⟩,
   ⟨hz2,hs2.extBut _ _ (AAm zTI) (hk _ _ (AAm zTI) TITO TIi1 TIi2 hTI),⟨_,_,hs2.extBut _ _ (AAm zTO) hTO'⟩,s1.1.at λo e=>hs2.extBut _ _ (AAm zi1) e,s2.1.at λo e=>hs2.extBut _ _ (AAm zi2) e⟩,λc hc=>?_⟩
  ·refine I.turnedT (t':=tk) hf (λc o hc e=>?_) hT' ⟨by simp[ABr],[px',py'],.cons rpx (.cons rpy .nil),⟨_,hp2,rfl,⟨0,rfl⟩,rfl⟩⟩
   simp only[AA9,AAd,or_false,not_or]at hc
   exact hs2.extBut _ _ hc.1 (hk _ _ hc.1 hc.2.2.1 hc.2.2.2.1 hc.2.2.2.2 e)
  ·obtain⟨oc,ec⟩:∃o,s.heap.get? c=some o:=by
    simp only[AA9,AAd,or_false]at hc
    rcases hc with rfl | rfl | rfl | rfl | rfl
    ·exact⟨_,hz⟩
    ·exact⟨_,hTI⟩
    ·exact⟨_,hTO⟩
    ·obtain⟨o,e,_⟩:=h1.obj;exact⟨o,e⟩
    ·obtain⟨o,e,_⟩:=SIt.obj ‹SIt t2 s.heap _ l2 i›;exact⟨o,e⟩
   rw[ag (AAK (AAF (AAB ec) hT'))]
   exact(hf c hc).1
 done:=by
  rintro X hP hw hK hc i pins s σ H E I hf ⟨hz,hTI,⟨a,b,hTO⟩,h1,h2⟩ ⟨xs,ys,q1,q2,hend⟩
  subst hP hw hK
  obtain⟨us,ru,iu,hzu⟩:=q1.is I
  obtain⟨vs,rv,iv,hzv⟩:=q2.is I
  have lu:=ru.length
  have lv:=rv.length
  have f:=hf
  have nd':=nd
  simp only[AAi,AA9,AAd,or_false,not_or]at nd'
  obtain⟨⟨zTI,zTO,zi1,zi2⟩,⟨TITO,TIi1,TIi2⟩,⟨TOi1,TOi2⟩,i12,_⟩:=nd'
  have a1:l1≠i1:=q1.ne I (f i1 (by simp))
  have a2:l2≠i2:=q2.ne I (f i2 (by simp))
  have Z:ZA z TI TO i1 i2 [i1,l1] [i2,l2]:=⟨nd,by simp[zi1,AAm (q1.ne I (f z (by simp)))],by simp[TOi1,AAm (q1.ne I (f TO (by simp)))],by simp[AAm i12,AAm (q1.ne I (f i2 (by simp)))],
   by simp[zi2,AAm (q2.ne I (f z (by simp)))],by simp[TOi2,AAm (q2.ne I (f TO (by simp)))],by simp[i12,AAm (q2.ne I (f i1 (by simp)))]⟩
  have hT:s.TypeIs (.ref z) "zip":=⟨_,hz,rfl⟩
  unfold pyNext
  refine AA0 (ACg (AB (name:=AA2 "__next__") hT F.slot_zip_next (ABB F.slot_zip_next hT F.entry_zip_next ?_ (F.args_zip_next_1 (.ref z)))))
  refine qG (k:=i) (dz (show X.A.in1.handled=none from I.ok.hd hc) t1 i1 l1 a1 us.toArray) (dz (show X.A.in1.handled=none from I.ok.hd hc) t2 i2 l2 a2 vs.toArray) Z hz hTI hTO ⟨h1,iu⟩ ⟨h2,iv⟩ ?_ λh' tk e hk ⟨o,ho,ho'⟩=>?_
  ·rw[AA7,AA7,<-lu,<-lv]
   exact hend
  ·refine AA0 (wpAny_isInstance (T:="StopIteration") (b:=true) ⟨o,ho,ho'⟩ isSubtype_stop (AAD ⟨rfl,?_⟩))
   refine I.turnedL (t':=tk) hf λc o hc e=>?_
   simp only[AA9,AAd,or_false,not_or]at hc
   exact hk _ _ hc.1 hc.2.2.1 hc.2.2.2.1 hc.2.2.2.2 e
 self:=λ_ _ _ _ _ st h=>wpAny_pyIter_zip st.1 h
end
noncomputable abbrev itO(t:Bool)(l:Addr):Obj:={ cls:=.type (if t=true then "tuple_iterator" else "list_iterator"),data:=.fields #[.ref l,.int 0 0] }
theorem lZ(h:SIs t s.heap l xs)(q:Q (.ref s.heap.objs.size) { s with heap:=s.heap.push (itO t l) }):wpAny (model prog w) A (pyIter (.ref l)) Q E s:=by
 cases t with
 | true=>exact wpAny_pyIter_tuple (show s.heap.IsTuple l xs from h) q
 | false=>exact wpAny_pyIter_list (show s.heap.IsList l xs from h) q
noncomputable abbrev zp1(h:Heap)(t1:Bool)(l1:Addr):Heap:=h.push (itO t1 l1)
noncomputable abbrev zp2(h:Heap)(t1 t2:Bool)(l1 l2:Addr):Heap:=(zp1 h t1 l1).push (itO t2 l2)
noncomputable abbrev zp3(h:Heap)(t1 t2:Bool)(l1 l2:Addr):Heap:=(zp2 h t1 t2 l1 l2).push { cls:=.type "tuple",data:=.seq #[.ref h.objs.size,.ref (zp1 h t1 l1).objs.size] }
noncomputable abbrev zp4(h:Heap)(t1 t2:Bool)(l1 l2:Addr):Heap:=(zp3 h t1 t2 l1 l2).push { cls:=.type "tuple",data:=.seq #[.none,.none] }
noncomputable abbrev zp5(h:Heap)(t1 t2:Bool)(l1 l2:Addr):Heap:=(zp4 h t1 t2 l1 l2).push { cls:=.type "zip",data:=.fields #[.none,.bool false,.bool false,.ref (zp2 h t1 t2 l1 l2).objs.size,.ref (zp3 h t1 t2 l1 l2).objs.size] }
theorem SIs.push(x:SIs t h l xs)(o:Obj):SIs t (h.push o) l xs:=by
 cases t with
 | true=>obtain⟨u,e,r⟩:=(show h.IsTuple l xs from x);exact(show (h.push o).IsTuple l xs from⟨u,AA3 _ e,r⟩)
 | false=>obtain⟨u,e,r⟩:=(show h.IsList l xs from x);exact(show (h.push o).IsList l xs from⟨u,AA3 _ e,r⟩)
theorem qF(t1 t2:Bool)(l1 l2:Addr)(xs ys:Array Value):Meets (Builtin.«zip.__new__» ⟨[.type "zip",.ref l1,.ref l2],[]⟩) (λ_ R s=>SIs t1 s.heap l1 xs/\SIs t2 s.heap l2 ys/\R (.ok (.ret (.ref (zp4 s.heap t1 t2 l1 l2).objs.size))) { s with heap:=zp5 s.heap t1 t2 l1 l2 }) :=
 .of_wp λprog w A R s h=>by
  obtain⟨hp,g,d,tk,os⟩:=s;obtain⟨hl1,hl2,h⟩:=h
  have hsub:=sub_zip
  have r1:SIs t1 (Shared.heap ⟨hp,g,d,tk,os⟩) l1 xs:=hl1
  have r2:SIs t2 (Shared.heap ⟨hp.push (itO t1 l1),g,d,tk,os⟩) l2 ys:=hl2.push _
  wp_walk using lZ r1,lZ r2
  exact⟨_,rfl,h⟩
theorem qo(h1:SIs t1 s.heap l1 xs)(h2:SIs t2 s.heap l2 ys)
  (h:∀h',ZSt t1 t2 (s.heap.objs.size+4) (s.heap.objs.size+2) (s.heap.objs.size+3) s.heap.objs.size (s.heap.objs.size+1) l1 l2 0 h'->(∀c o,s.heap.get? c=some o->h'.get? c=some o)->Q (.ref (s.heap.objs.size+4)) { s with heap:=h' }) :
  wpAny (model prog w) A (call (.type "zip") [.ref l1,.ref l2]) Q E s:=by
 refine callType_new F.called_zip (by decide) (F.typeCall_zip_2 _ _) (F.newCall_zip_2 _ _) (λobj=>F.args_object_init_3 obj _ _) F.entry_zip_new (qF t1 t2 l1 l2 xs ys) ⟨h1,h2,?_⟩
 have z1:(zp1 s.heap t1 l1).objs.size=s.heap.objs.size+1:=AB7 ..
 have z2:(zp2 s.heap t1 t2 l1 l2).objs.size=s.heap.objs.size+2:=by rw[AB7,z1]
 have z3:(zp3 s.heap t1 t2 l1 l2).objs.size=s.heap.objs.size+3:=by rw[AB7,z2]
 have z4:(zp4 s.heap t1 t2 l1 l2).objs.size=s.heap.objs.size+4:=by rw[AB7,z3]
 have up:∀{h:Heap}{c:Addr}{o:Obj} (u:Obj),h.get? c=some o->(h.push u).get? c=some o:=λu e=>AA3 _ e
 have g5:(zp5 s.heap t1 t2 l1 l2).get? (zp4 s.heap t1 t2 l1 l2).objs.size=some _:=AAH _ rfl
 have g4:(zp5 s.heap t1 t2 l1 l2).get? (zp3 s.heap t1 t2 l1 l2).objs.size=some _:=up _ (AAH _ rfl)
 have g3:(zp5 s.heap t1 t2 l1 l2).get? (zp2 s.heap t1 t2 l1 l2).objs.size=some _:=up _ (up _ (AAH _ rfl))
 have g2:(zp5 s.heap t1 t2 l1 l2).get? (zp1 s.heap t1 l1).objs.size=some _:=up _ (up _ (up _ (AAH _ rfl)))
 have g1:(zp5 s.heap t1 t2 l1 l2).get? s.heap.objs.size=some _:=up _ (up _ (up _ (up _ (AAH _ rfl))))
 have si:∀(t:Bool) (h:Heap) (a l:Addr),h.get? a=some (itO t l)->SIt t h a l 0:=λt h a l e=>by cases t<;>exact⟨_,e,rfl,rfl⟩
 show _/\_
 rw[z2,z3,z4]at g5
 rw[z1,z2]at g3
 rw[z3]at g4
 rw[z1]at g2
 rw[z4]
 exact⟨⟨_,g5,rfl⟩,h _ ⟨g5,g3,⟨_,_,g4⟩,si _ _ _ _ g1,si _ _ _ _ g2⟩ λc o q=>up _ (up _ (up _ (up _ (up _ q))))⟩
noncomputable def zipD(xs ys:List D):List D:=(xs.zip ys).map λp=>.tup [p.1,p.2]
def lh(M:Mem)(x:D)(xs:List D)(ok:Mem->Prop):Prop:=match x with
 | .tup ds=>xs=ds/\ok=λ_=>True
 | .ref n=>ah M n xs/\ok=λM=>ah M n xs
 | _=>False
def dZip(ta:DTA):DTI:=λS M R=>ta S M λds M1=>match ds with
 | [x,y]=>∃xs ys o1 o2,lh M1 x xs o1/\lh M1 y ys o2/\R ⟨zipD xs ys,λM=>o1 M/\o2 M⟩ M1
 | _=>False
theorem sL:bootBuiltins "zip" = some (.type "zip"):=by decide +kernel
theorem lh.sq{X:Cx}(sm:Sim X.K ρ M H)(h:lh M x xs ok)(r:Rep X.K ρ H x v)(e:aH v u) :
  ∃(t:Bool) (l:Addr),u=.ref l/\ok M/\∀ρ' M' H',Sim X.K ρ' M' H'->Grow X.K ρ H ρ' H'->ok M'->∃vs,Sq t X.K H' l vs/\Reps X.K ρ' H' xs vs:=by
 unfold lh at h
 split at h
 ·obtain⟨rfl,rfl⟩:=h
  obtain⟨a,vs,rfl,hq,r⟩:=Rep.inv_tup r
  cases e
  exact⟨true,a,rfl,trivial,λρ' M' H' sm' g _=>⟨vs,g.tup a vs hq,r.grow g⟩⟩
 ·obtain⟨h,rfl⟩:=h
  cases r with
  | @ref n a hn =>
   cases e
   exact⟨false,a,rfl,h,λρ' M' H' sm' g ok=>ah.seq sm' ok (aA g.pre hn)⟩
 ·exact h.elim
theorem ItD.zip{ρ:List Addr}{H:Hp}{xs ys:List D}{o1 o2:Mem->Prop}{t1 t2:Bool}{l1 l2:Addr}{K:AA}
  (h1:∀ρ' M' H',Sim K ρ' M' H'->Grow K ρ H ρ' H'->o1 M'->∃vs,Sq t1 K H' l1 vs/\Reps K ρ' H' xs vs) (h2:∀ρ' M' H',Sim K ρ' M' H'->Grow K ρ H ρ' H'->o2 M'->∃vs,Sq t2 K H' l2 vs/\Reps K ρ' H' ys vs) :
  ItD K ⟨zipD xs ys,λM=>o1 M/\o2 M⟩ ρ H (Itz K t1 t2 l1 l2) where
 go:=λi ρ' M' H' sm g ok hi=>by
  obtain⟨vs,q1,r1⟩:=h1 ρ' M' H' sm g ok.1
  obtain⟨ws,q2,r2⟩:=h2 ρ' M' H' sm g ok.2
  have hi':i<xs.length/\i<ys.length:=by simpa [zipD,Nat.lt_min]using hi
  have e1:=r1.length
  have e2:=r2.length
  exact⟨vs,ws,_,_,q1,q2,AA1 (by lia),AA1 (by lia)⟩
 yld:=λi ρ' M' H' x H2 sm g ok hi y=>by
  obtain⟨vs,q1,r1⟩:=h1 ρ' M' H' sm g ok.1
  obtain⟨ws,q2,r2⟩:=h2 ρ' M' H' sm g ok.2
  obtain⟨T,a,b,rfl,hT,rfl,ha,hb⟩:=y
  obtain⟨d,hd,rd⟩:=r1.getV (ha vs q1)
  obtain⟨e,he,re⟩:=r2.getV (hb ws q2)
  refine⟨.tup [d,e],ρ',?_,sm.laid hT,Grow.laid hT,.tup (SqT.of aL) (.cons (rd.grow (Grow.laid hT)) (.cons (re.grow (Grow.laid hT)) .nil))⟩
  show (zipD xs ys)[i]?=_
  have:(xs.zip ys)[i]?=some (d,e):=List.getElem?_zip_eq_some.mpr ⟨hd,he⟩
  rw[zipD,AAP,this]
  rfl
 stop:=λρ' M' H' sm g ok=>by
  obtain⟨vs,q1,r1⟩:=h1 ρ' M' H' sm g ok.1
  obtain⟨ws,q2,r2⟩:=h2 ρ' M' H' sm g ok.2
  have e1:=r1.length
  have e2:=r2.length
  refine⟨vs,ws,q1,q2,?_⟩
  show (zipD xs ys).length=_\/_
  rw[zipD,AA6,List.length_zip]
  lia
theorem yS(hm:X.mg "zip" = none)(ha:DA X [a,b] ta)(hg:Gl X "zip":=by rfl)(hs:starEach [a,b] X.env=[(false,eval a X.env),(false,eval b X.env)]:=by rfl)(hs2:starEach [b] X.env=[(false,eval b X.env)]:=by rfl) :
  DI X (.Tuple elts x1 q) (.Call (.Name "zip" p) [a,b] [] pos) (dZip ta):=by
 intro pins s σ H R I h
 obtain⟨S,M,ρ,Q,sm,sr,hq,k⟩:=h
 refine Call_ (gI I hg hm sL (ABR (thn (ha pos pins s σ H _ I ⟨S,M,ρ,_,sm,sr,hq,λv H' w=>w⟩) ?_) (by rw[hs,hs2]) (by rw[hs2];rfl)))
 rintro us s1 ⟨vs,H1,I1,r1,ds,M1,ρ1,sm1,g1,rr,q1⟩
 try dsimp only at q1
 split at q1
 ·obtain⟨xs,ys,o1,o2,w1,w2,q2⟩:=q1
  first | have hzz:=Reps.inv_cons rr | have hzz:=aq.inv_cons rr
  clear rr
  obtain⟨_,_,rfl,d1,rr⟩:=hzz
  first | have hzz:=Reps.inv_cons rr | have hzz:=aq.inv_cons rr
  clear rr
  obtain⟨_,_,rfl,d2,rr⟩:=hzz
  cases rr
  first | have hzz:=Reps.inv_cons r1 | have hzz:=aq.inv_cons r1
  clear r1
  obtain⟨_,_,rfl,b1,r1⟩:=hzz
  first | have hzz:=Reps.inv_cons r1 | have hzz:=aq.inv_cons r1
  clear r1
  obtain⟨_,_,rfl,b2,r1⟩:=hzz
  cases r1
  obtain⟨t1,l1,rfl,k1,f1⟩:=w1.sq sm1 d1 b1
  obtain⟨t2,l2,rfl,k2,f2⟩:=w2.sq sm1 d2 b2
  obtain⟨as,qa,_⟩:=f1 ρ1 M1 H1 sm1 .refl k1
  obtain⟨bs,qb,_⟩:=f2 ρ1 M1 H1 sm1 .refl k2
  obtain⟨is,_,ia,_⟩:=qa.is I1
  obtain⟨js,_,ib,_⟩:=qb.is I1
  refine qo ia ib λh' st kp=>?_
  refine wpAny_pyIter_zip st.1 ?_
  have nd:[s1.heap.objs.size+4,s1.heap.objs.size+2,s1.heap.objs.size+3,s1.heap.objs.size,s1.heap.objs.size+1].Nodup:=by simp
  refine⟨s1.heap.objs.size+4,_,_,_,H1,rfl,I1.kept (t':=s1.toks) kp,qM nd,st,λc hc=>?_,k _ H1 ⟨_,M1,ρ1,sm1,g1,ItD.zip f1 f2,q2⟩⟩
  have hc':s1.heap.objs.size<=c:=by
   simp only[AA9,AAd,or_false]at hc
   rcases hc with rfl | rfl | rfl | rfl | rfl<;>first | exact Nat.le_add_right _ _ | exact AA8 _
  exact I1.fpOk hc' (I1.hok.fresh hc')
 ·exact q1.elim
def fo(z:Str):DRA:=λds M Q=>match ds with
 | [.str y]=>Q (.bl (ACV z y)) M
 | _=>False
theorem oN:MtR X "str.startswith" (rK X.K fo):=by
 rintro pins s σ H x xs v us R I rx rs ⟨z,ds,M,ρ,Q,ez,sm,rr,q,k⟩
 subst ez
 obtain⟨t,rfl⟩:=rx
 unfold fo at q
 split at q
 ·first | have hzz:=Reps.inv_cons rr | have hzz:=aq.inv_cons rr
  clear rr
  obtain⟨_,_,rfl,r1,rr⟩:=hzz
  cases rr
  cases r1
  obtain⟨u,rfl,t',rfl⟩:=aq.one rs
  exact PySem.SC.startswith ⟨.bl _,H,I,rfl,k _ H (VQ.now sm (.bl _) q)⟩
 ·exact q.elim
theorem jE{K:AA}{ρ:List Addr}{H:Hp}:∀xs:List Str,Reps K ρ H (xs.map D.str) (xs.map V.str)
 | []=>.nil
 | x::xs=>.cons (.str x) (jE xs)
theorem kL{D:Addr}{vs:List Value}{n:Nat}{Q:Value->Shared->Prop}(ho:s.heap.get? D=some (seqObj "list" vs.toArray n))(h2:vs.length<2)
  (h:∀h' c,(∀b o,b≠D->s.heap.get? b=some o->h'.get? b=some o)->h'.get? D=some (seqObj "list" vs.toArray c)->Q .none { s with heap:=h' }):wpAny (model prog w) A (call (.builtin "list.sort") [.ref D]) Q E s:=by
 have few:vs.length<=sizeLine:=by rw[ABr];lia
 refine ABB slot_list_sort (⟨_,ho,rfl⟩) entry_list_sort ?_ (args_list_sort (.ref D))
 rw[list_sort_plain]
 refine AA0 (listItems_at ho rfl (AA0 (listUpdate_at ho rfl ?_ (by rw[AA7];exact few) (AAZ _))))
 obtain⟨e1,ho1⟩:∃e1,(s.heap.update D (ABi λ_=>(#[]:Array Value))).get? D=some (seqObj "list" #[] e1):=⟨_,ACm ho λ_=>#[]⟩
 refine AA0 (seqEpoch_at ho1 rfl (AA0 (wpAny_newTuple (AA0 (wpAny_newList (ABE ?_) (AAZ _))) few)))
 dsimp only
 have hv2:vs.toArray.size<2:=by rw[AA7];exact h2
 rw[if_pos hv2,if_pos hv2]
 refine AA0 (AAD ?_)
 rw[StateT.run_pure]
 refine AA0 (AAD ?_)
 dsimp only
 generalize hg3:((s.heap.update D (ABi λ_=>(#[]:Array Value))).push (seqObj "tuple" vs.toArray 0)).push (seqObj "list" #[] 0)=g3
 have ho3:g3.get? D=some (seqObj "list" #[] e1):=by rw[<-hg3];exact AA3 _ (AA3 _ ho1)
 have k3:∀b o,b≠D->s.heap.get? b=some o->g3.get? b=some o:=λb o hb q=>by
  rw[<-hg3]
  refine AA3 _ (AA3 _ ?_)
  rw[ABm _ _ _ _ hb]
  exact q
 refine AA0 (seqEpoch_at ho3 rfl ?_)
 have eo:∀us:List Value,us.length<2->(us.toArray.zip us.toArray).map (·.2)=us.toArray:=λus hu=>by
  match us,hu with
  | [],_=>simp
  | [v],_=>simp
  | _::_::_,hu=>simp at hu;lia
 have eout:(arrOf (SortSt.mk' general' (vs.toArray.zip vs.toArray) #[] 7 none)).map (·.2)=vs.toArray:=eo vs h2
 rw[eout]
 refine AA0 (listUpdate_at ho3 rfl ?_ (AAZ _) (by rw[AA7];exact Nat.le_succ_of_le few))
 simp only[show failedOf (SortSt.mk' general' (vs.toArray.zip vs.toArray) #[] 7 none)=none from rfl,bne_self_eq_false,AAU,if_false]
 obtain⟨c2,hc2⟩:∃c2,(g3.update D (ABi λ_=>vs.toArray)).get? D=some (seqObj "list" vs.toArray c2):=⟨_,ACm ho3 λ_=>vs.toArray⟩
 refine AAD ⟨_,rfl,h _ c2 (λb o hb q=>?_) hc2⟩
 rw[ABm _ _ _ _ hb]
 exact k3 b o hb q
theorem ug{k:Nat}{D:Addr}{xs:List L2.D}{ws:List V}{its:List Value}{R:VK}{h1:Heap}{tk n:Nat}{m:Str->Option Value}{A:Around}{E:Value->Shared->Prop}(hr:Room k X.A)(hA:A.units<=X.A.units+4)(I:Inv X pins σ H s)(sm:Sim X.K ρ M H)(so:SrtG M xs)(r:Reps X.K ρ H xs ws)(rr:aq ws its)
  (hn:s.heap.Ns X.env.locals m) (hn1:h1.Ns X.env.locals m) (kp1:∀b u,b≠X.env.locals->s.heap.get? b=some u->h1.get? b=some u) (hD:s.heap.get? D=none) (hne:D≠X.env.locals) (ho:h1.get? D=some (seqObj "list" its.toArray n))
  (kk:∀v H',((∀Q:DK,(∀ys,ys.Perm xs->nv M ys->Q (.ref M.length) (M++[.lst ys]))->VQ X.K ρ H Q v H'))->R v H') :
  wpAny (model X.prog X.w) A (call (.builtin "list.sort") [.ref D]) (λ_ s'=>EP X pins σ R (.ref D) s') E { s with heap:=h1,toks:=tk }:=by
 have lw:=r.length
 have li:=rr.length
 have l64:=so.len
 have hH:H D=none:=HOk.none I.hok hD
 have neD:∀b u,s.heap.get? b=some u->b≠D:=λb u e q=>by subst q;rw[hD]at e;cases e
 by_cases h2:its.length<2
 ·refine kL ho h2 λh' c kp' ho'=>?_
  have hn':h'.Ns X.env.locals m:=by
   obtain⟨o,es,ep,e,az⟩:=hn1
   exact⟨o,es,ep,kp' _ _ (AAm hne) e,az⟩
  refine⟨.ref D,_,I.laidF (t':=tk) (o:=.lst ws) (λb u hb e=>kp' b u (neD b u e) (kp1 b u hb e)) hn hn' hD hH ⟨by rw[ABr];lia,its,c,rr,ho'⟩,rfl,kk _ _ λQ hQ=>VQ.laidL sm .refl r hH (hQ xs (List.Perm.refl _) ?_)⟩
  unfold nv
  match xs,(show xs.length<2 by lia) with
  | [],_=>exact AD3
  | [x],_=>exact List.pairwise_singleton _ _
  | _::_::_,hx=>simp at hx;lia
 ·have h2':2<=its.length:=by lia
  have mem:∀a o,(a,o)∈Att.ledger h1 X.env.locals D↔a≠X.env.locals/\a≠D/\h1.get? a=some o:=λa o=>Att.mem_ledger
  have U:UpdF D (seqObj "list" its.toArray n) ([]++(D,seqObj "list" its.toArray n)::Att.ledger h1 X.env.locals D) λo'=>(D,o')::Att.ledger h1 X.env.locals D:=UpdF.head λp hp=>((mem p.1 p.2).mp hp).2.1
  refine kat_lsort (s:={ s with heap:=h1,toks:=tk }) (vs:=its) (Att.fr_all hn1) (Att.news_ledger hne ho) U rfl h2' (by lia) λe1 h' F' N'=>?_
  have kp:∀b u,b≠X.env.locals->s.heap.get? b=some u->h'.get? b=some u:=λb u hb e=>(N' (b,u) (AAA _ ((mem b u).mpr ⟨hb,neD b u e,kp1 b u hb e⟩))).1
  have I':Inv X pins σ H { s with heap:=h',toks:=tk }:=I.keptF (t':=tk) kp hn F'.ns
  have hu:A.in1.units+eqN<cLine:=by
   have:=hr.un
   have:eqN=30:=rfl
   show A.units+1+eqN<cLine
   lia
  refine AAo (jz I' sm so r rr h2' hu) (λκ s' hk=>?_) λ_ _ x=>x
  obtain⟨rfl,hask⟩:=hk
  refine Srt.wp_run (n:=its.length) (c:=λi j=>if i<xs.length then(if j<xs.length then ltD M eqN (xs.getD i default) (xs.getD j default)else true)else false) (λi j C hi hj hc=>?_) _ (Srt.sort_bd (by lia)).1 ?_
  ·refine hask i j C hi hj ?_
   rw[if_pos (by lia),if_pos (by lia)]at hc
   exact hc
  ·have hent:=Srt.All.run (c:=λi j=>if i<xs.length then(if j<xs.length then ltD M eqN (xs.getD i default) (xs.getD j default)else true)else false) _ (Srt.sort_bd (n:=its.length) (by lia)).2
   obtain⟨o1,o2,o3⟩:=xv so
   have hsl:=Srt.sort_list xs (by lia) o1 o2 o3
   try dsimp only at hsl
   rw[show xs.length=its.length by lia]at hsl hent ⊢
   generalize Srt.run _ (ACy its.length)=p at hent hsl ⊢
   have hi:∀i∈p.toList,i<xs.length:=λi h=>by
    have:=hent.mem_iff.mp h
    rw[AB6]at this
    lia
   refine KasFin.intro F' N' (UpdF.head λq hq=>((mem q.1 q.2).mp hq).2.1) λh2 c F2 N2=>?_
   have r':=r.perm p.toList hi
   have rr':=rr.perm p.toList (λi h=>by have:=hi i h;lia)
   refine⟨.ref D,_,I.laidF (t':=tk) (o:=.lst (p.toList.map λi=>ws.getD i .non)) (λb u hb e=>(N2 (b,u) (AAA _ ((mem b u).mpr ⟨hb,neD b u e,kp1 b u hb e⟩))).1) hn F2.ns hD hH ⟨?_,_,c,rr',(N2 _ AAI).1⟩,rfl,
    kk _ _ λQ hQ=>VQ.laidL sm .refl r' hH (hQ _ hsl.1 hsl.2)⟩
   rw[AA6]
   have:=hsl.1.length_eq
   rw[AA6]at this
   rw[ABr]
   lia
section
variable{K:AA}{ρ:List Addr}{H:Hp}{M:Mem}
theorem Sim.laidM(S:Sim K ρ M H)(hp:H p=none)(ok:nz K (ρ++[p]) (upd H p o) p mo):Sim K (ρ++[p]) (M++[mo]) (upd H p o):=by
 have g:Grow K ρ H (ρ++[p]) (upd H p o):=Grow.laidR hp
 have old:∀(n:Nat),ρ[n]?=some p->isK M[n]?:=λn e=>by
  rcases S.tracked e with⟨o,q⟩ | q
  ·rw[hp]at q;cases q
  ·exact q
 refine⟨λn m a hnm e1 e2=>?_,by rw[AAL,AAL,S.len];rfl,λn a mo' e1 e2=>?_⟩
 ·rcases ay e1 with f1 | ⟨f1,g1⟩
  ·rcases ay e2 with f2 | ⟨f2,g2⟩
   ·exact(S.nd n m a hnm f1 f2).elim (λz=>.inl z.more) λz=>.inr z.more
   ·subst g2
    exact .inl (old n f1).more
  ·rcases ay e2 with f2 | ⟨f2,g2⟩
   ·subst g1
    exact .inr (old m f2).more
   ·exact absurd (f1.trans f2.symm) hnm
 ·rcases ay e1 with f1 | ⟨f1,g1⟩
  ·have hn:n<M.length:=by rw[<-S.len];exact(AA4.mp f1).1
   rw[AAC hn]at e2
   exact(S.obj n a mo' f1 e2).grow g (S.keeps hp f1 e2)
  ·subst g1 f1
   rw[S.len,AAR (AA8 _),ACX]at e2
   simp at e2
   subst e2
   exact ok
theorem SqT.writtenD(hp:H p=some (.dK kv))(h:SqT K H a xs):SqT K (upd H p o) a xs:=by
 rcases h with h | h
 ·rcases h with h | ⟨ob,h⟩
  ·exact .inl (.inl (by rw[ag (oM h hp (by intro z;cases z))];exact h))
  ·exact .inl (.inr ⟨ob,by rw[ag (oM h hp (by intro z;cases z))];exact h⟩)
 ·exact .inr h
theorem Sim.writeD(S:Sim K ρ M H)(e1:ρ[n]?=some a)(hM:M[n]?=some (.dct kvs))(hH:H a=some (.dK kv))(r:Reps K ρ H (kvs'.map (·.2)) vs') :
  Sim K ρ (M.set n (.dct kvs')) (upd H a (.dK (fW (kvs'.map (·.1)) vs')))/\Grow K ρ H ρ (upd H a (.dK (fW (kvs'.map (·.1)) vs'))):=by
 have g:Grow K ρ H ρ (upd H a (.dK (fW (kvs'.map (·.1)) vs'))):=⟨ABv,λ_ _ h=>SqT.writtenD hH h⟩
 have hk:∀m,m≠n->(M.set n (.dct kvs'))[m]?=M[m]?:=λm hm=>AAt (AAm hm)
 have notK:¬isK M[n]?:=λ⟨_,z⟩=>by rw[hM]at z;cases z
 refine⟨⟨λm m' b hne f1 f2=>?_,by rw[ABu];exact S.len,λm b mo f1 f2=>?_⟩,g⟩
 ·have q:=S.nd m m' b hne f1 f2
  by_cases h1:m=n
  ·subst h1
   rw[hk m' (AAm hne)]
   exact .inr (q.resolve_left notK)
  ·rw[hk m h1]
   by_cases h2:m'=n
   ·subst h2
    exact .inl (q.resolve_right notK)
   ·rw[hk m' h2]
    exact q
 by_cases hm:m=n
 ·subst hm
  have hb:b=a:=AAN (f1.symm.trans e1)
  subst hb
  rw[AAg (by rw[<-S.len];exact(AA4.mp e1).1)]at f2
  cases f2
  exact⟨vs',aL,r.grow g⟩
 ·rw[hk m hm]at f2
  by_cases hb:b=a
  ·subst hb
   have q':=(S.nd m n b hm f1 e1).resolve_right notK
   rw[f2]at q'
   exact(S.obj m b mo f1 f2).grow g (.inr q')
  ·exact(S.obj m b mo f1 f2).grow g (.inl (ag hb))
noncomputable def iL(kvs:List (Str×D))(k:Str):Option D:=(kvs.find? λp=>decide (p.1=k)).map (·.2)
noncomputable def mI(kvs:List (Str×D))(k:Str)(d:D):List (Str×D):=if (kvs.any λp=>decide (p.1=k))=true then kvs.map (λp=>if p.1=k then(p.1,d)else p)else kvs++[(k,d)]
theorem vL(a b:Str):decide ((ABG a:Key)=ABG b)=decide (a=b):=tL a b
theorem lx:∀{kvs:List (Str×D)}{vs:List V},Reps K ρ H (kvs.map (·.2)) vs->iL kvs k=some d->∃v,mC (fW (kvs.map (·.1)) vs) (ABG k)=some v/\Rep K ρ H d v
 | [],_,_,e=>by simp[iL]at e
 | (k',d')::kvs,_,.cons h t,e=>by
  by_cases q:k'=k
  ·subst q
   have:d'=d:=by simpa [iL]using e
   subst this
   exact⟨_,by simp[fW,mC],h⟩
  ·have e':iL kvs k=some d:=by simpa [iL,AB8,q]using e
   obtain⟨v,h1,h2⟩:=lx t e'
   refine⟨v,?_,h2⟩
   have:¬(ABG k':Key)=ABG k:=λz=>q (Sum.inr.inj z)
   simpa [fW,mC,AB8,this]using h1
theorem mr:∀{kvs:List (Str×D)}{vs:List V},Reps K ρ H (kvs.map (·.2)) vs->((fW (kvs.map (·.1)) vs).any λkv=>decide (kv.1=ABG k))=kvs.any λp=>decide (p.1=k)
 | [],_,_=>rfl
 | (k',d')::kvs,_,.cons h t=>by
  have ih:=mr (k:=k) t
  show (decide ((ABG k':Key)=ABG k)||(fW (kvs.map (·.1)) _).any _)=(decide (k'=k)||kvs.any _)
  rw[ih,vL]
theorem lS(hd:Rep K ρ H d v):∀{kvs:List (Str×D)}{vs:List V},Reps K ρ H (kvs.map (·.2)) vs->∃vs',(fW (kvs.map (·.1)) vs).map (λkv=>if kv.1=ABG k then(kv.1,v)else kv)=fW ((kvs.map λp=>if p.1=k then(p.1,d)else p).map (·.1)) vs'/\Reps K ρ H ((kvs.map λp=>if p.1=k then(p.1,d)else p).map (·.2)) vs'
 | [],_,.nil=>⟨[],rfl,.nil⟩
 | (k',d')::kvs,_,.cons (v:=v') h t=>by
  obtain⟨vs',e,r⟩:=lS (k:=k) hd t
  by_cases q:k'=k
  ·subst q
   refine⟨v::vs',?_,?_⟩
   ·simp only[AAQ,if_true,fW,ABK]at e ⊢
    rw[e]
   ·simp only[AAQ,if_true]
    exact .cons hd r
  ·have q':¬(ABG k':Key)=ABG k:=λz=>q (Sum.inr.inj z)
   refine⟨v'::vs',?_,?_⟩
   ·simp only[AAQ,if_neg q,if_neg q',fW,ABK]at e ⊢
    rw[e]
   ·simp only[AAQ,if_neg q]
    exact .cons h r
theorem jA:∀{kvs:List (Str×D)}{vs:List V},Reps K ρ H (kvs.map (·.2)) vs->fW (kvs.map (·.1)) vs++[(ABG k,v)]=fW (kvs.map (·.1)++[k]) (vs++[v])
 | [],_,.nil=>rfl
 | (k',d')::kvs,_,.cons h t=>by
  have:=jA (k:=k) (v:=v) t
  simp only[AAQ,fW,ABK,ABT]at this ⊢
  rw[this]
theorem uo(hd:Rep K ρ H d v)(r:Reps K ρ H (kvs.map (·.2)) vs):∃vs',nq (fW (kvs.map (·.1)) vs) (ABG k) v=fW ((mI kvs k d).map (·.1)) vs'/\Reps K ρ H ((mI kvs k d).map (·.2)) vs':=by
 unfold nq mI
 rw[mr r]
 by_cases q:(kvs.any λp=>decide (p.1=k))=true
 ·rw[if_pos q,if_pos q]
  exact lS hd r
 ·rw[if_neg q,if_neg q]
  refine⟨vs++[v],?_,?_⟩
  ·rw[jA r,ABx]
   rfl
  ·rw[ABx]
   exact r.append (.cons hd .nil)
end
section
variable{X:Cx}{o i value:Expr}{td ty tv:DTE}{pos pos':Pos}
def qc:DTE:=λ_ M Q=>Q (.ref M.length) (M++[.dct []])
theorem yZ:DE X (.Dict [] [] pos) qc:=by
 refine PE.imp rq ?_
 rintro σ H R ⟨S,M,ρ,Q,s,sr,q,k⟩
 refine λp hp=>?_
 have q':Q (.ref M.length) (M++[.dct []]):=q
 exact k _ _ ⟨.ref M.length,M++[.dct []],ρ++[p],s.laidM (mo:=.dct []) hp ⟨[],aL,.nil⟩,Grow.laidR hp,.ref s.last,q'⟩
def qg(td ty:DTE):DTE:=λS M Q=>td S M λx M1=>ty S M1 λy M2=>match x,y with
 | .ref n,.str k=>∃kvs d,M2[n]?=some (.dct kvs)/\iL kvs k=some d/\Q d M2
 | _,_=>False
theorem za(hu:X.A.units+1<cLine)(ho:DE X o td)(hi:DE X i ty)(hs:NoSl i):DE X (.Subscript o i pos) (qg td ty):=by
 refine PE.imp (uC hu ho hi hs) ?_
 rintro σ H R ⟨S,M,ρ,Q,s,sr,q,k⟩
 refine⟨S,M,ρ,_,s,sr,q,?_⟩
 rintro v H1 ⟨d,M1,ρ1,s1,g1,r1,q1⟩
 refine⟨S,M1,ρ1,_,s1,sr.grow g1,q1,?_⟩
 rintro u H2 ⟨e,M2,ρ2,s2,g2,r2,q2⟩
 try dsimp only at q2
 split at q2
 ·obtain⟨kvs,d,hM,hv,q3⟩:=q2
  obtain⟨_,rfl,hn⟩:=Rep.inv_ref r1
  cases r2
  obtain⟨vs,hH,rr⟩:=s2.obj _ _ _ (aA g2.pre hn) hM
  obtain⟨w,e1,rw'⟩:=lx rr hv
  exact⟨_,w,rfl,.inl ⟨_,ABG _,.inl hH,rfl,e1.symm⟩,k _ _ ⟨d,M2,ρ2,s2,g1.trans g2,rw',q3⟩⟩
 ·exact q2.elim
def qf(td ty tv:DTE):DTS:=λE S M=>tv S M λv M1=>td S M1 λx M2=>ty S M2 λy M3=>match x,y with
 | .ref n,.str k=>∃kvs,M3[n]?=some (.dct kvs)/\kvs.length<sizeLine/\E.nx S (M3.set n (.dct (mI kvs k v)))
 | _,_=>False
theorem vZ(hu:X.A.units+1<cLine)(ho:DE X o td)(hi:DE X i ty)(hv:DE X value tv)(hs:swapsWith value (some (.Subscript o i pos')) pos.line X.env=pure false):DS X (.Assign [.Subscript o i pos'] value pos) (qf td ty tv):=by
 refine PS.imp (ux hu ho hi hv hs) ?_
 rintro E σ H ⟨S,M,ρ,F,s,sr,q,k⟩
 refine⟨S,M,ρ,_,s,sr,q,?_⟩
 rintro v H1 ⟨d,M1,ρ1,s1,g1,r1,q1⟩
 refine⟨S,M1,ρ1,_,s1,sr.grow g1,q1,?_⟩
 rintro x H2 ⟨e,M2,ρ2,s2,g2,r2,q2⟩
 refine⟨S,M2,ρ2,_,s2,(sr.grow g1).grow g2,q2,?_⟩
 rintro y H3 ⟨f,M3,ρ3,s3,g3,r3,q3⟩
 try dsimp only at q3
 split at q3
 ·obtain⟨kvs,hM,hl,q4⟩:=q3
  obtain⟨_,rfl,hn⟩:=Rep.inv_ref r2
  cases r3
  obtain⟨vs,hH,rr⟩:=s3.obj _ _ _ (aA g3.pre hn) hM
  obtain⟨vs',e1,rr'⟩:=uo ((r1.grow g2).grow g3) rr
  obtain⟨w1,w2⟩:=s3.writeD (aA g3.pre hn) hM hH rr'
  refine⟨_,_,rfl,.inl ⟨_,ABG _,hH,rfl,?_,by rw[e1]⟩,k.nx σ _ (SQ.trans ((g1.trans g2).trans g3) ⟨S,_,ρ3,w1,w2,(((sr.grow g1).grow g2).grow g3).grow w2,q4⟩)⟩
  have:=rr.length
  rw[AA6]at this
  rw[fW,AA6,List.length_zip,AA6]
  lia
 ·exact q3.elim
def aV:DRA:=λds M Q=>match ds with
 | [.ref n]=>∃xs,(ah M n xs\/∃kvs,M[n]?=some (.dct kvs)/\xs=kvs.map λp=>.str p.1)/\SrtOk M xs/\∀ys,ys.Perm xs->nv M ys->Q (.ref M.length) (M++[.lst ys])
 | _=>False
theorem pq:∀{kvs:List (Str×D)}{vs:List V}{us:List (Key×Value)},kvs.length=vs.length->KV (fW (kvs.map (·.1)) vs) us->us.map (·.1)=kvs.map (λp=>(ABG p.1:Key))
 | [],_,_,_,h=>by cases h;rfl
 | _::_,[],_,e,_=>by simp at e
 | p::kvs,v::vs,_,e,h=>by
  have h':KV ((ABG p.1,v)::fW (kvs.map (·.1)) vs) _:=h
  cases h' with
  | cons a t =>
   rw[AAQ,AAQ,<-a.1,pq (by simpa using e) t]
theorem iR:∀(ks:List Str) (vs:List Value),vs.length=ks.length->(∀(j:Nat) (v:Value),vs[j]?=some v->∃k,ks[j]?=some k/\kR (ABG k) v=true)->aq (ks.map V.str) vs
 | [],[],_,_=>.nil
 | [],_::_,e,_=>by simp at e
 | _::_,[],e,_=>by simp at e
 | k::ks,v::vs,e,h=>by
  obtain⟨k',e1,e2⟩:=h 0 v rfl
  have:k=k':=by simpa using e1
  subst this
  rcases aC e2 with⟨i,t,z,_⟩|⟨x,t,z,rfl⟩
  ·cases z
  ·cases z
   exact .cons ⟨t,rfl⟩ (iR ks vs (by simpa using e) λj u hj=>by simpa using h (j+1) u (by simpa using hj))
theorem nh{k:Nat}(hr:Room k X.A)(hc:X.calm=true):gl X (.builtin "sorted") aV:=by
 rintro pins s σ H vs us R I rv ⟨ds,M,ρ,Q,sm,rs,q,kk⟩
 unfold aV at q
 split at q
 ·obtain⟨xs,hL | ⟨kvs,hM,rfl⟩,so,q⟩:=q
  ·exact qk hr pins s σ H vs us R I rv ⟨_,M,ρ,Q,sm,rs,⟨xs,hL,so.g,q⟩,kk⟩
  ·first | have hzz:=Reps.inv_cons rs | have hzz:=aq.inv_cons rs
   clear rs
   obtain⟨_,_,rfl,r1,rs⟩:=hzz
   cases rs
   obtain⟨u,rfl,e1⟩:=aq.one rv
   obtain⟨a,rfl,e⟩:=Rep.inv_ref r1
   cases e1
   obtain⟨ws,hH,r⟩:=sm.obj _ _ _ e hM
   obtain⟨z1,z2,pvs,rel,dd⟩:=(show br X.prog X.w H s.heap a (.dK _)from I.hok a _ hH)
   obtain⟨ep,hat⟩:=dd.dictAt
   obtain⟨m,hn,hm⟩:=I.loc
   have hne:a≠X.env.locals:=ac hH I.free
   obtain⟨oa,_,hoa,_⟩:=id hat
   have lk:kvs.length=ws.length:=by have:=r.length;rwa [AA6]at this
   have kk':=pq lk rel
   have lp:pvs.length=kvs.length:=by have:=congrArg AD4 kk';simpa using this
   have mem:∀b o,(b,o)∈[]++(a,oa)::Att.ledger s.heap X.env.locals a↔b≠X.env.locals/\s.heap.get? b=some o:=λb o=>by
    rw[AB2,AA9,Att.mem_ledger]
    constructor
    ·rintro(h | ⟨h1,_,h3⟩)
     ·cases h;exact⟨hne,hoa⟩
     ·exact⟨h1,h3⟩
    ·rintro⟨h1,h2⟩
     by_cases hal:b=a
     ·subst hal
      rw[hoa]at h2;cases h2
      exact .inl rfl
     ·exact .inr ⟨h1,hal,h2⟩
   refine kdu_sorted (kdl_dict (knd:=bb X.prog X.w) (kvs:=pvs) (ep:=ep) z2) (I.ok.hd hc) (Att.fr_all hn) (Att.news_ledger hne hoa) hat (by rw[lp,ABr];have:=so.len;rw[AA6]at this;lia) λD h' tk vs F' N' lt hl hP=>?_
   have kp:∀b u,b≠X.env.locals->s.heap.get? b=some u->h'.get? b=some u:=λb u hb e=>(N' (b,u) (AAA _ ((mem b u).mpr ⟨hb,e⟩))).1
   have hDL:D≠X.env.locals:=(N' _ AAI).2.1
   have hD:s.heap.get? D=none:=by
    cases q:s.heap.get? D with
    | none=>rfl
    | some o=>exact absurd (lt (D,o) ((mem D o).mpr ⟨hDL,q⟩)) (AAh _)
   have rvs:aq ((kvs.map (·.1)).map V.str) vs:=by
    refine iR _ _ (by rw[AA6];lia) λj v hj=>?_
    obtain⟨key,x,e1,e2⟩:=hP j v hj
    have e3:(pvs.map (·.1))[j]?=some key:=by rw[AAP,e1];rfl
    rw[kk',AAP]at e3
    cases e4:kvs[j]? with
    | none=>rw[e4]at e3;cases e3
    | some p =>
     rw[e4]at e3
     have:key=ABG p.1:=(AAN e3).symm
     subst this
     exact⟨p.1,by rw[AAP,e4];rfl,e2⟩
   have rps:Reps X.K ρ H (kvs.map λp=>L2.D.str p.1) ((kvs.map (·.1)).map V.str):=by
    have:=jE (K:=X.K) (ρ:=ρ) (H:=H) (kvs.map (·.1))
    rw[AAV]at this
    exact this
   exact ug (n:=0) hr (by show X.A.units+1<=X.A.units+4;lia) I sm so.g rps rvs hn F'.ns kp hD hDL (N' _ AAI).1 λv H' x=>kk v H' (x Q q)
 ·exact q.elim
end
structure HGs(X:Cx)(es:List Expr)(t:wv):Prop where
 ok:DGs X es t
theorem vv:HGs X [] gj:=⟨we⟩
theorem rX(h1:HG X e g)(h2:HGs X es u)(hs:(assignEach (e::es) X.env).map (·.2)=assign e X.env::(assignEach es X.env).map (·.2):=by kernel_rfl):HGs X (e::es) (bp g u):=⟨sF h1.ok h2.ok hs⟩
theorem xY(h:HGs X es u)(hc:X.calm=true:=by kernel_rfl)(hn:(assignEach es X.env).length=n:=by kernel_rfl)(hst:(assignEach es X.env).findIdx? (·.1)=none:=by kernel_rfl):HG X (.Tuple es j pos) (gh n u):=⟨yU h.ok hc hn hst⟩
theorem xZ(ho:HE X o to)(hi:HE X i ti)
  (ha:∀v,assign (.Subscript o i pos) X.env v=(do
   let ov <-holding [v] (eval o X.env)
   let iv <-holding [v,ov] (eval i X.env)
   standAt pos
   holding [v,ov,iv] (setItem ov iv v)
   release [v,ov,iv] []):=by intro _;kernel_rfl):HG X (.Subscript o i pos) (sG to ti):=⟨yV ho.ok hi.ok ha⟩
theorem tK(he:HE X e te)(hg:HG X tg g)(hs:swapsWithSole [tg] e pos.line X.env=pure false:=by kernel_rfl)(hw:swappedStores [tg] e X.env=pure none:=by kernel_rfl)
  (h1:(assignEach [tg] X.env).map (·.2)=[assign tg X.env]:=by kernel_rfl):HS X (.Assign [tg] e pos) (wB te g):=⟨yQ he.ok hg.ok hs hw h1⟩
theorem xW(hm:X.mg "zip" = none)(ha:HA X [a,b] t)(hg:X.env.kindOf "zip" = some .globalImplicit:=by kernel_rfl)(hs:starEach [a,b] X.env=[(false,eval a X.env),(false,eval b X.env)]:=by kernel_rfl)(hs2:starEach [b] X.env=[(false,eval b X.env)]:=by kernel_rfl) :
  HI X (.Tuple es x1 q) (.Call (.Name "zip" p) [a,b] [] pos) (dZip t):=⟨yS hm ha.ok hg hs hs2⟩
theorem vP:HOp X (binaryOp .Add) ar:=⟨uQ⟩
theorem sk:HC X (.type "tuple") cR:=⟨sK⟩
theorem pL(hr:Room k X.A)(hc:X.calm=true:=by kernel_rfl):HC X (.builtin "sorted") aV:=⟨nh hr hc⟩
theorem pE:HMs X "startswith" fo:=⟨_,PySem.F.slot_str_startswith,PySem.F.type_str_startswith,oN⟩
theorem pG:HMl X "extend" fq:=⟨_,PySem.F.slot_list_extend,PySem.F.type_list_extend,mP⟩
theorem yi:HE X (.Dict [] [] pos) qc:=⟨yZ⟩
theorem lN{X:Cx}{k:Nat}(hr:Room k X.A):X.A.units+1<cLine:=by have:=hr.un;lia
theorem yj(hr:Room k X.A)(ho:HE X o to)(hi:HE X i ti)(hs:NoSl i:=by intro _ _;kernel_rfl):HE X (.Subscript o i pos) (qg to ti):=⟨za (lN hr) ho.ok hi.ok hs⟩
theorem pj(hr:Room k X.A)(ho:HE X o to)(hi:HE X i ti)(hv:HE X e te)(hs:swapsWith e (some (.Subscript o i pos')) pos.line X.env=pure false:=by kernel_rfl):HS X (.Assign [.Subscript o i pos'] e pos) (qf to ti te):=⟨vZ (lN hr) ho.ok hi.ok hv.ok hs⟩
theorem Cal.never{P:Program}{w:World}{K:AA}{mg:Str->Option Value}{base:Heap}{k:Nat}{x:Str}{st:Stmt}{ps:List Str}{Pr:DSp}(F:dF K mg x st ps)(h:∀ds M R,¬Pr ds M R):Cal P w K mg base k x ps Pr:=by
 obtain⟨f,fd,F1,hm,hb⟩:=F
 refine⟨f,fd,⟨λvs H Q E q=>?_,λA outer s H args us vs Q E _ _ _ _ q=>?_⟩,hm,F1.kp,hb⟩
 ·obtain⟨ds,M,ρ,R,_,_,q,_⟩:=q
  exact(h ds M R q).elim
 ·obtain⟨ds,M,ρ,R,_,_,q,_⟩:=q
  exact(h ds M R q).elim
def wN(nt:Nat)(js:List Nat)(wi:TI)(g:TG)(tt:TT)(te:TE)(gN:TG):TS:=λD σ H=>tLC nt js wi g tt te σ H λv H1=>gN v σ H1 D.nx
theorem rj(B:BlkSc X N' nt js scope)(hc:X.calm=true)(hi:PI X tg iter wi)
  (hg:∀cl s0 H0 ex,PG (blk X N' scope cl s0 H0 ex) tg g) (ht:∀cl s0 H0 ex,PTs (blk X N' scope cl s0 H0 ex) ifs tt) (he:∀cl s0 H0 ex,PE (blk X N' scope cl s0 H0 ex) elt te) (hn:PG X (.Name x pos') gN)
  (hs:∀x,foldedSetIterable iter X.env x=pure x) (hsw:swapsWith (.ListComp elt [⟨tg,iter,ifs,0⟩] scope pos) (some (.Name x pos')) pos2.line X.env=pure true) :
  PS X (.Assign [.Name x pos'] (.ListComp elt [⟨tg,iter,ifs,0⟩] scope pos) pos2) (wN nt js wi g tt te gN):=by
 intro pins s σ H Dn I h
 rw[exec_Assign_Name_used _ _ _ _ hsw]
 refine AA0 (wpAny_standAt ?_)
 obtain⟨cl,ecl,hcl1,hcl2⟩:=eu (scope:=scope) (env:=X.env) λp hp hf=>I.ok.has p.1 (B.free p hp hf)
 refine AA0 (show wpAny (model X.prog X.w) X.A (comprehension (.ListComp elt [⟨tg,iter,ifs,0⟩] scope pos) scope X.env _ (newList []) false (eval iter X.env) (some (assign (.Name x pos') X.env)) >>= λ_=>pure ()) _ _ _ from AA0 ?_)
 refine wpAny_comprehension_free (use:=some (assign (.Name x pos') X.env)) (Q:=λ_ s''=>wpAny (model X.prog X.w) X.A (pure ()) (λ_ s3=>wpAny (model X.prog X.w) X.A (pure Flow.next) (SP X pins Dn) X.xe s3) X.xe s'') rfl hs ecl B.kind B.loc ?_
 refine thn (hi pins s σ H _ I h) λv s1 h1=>thn h1 λitv s2 h2=>?_
 obtain⟨it,fp,tn,J,H2,e,I2,T,st2,f2,W,⟨m0,w0⟩,turn⟩:=h2
 subst e
 refine AAs (wpAny_newFunctionEnv B.nocell (by intro y hy;simp at hy) (λh1 hns1 hsb1=>?_) B.kind)
 have hfs:∀b∈fp,b<s2.heap.objs.size:=λb hb=>by
  obtain⟨o,e,_⟩:=T.obj _ _ st2 b hb
  exact AAB e
 have hC:(s2.heap.push (bz [] 0)).objs.size=s2.heap.objs.size+1:=AB7 ..
 have old:∀b o,(s2.heap.push (bz [] 0)).get? b=some o->h1.get? b=some o:=λb o e=>(hsb1.2 b (AAK (AAB e))).trans (AA3 _ e)
 have I3:=I2.blkStart (tk:=s2.toks+([]:List (Str×Value)).length) B hcl1 hcl2 f2 hfs old hns1
 have st3:tn 0 h1:=T.keep _ _ _ st2 λb _ o e=>old b o (AA3 _ e)
 have hDf:s2.heap.objs.size∉fp:=λz=>AAh _ (hfs _ z)
 have hDs:s2.heap.objs.size∉frs X.stack:=λz=>by
  rcases AA9.mp (I2.stkSub _ z)with q | q
  ·exact absurd I2.lt (by rw[<-q];exact AAh _)
  ·exact I2.nofs (AA8 _) q
 have hDC:s2.heap.objs.size≠(s2.heap.push (bz [] 0)).objs.size:=by rw[hC];exact AAK (AC7 _)
 have ltc:∀z c,cl.lookup z=some c->c<s2.heap.objs.size:=λz c e=>by
  obtain⟨v,q⟩:=I2.cell z c (hcl1 z c e)
  exact q.lt
 have hstat:∀b∈fp,b≠(s2.heap.push (bz [] 0)).objs.size/\b∉frs X.stack/\∀x c,cl.lookup x=some c->c≠b:=λb hb=>by
  refine⟨by rw[hC];exact AAK (ABP (hfs b hb)),λz=>?_,λx c e=>(f2 b hb).2.2.2.2.1 x c (hcl1 x c e)⟩
  rcases AA9.mp (I2.stkSub b z)with q | q
  ·exact(f2 b hb).2.1 q
  ·exact(f2 b hb).2.2.1 q
 have leC:s2.heap.objs.size<=(s2.heap.push (bz [] 0)).objs.size:=by rw[hC];exact Nat.le_succ _
 have loop:codeAny (model X.prog X.w) X.A (.compLoop (.ListComp elt [⟨tg,iter,ifs,0⟩] scope pos) 0 (.ref it) (.ref s2.heap.objs.size) (compEnvC scope cl (s2.heap.push (bz [] 0)).objs.size X.env))
   (compPost (model X.prog X.w) X.A X.xe (some (assign (.Name x pos') X.env)) (λ_ s''=>wpAny (model X.prog X.w) X.A (pure ()) (λ_ s3=>wpAny (model X.prog X.w) X.A (pure Flow.next) (SP X pins Dn) X.xe s3) X.xe s'') (.ref s2.heap.objs.size) (s2.heap.push (bz [] 0)).objs.size) { s2 with heap:=h1,toks:=s2.toks+([]:List (Str×Value)).length }:=by
  refine pc (s0:={ s2 with heap:=s2.heap.push (bz [] 0) }) (H0:=H2) (N':=N') (Q:=λv H1=>gN v σ H1 Dn.nx) (Turn.at T hc) (hg _ _ _ _) (ht _ _ _ _) (he _ _ _ _) T hDf turn hstat hDC hDs (λx c e=>AAK (ltc x c e)) ?_ m0 I3 st3 (λb hb=>(f2 b hb).1) w0
  intro τ H' s' vs its k I4 rv hl q
  obtain⟨mm,hn4,_⟩:=id I4.loc
  obtain⟨oC,es,ep,eC,az⟩:=id hn4
  have I5:Inv X pins σ (upd H' s2.heap.objs.size (.lst vs)) s':=I2.blkEnd f2 I4 rv hl ⟨rfl,λ_ _=>rfl⟩
  have fC:upd H' s2.heap.objs.size (.lst vs) (s2.heap.push (bz [] 0)).objs.size=none:=by rw[ag (AAm hDC)];exact I4.free
  have fk:∀Hx:Hp,Hx (s2.heap.push (bz [] 0)).objs.size=none->iO X pins Hx (s2.heap.push (bz [] 0)).objs.size:=λHx hx=>I2.fpOk leC hx
  have dC:∀v,oC.data≠.cell v:=λv z=>by
   have:∃es ep,oC.data=.dict es ep:=by
    first
     | (obtain⟨d,_⟩:=az;exact⟨_,_,d⟩)
     | (obtain⟨_,d,_⟩:=az;exact⟨_,_,d⟩)
     | (obtain⟨_,_,d,_⟩:=az;exact⟨_,_,d⟩)
   obtain⟨_,_,d⟩:=this
   rw[d]at z;cases z
  have I6:Inv X (pins++[((s2.heap.push (bz [] 0)).objs.size,oC)]) σ (upd H' s2.heap.objs.size (.lst vs)) s':=I5.pins_of λp hp=>by
   rcases ABQ.mp hp with hp | hp
   ·exact I5.pin p (AAO _ hp)
   ·have:p=((s2.heap.push (bz [] 0)).objs.size,oC):=by simpa using hp
    subst this
    exact⟨eC,fC,(fk _ fC).2.1,(fk _ fC).2.2.1,dC⟩
  refine thn (hn _ s' σ _ (.ref s2.heap.objs.size) (.ref s2.heap.objs.size) _ I6 rfl q) ?_
  rintro _ s7 ⟨σ7,H7,I7,q7⟩
  obtain⟨p1,p2,_⟩:=I7.pin ((s2.heap.push (bz [] 0)).objs.size,oC) (AAO _ (AAO _ AAI))
  refine⟨mm,⟨oC,es,ep,p1,az⟩,λh' sb=>AAD (AAD ⟨σ7,H7,?_,q7⟩)⟩
  have I8:Inv X pins σ7 H7 s7:=I7.pins_of λp hp=>I7.pin p (AAO _ (AC0 _ hp))
  refine I8.turnedL (t':=s7.toks) (fp:=[(s2.heap.push (bz [] 0)).objs.size]) (λb hb=>?_) λb o hb e=>(sb.2 b (by simpa using hb)).trans e
  have:b=(s2.heap.push (bz [] 0)).objs.size:=by simpa using hb
  subst this
  exact fk H7 p2
 exact codeAny_compStart_list loop (T.self _ 0 _ _ _ st3 loop)
def fQ(nt:Nat)(js:List Nat)(di:DTI)(g:DTG)(tt:DTT)(te:DTE)(i:Nat):DTS:=λE S M=>dLC nt js di g tt te S M λd M1=>ao i d S M1 E.nx
theorem sD(B:BlkSc X N' nt js scope)(hc:X.calm=true)(hi:DI X tg iter di)
  (hg:∀cl s0 H0 ex,DG (blk X N' scope cl s0 H0 ex) tg g) (ht:∀cl s0 H0 ex,PTs (blk X N' scope cl s0 H0 ex) ifs (lowT X.K tt)) (he:∀cl s0 H0 ex,DE (blk X N' scope cl s0 H0 ex) elt te) (hn:DG X (.Name x pos') (ao i))
  (hs:∀x,foldedSetIterable iter X.env x=pure x) (hsw:swapsWith (.ListComp elt [⟨tg,iter,ifs,0⟩] scope pos) (some (.Name x pos')) pos2.line X.env=pure true) :
  DS X (.Assign [.Name x pos'] (.ListComp elt [⟨tg,iter,ifs,0⟩] scope pos) pos2) (fQ nt js di g tt te i) :=
 PS.imp (rj (g:=lowG X.K g) (tt:=lowT X.K tt) (te:=lowE X.K te) B hc hi (λcl s0 H0 ex=>hg cl s0 H0 ex) ht (λcl s0 H0 ex=>he cl s0 H0 ex) hn hs hsw) λE σ H ⟨S,M,ρ,F,s,sr,q,k⟩ =>
  kM σ H _ ⟨S,M,ρ,_,s,sr,q,λv H1 ⟨d,M1,ρ1,s1,g1,r1,q1⟩=>⟨d,S,M1,ρ1,_,s1,sr.grow g1,r1,q1,λσ' H' w=>k.nx σ' H' (SQ.trans g1 w)⟩⟩
theorem rU(hN:X.N.Nodup)(hi:HI X tg iter di)
  (hg:∀cl s0 H0 ex,HG (blk X N' scope cl s0 H0 ex) tg g) (ht:∀cl s0 H0 ex,HTs (blk X N' scope cl s0 H0 ex) ifs tt) (he:∀cl s0 H0 ex,HE (blk X N' scope cl s0 H0 ex) elt te) (B:fU X.env.scope.names X.N N' nt js scope=true:=by kernel_rfl) (hc:X.calm=true:=by kernel_rfl)
  (hs:∀x,foldedSetIterable iter X.env x=pure x:=by intro _;kernel_rfl) (hsw:swapsWith (.ListComp elt [⟨tg,iter,ifs,0⟩] scope pos) (some (.Name x pos')) pos2.line X.env=pure true:=by kernel_rfl)
  (hix:X.N[i]?=some x:=by kernel_rfl) (hx:uV X.env.scope x=true:=by kernel_rfl) (hf:X.fn x=true:=by kernel_rfl):HS X (.Assign [.Name x pos'] (.ListComp elt [⟨tg,iter,ifs,0⟩] scope pos) pos2) (fQ nt js di g tt te i) :=
 ⟨sD (BlkSc.chk B) hc hi.ok (λcl s0 H0 ex=>(hg cl s0 H0 ex).ok) (λcl s0 H0 ex=>(ht cl s0 H0 ex).ok) (λcl s0 H0 ex=>(he cl s0 H0 ex).ok) (kY hN hix (lT hx) (.inl hf)) hs hsw⟩
theorem at0:atI (a::r) 0=some a:=by
 have:=aG (xs:=a::r) (j:=0) (v:=a) rfl
 simpa using this
theorem at1:atI (a::b::r) 1=some b:=by
 have:=aG (xs:=a::b::r) (j:=1) (v:=b) rfl
 simpa using this
theorem at2:atI (a::b::c::r) 2=some c:=by
 have:=aG (xs:=a::b::c::r) (j:=2) (v:=c) rfl
 simpa using this
theorem ba.lst(h:R (.ref M.length) (M++[.lst xs]))(hn:M.length<=n)(e:(M++L)[n]?=some (.lst xs))(b:Bels M.length xs):ba M R (.ref n) (M++L) :=
 .inr (.inr ⟨M,n,xs,.refl,rfl,hn,e,AAu _ _,b,h⟩)
theorem ba.chgL(c:Chg M M1)(h:R (.ref M.length) (M1++[.lst xs]))(hn:M.length<=n)(e:M'[n]?=some (.lst xs))(p:M1 <+: M')(b:Bels M.length xs):ba M R (.ref n) M':=.inr (.inr ⟨M1,n,xs,c,rfl,hn,e,p,b,h⟩)
theorem cU:(M++a::L).set M.length b=M++b::L:=by
 rw[List.set_append_right _ _ (AA8 _)]
 simp
theorem aK:(M++a::L)[M.length]?=some a:=by simp
theorem iD(I:List D->List D->SD->Mem->Prop)(h0:∀acc S M,I [] acc S M->ok M/\Q (.ref M.length) (M++[.lst acc]))
  (h1:∀x xs acc S M,I (x::xs) acc S M->∀K:List D->SD->Mem->Prop,(∀acc S M,I xs acc S M->K acc S M)->ok M/\g x S M λS2 M2=>tt S2 M2 λb M3=>if b=true then te S2 M3 λy M4=>acc.length<sizeLine/\K (acc++[y]) S2 M4 else K acc S2 M3) :
  ∀xs acc S M,I xs acc S M->fR ok g tt te Q xs acc S M
 | [],acc,S,M,h=>h0 acc S M h
 | x::xs,acc,S,M,h=>h1 x xs acc S M h _ (iD I h0 h1 xs)
noncomputable def unS:D->Str
 | .str x=>x
 | _=>ACW
theorem fv{ys:List D}{ks:List Str}(h:ys.Perm (ks.map D.str)):∃ns:List Str,ys=ns.map D.str/\ns.Perm ks:=by
 refine⟨ys.map unS,?_,?_⟩
 ·rw[AAV]
  have:∀y∈ys,(D.str ∘ unS) y=y:=λy hy=>by
   obtain⟨x,_,rfl⟩:=AAJ.mp (h.mem_iff.mp hy)
   rfl
  exact(ABn this ▸ (List.map_id' ys).symm:ys=ys.map (D.str ∘ unS))
 ·have:=h.map unS
  rw[AAV]at this
  have e:(unS ∘ D.str)=id:=rfl
  rwa [e,ACR]at this
theorem dH{M:Mem}{ks:List Str}(h:ks.length<64):SrtOk M (ks.map D.str):=by
 refine⟨by rw[AA6];exact h,λx hx=>?_,λx hx y hy=>?_,.inl λx hx=>?_⟩
 ·obtain⟨z,_,rfl⟩:=AAJ.mp hx;rfl
 ·obtain⟨z,_,rfl⟩:=AAJ.mp hx
  obtain⟨z',_,rfl⟩:=AAJ.mp hy
  rfl
 ·obtain⟨z,_,rfl⟩:=AAJ.mp hx;exact⟨z,rfl⟩
theorem jG(h:(kvs.map (·.1)).Nodup):((mI kvs k d).map (·.1)).Nodup:=by
 unfold mI
 by_cases q:(kvs.any λp=>decide (p.1=k))=true
 ·rw[if_pos q,AAV]
  have:((λx:Str×D=>x.1) ∘ λp:Str×D=>if p.1=k then(p.1,d)else p)=λx=>x.1:=by
   funext p
   show (if p.1=k then(p.1,d)else p).1=p.1
   split<;>rfl
  rw[this];exact h
 ·rw[if_neg q,ABx,List.nodup_append]
  refine⟨h,by simp,λa ha b hb e=>?_⟩
  simp at hb
  subst hb e
  obtain⟨p,hp,e⟩:=AAJ.mp ha
  exact q (List.any_eq_true.mpr ⟨p,hp,by simpa using e⟩)
theorem eL:(mI kvs k d).length<=kvs.length+1/\1<=(mI kvs k d).length:=by
 unfold mI
 by_cases q:(kvs.any λp=>decide (p.1=k))=true
 ·rw[if_pos q,AA6]
  obtain⟨p,hp,_⟩:=List.any_eq_true.mp q
  have:0<kvs.length:=List.length_pos_of_mem hp
  lia
 ·rw[if_neg q,AAL,ABH]
  lia
theorem lO{P:Str×D->Prop}{kvs:List (Str×D)}{k:Str}{d:D}(h:∀p∈kvs,P p)(hk:P (k,d)):∀p∈mI kvs k d,P p:=by
 unfold mI
 intro p hp
 by_cases q:(kvs.any λp=>decide (p.1=k))=true
 ·rw[if_pos q]at hp
  obtain⟨p',hp',rfl⟩:=AAJ.mp hp
  by_cases e:p'.1=k
  ·rw[if_pos e,e];exact hk
  ·rw[if_neg e];exact h p' hp'
 ·rw[if_neg q]at hp
  rcases ABQ.mp hp with hp | hp
  ·exact h p hp
  ·rw[ABY.mp hp];exact hk
theorem qL(h:k∈kvs.map (·.1)):∃d,iL kvs k=some d/\(k,d)∈kvs:=by
 obtain⟨p,hp,rfl⟩:=AAJ.mp h
 cases e:kvs.find? λq=>decide (q.1=p.1) with
 | none=>exact absurd (List.find?_eq_none.mp e p hp) (by simp)
 | some q =>
  have h1:=List.mem_of_find?_eq_some e
  have h2:q.1=p.1:=by simpa using List.find?_some e
  exact⟨q.2,by rw[iL,e];rfl,by rw[<-h2];exact h1⟩
theorem dy:(M++a::b::L)[M.length+1]?=some b:=by
 rw[AAR (by lia),show M.length+1-M.length=1 by lia];rfl
theorem ir:(M++a::b::c::L)[M.length+2]?=some c:=by
 rw[AAR (by lia),show M.length+2-M.length=2 by lia];rfl
theorem qS:(M++a::b::c::L).set (M.length+2) d=M++a::b::d::L:=by
 rw[List.set_append_right _ _ (by lia),show M.length+2-M.length=2 by lia];rfl
theorem lP{α:Type}(f:α->D)(g:D->α)(hg:∀a,g (f a)=a){ys:List D}{l:List α}(h:ys.Perm (l.map f)):∃l':List α,ys=l'.map f/\l'.Perm l:=by
 refine⟨ys.map g,?_,?_⟩
 ·rw[AAV]
  have:∀y∈ys,(f ∘ g) y=y:=λy hy=>by
   obtain⟨x,_,rfl⟩:=AAJ.mp (h.mem_iff.mp hy)
   show f (g (f x))=f x
   rw[hg]
  exact(ABn this ▸ (List.map_id' ys).symm:ys=ys.map (f ∘ g))
 ·have:=h.map g
  rw[AAV]at this
  have e:(g ∘ f)=id:=funext hg
  rwa [e,ACR]at this
theorem iI{α:Type}{f:α->D}{l:List α}{j:Nat}(h:j<l.length):atI (l.map f) (j:Int)=some (f l[j]):=aG (by rw[AAP,AA1 h];rfl)
theorem mi:∀xs ys:List Str,nb (eqD M n) (dE M n) (xs.map D.str) (ys.map D.str)=true
 | [],ys=>by cases ys<;>rfl
 | _::_,[]=>rfl
 | x::xs,y::ys=>by
  show (if eqD M n (.str x) (.str y)=true then nb _ _ (xs.map D.str) (ys.map D.str)else dE M n (.str x) (.str y))=true
  split
  ·exact mi xs ys
  ·cases n<;>rfl
structure TxSrc(prog:Program)(w:World)(h:Heap)(l:Addr)(T:String)(n:Nat)(P:Nat->Value->Prop):Prop where
 obj:∃o,h.get? l=some o/\o.cls=.type T
 ns:isSubtype (.type T) (.type "set")=pure false
 nf:isSubtype (.type T) (.type "frozenset")=pure false
 nd:(Value.type T==Value.type "dict")=false
 iter:∀(A:Around) (s':Shared),A.handled=none->(∀o,h.get? l=some o->s'.heap.get? l=some o)->∃(oI:Obj) (St:Nat->Heap->Prop),
  (∀(E:Value->Shared->Prop) (Q:Value->Shared->Prop),Q (.ref s'.heap.objs.size) { s' with heap:=s'.heap.push oI }->wpAny (model prog w) A (pyIter (.ref l)) Q E s') /\
  Walks prog w A s'.heap.objs.size [s'.heap.objs.size,l] [s'.heap.objs.size] n P St/\St 0 (s'.heap.push oI)
structure SetAt(h:Heap)(a:Addr)(o:Obj)(es:Array (Int×Value))(ep:Nat)(t:SetTable):Prop where
 ob:h.get? a=some o
 dt:o.data=.set es ep t
 ft:t.fits es.size=true
end L2
namespace L2
end L2
namespace Ht
open PySem
noncomputable def adv(m:Nat)(p:AC6):AC6 :=
 if p.more > 0 then { p with j:=p.j+1,more:=p.more-1 } else
 { p with j:=(ACG m p.i p.perturb).1,more:=SetTable.runEnd m (ACG m p.i p.perturb).1-(ACG m p.i p.perturb).1,i:=(ACG m p.i p.perturb).1,perturb:=(ACG m p.i p.perturb).2 }
noncomputable def ue(m i pt:Nat):AC6:={ j:=i,more:=SetTable.runEnd m i-i,i,perturb:=pt,dummy:=none }
noncomputable def wQ(m:Nat)(p:AC6):Nat->AC6
 | 0=>p
 | n+1=>adv m (wQ m p n)
noncomputable def sq(m:Nat)(h:Int)(n:Nat):AC6:=wQ m (ue m (AD6 h % (m+1)) (AD6 h)) n
noncomputable def runs(m:Nat)(h:Int):Nat->Nat×Nat
 | 0=>(AD6 h % (m+1),AD6 h)
 | k+1=>ACG m (runs m h k).1 (runs m h k).2
noncomputable def zj(m:Nat)(h:Int):Nat->Nat
 | 0=>0
 | k+1=>zj m h k+(SetTable.runEnd m (runs m h k).1-(runs m h k).1+1)
def zn(m:Nat):Prop:=m=7\/m=31\/m=127
structure TOk(t:SetTable)(hs:List Int):Prop where
 msk:zn t.mask
 len:t.place.size=hs.length
 nod:t.dummies = #[]
 ris:t.place.toList.Pairwise (· < ·)
 rng:∀j∈t.place.toList,j<=t.mask
 few:t.place.size*5<t.mask*3
 path:∀(i:Nat) (h:Int) (j:Nat),hs[i]?=some h->t.place[i]?=some j->∃n,(sq t.mask h n).j=j/\∀n',n' < n->(sq t.mask h n').j∈t.place.toList
end Ht
namespace L2
open PySem PySem.Spec PyProof.Rows DL PySem.W
end L2
namespace L2
open PySem PySem.Spec PyProof.Rows DL PySem.W PySem.Calls PyProof.V
end L2
namespace L2
open PySem PySem.Spec PyProof.Rows DL PySem.W
end L2
namespace L2
open PySem PySem.Spec PyProof.Rows DL PySem.Builtin PySem.Builtin.Str PySem.StrLaws
theorem qj(a b len:Nat):strSliceIndices (some (a:Int)) (some (b:Int)) 1 len=strSliceIndices (some ((min a len:Nat):Int)) (some ((min b len:Nat):Int)) 1 len:=by
 have e:∀i:Nat,max (0:Int) (min (i:Int) (len:Int))=max (0:Int) (min ((min i len:Nat):Int) (len:Int)):=λi=>by lia
 have n:∀i:Nat,¬((i:Int)<0):=λi=>by lia
 simp only[strSliceIndices,n,if_false,show ((1:Int) > 0)=True by simp,if_true]
 rw[e a,e b]
theorem cf(x:Str)(l u:Option Int):(AB9 x l u).cps.toList=if (strSliceIndices l u 1 x.length).length=x.length then x.cps.toList else(strSliceIndices l u 1 x.length).filterMap (x.cps[·]?):=by
 unfold AB9
 by_cases h:(strSliceIndices l u 1 x.length).length=x.length
 ·rw[if_pos (by simp[h]),if_pos h]
 ·rw[if_neg (by simp[h]),if_neg h]
theorem jB(x:Str){a b:Nat}(hab:a<=b):(AB9 x (some (a:Int)) (some (b:Int))).cps.toList=(x.cps.toList.drop a).take (b-a):=by
 have hm:min a x.length<=min b x.length:=by lia
 have key:(strSliceIndices (some ((min a x.length:Nat):Int)) (some ((min b x.length:Nat):Int)) 1 x.length).filterMap (x.cps[·]?)=(x.cps.toList.drop (min a x.length)).take (min b x.length-min a x.length):=sliced_plain x hm (Nat.min_le_right ..)
 have ll:=aE (a:=x)
 have fin:(x.cps.toList.drop (min a x.length)).take (min b x.length-min a x.length)=(x.cps.toList.drop a).take (b-a):=by
  by_cases ha:a<=x.length
  ·rw[Nat.min_eq_left ha]
   by_cases hb:b<=x.length
   ·rw[Nat.min_eq_left hb]
   ·rw[Nat.min_eq_right (by lia),AB1 (by rw[ABL];lia),AB1 (by rw[ABL];lia)]
  ·rw[ACN (i:=a) (by lia),ACN (i:=min a x.length) (by lia)]
   simp
 rw[cf,qj,key,fin]
 split
 ·rename_i h
  rw[strSliceIndices_plain hm (Nat.min_le_right ..)]at h
  simp only[AA6,List.length_range]at h
  have h0:min a x.length=0:=by lia
  by_cases hx:x.length=0
  ·have:x.cps.toList=[]:=List.eq_nil_of_length_eq_zero (by lia)
   rw[this];simp
  ·have:a=0:=by lia
   subst this
   rw[ACT,AB1 (by lia)]
 ·rfl
theorem oh(x y:Str):ACV x y=decide (x.cps.toList.take y.length=y.cps.toList):=by
 unfold ACV
 rw[subAt_eq,ACT,Nat.zero_add,Bool.eq_iff_iff]
 have l1:=aE (a:=x)
 have l2:=aE (a:=y)
 simp only[AAG,decide_eq_true_eq,beq_iff_eq]
 constructor
 ·exact λh=>h.2
 ·intro h
  refine⟨?_,h⟩
  have:=congrArg AD4 h
  rw[ABA]at this
  lia
end L2
namespace L2
open PySem PySem.Spec PyProof.Rows DL PySem.W
def wW:DR2:=λx y M Q=>match x,y with
 | .int i,.int j=>CPow i j/\Q (.int (i ^ j.toNat)) M
 | _,_=>False
theorem xH:OpD X (binaryOp .Pow) wW:=by
 refine OpR.imp xy ?_
 rintro vx vy H R ⟨x,y,M,ρ,Q,sm,r1,r2,q,k⟩
 unfold wW at q
 split at q
 ·cases r1
  cases r2
  exact⟨_,_,rfl,rfl,q.1,k _ H (VQ.now sm (.int _) q.2)⟩
 ·exact q.elim
theorem yr:HOp X (binaryOp .Pow) wW:=⟨xH⟩
end L2
namespace Ht
open PySem
def Occ(ow:Array (Option Nat))(s:Nat):Prop:=∃i,ow[s]?=some (some i)
structure Laid(m:Nat)(hs:List Int)(ow:Array (Option Nat))(k:Nat):Prop where
 sz:ow.size=m+1
 lt:∀s i:Nat,ow[s]?=some (some i)->i<k
 inj:∀s s' i:Nat,ow[s]?=some (some i)->ow[s']?=some (some i)->s=s'
 all:∀i:Nat,i<k->∃s:Nat,ow[s]?=some (some i)
 path:∀(s i:Nat) (h:Int),ow[s]?=some (some i)->hs[i]?=some h->∃n,(sq m h n).j=s/\∀n',n' < n->Occ ow (sq m h n').j
structure TPre(t:SetTable)(hs:List Int):Prop where
 msk:zn t.mask
 len:t.place.size=hs.length
 nod:t.dummies = #[]
 ris:t.place.toList.Pairwise (· < ·)
 rng:∀j∈t.place.toList,j<=t.mask
 path:∀(i:Nat) (h:Int) (j:Nat),hs[i]?=some h->t.place[i]?=some j->∃n,(sq t.mask h n).j=j/\∀n',n' < n->(sq t.mask h n').j∈t.place.toList
end Ht
namespace L2
open PySem PySem.Spec PyProof.Rows DL PySem.W
noncomputable def yo:D->Bool
 | .tup _=>true
 | _=>false
def Ent(X:Cx)(ρ:List Addr)(H:Hp)(n:Nat)(d:D)(e:Int×Value):Prop:=(∃v,Rep X.K ρ H d v/\aH v e.2)/\e.1=hkD X.w n d/\wz n d=true/\yo d=true
structure KSet(X:Cx)(ρ:List Addr)(H:Hp)(h:Heap)(a:Addr)(n:Nat)(ds:List D)(o:Obj)(es:Array (Int×Value))(ep:Nat)(t:SetTable):Prop where
 ob:h.get? a=some o
 ex:o.ExactSet
 dt:o.data=.set es ep t
 en:Paired (Ent X ρ H n) ds es.toList
 nd:ds.Nodup
 tk:Ht.TOk t (es.toList.map (·.1))
 ld:t.led = !X.w.params.followText "set-order"
def SqAt(M:Mem)(d:D)(xs:List D):Prop:=(∃n,d=.ref n/\ah M n xs)\/d=.tup xs
noncomputable instance decD:DecidableEq D:=λa b=>Classical.propDecidable (a=b)
end L2
namespace L2
open PySem PySem.Spec PyProof.Rows DL PySem.W PySem.Calls PyProof.V
structure PairsAt(es:Array DictEntry)(lo:Addr)(h:Heap)(as:List Addr):Prop where
 nd:as.Nodup
 above:∀a∈as,lo<a
 tup:∀(j:Nat) (a:Addr),as[j]?=some a->∃e,es[j]?=some e/\h.get? a=some { cls:=.type "tuple",data:=.seq #[e.key,e.val] }
end L2
namespace L2
open PySem PySem.Spec PyProof.Rows DL PySem.W
structure DD(X:Cx)(ρ:List Addr)(H:Hp)(h:Heap)(a:Addr)(kvs:List (D×D))(xs:List (D×Addr×Value)):Prop where
 dx:dX a xs X.prog X.w h
 kv:Paired (wD X.K ρ H) kvs xs
 nd:(kvs.map (·.1)).Nodup
noncomputable abbrev EE(M:Mem)(R:DK):DEnds:=⟨λ_ M'=>ba M R .non M',ba M R,λ_ _=>False,λ_ _=>False⟩
noncomputable def dst(n:Nat)(ds:List D):SD:=ds.map some++ABa (n-ds.length) none
abbrev WpT(Pr:DSp)(n:Nat)(t:DTS):Prop:=∀ds M R,Pr ds M R->t (EE M R) (dst n ds) M
abbrev iJ(Pr:DSp)(p:List Str):Prop:=∀ds M R,Pr ds M R->ds.length=p.length
abbrev DerT(P:Program)(w:World)(K:AA)(mg:Str->Option Value)(base:Heap)(k:Nat)(x:Str)(N:List Str)(st:Stmt)(t:DTS):Prop :=
 ∀(f:Addr) (cdv:Value) (A:Around) (outer:List Env) (s:Shared) (H:Hp) (E:XK),Room k (A.deeper (ACn x (af st) s.heap.objs.size f cdv))->HB (iE CX0 P w K mg base N x (af st) f cdv A outer s H E).nox (aQ st) t
def mf(c:DTT)(tb:DTS):DTS:=λE S M=>∃W:Nat->SD->Mem->Prop,(∃m,W m S M)/\∀m S M,W m S M ->
 c S M λb M1=>if b=true then tb ⟨λS' M'=>∃m',m' < m/\W m' S' M',E.rt,E.nx,λS' M'=>∃m',m' < m/\W m' S' M'⟩ S M1 else E.nx S M1
theorem mS{K:AA}{c:DTT}{tb:DTS}(E:Ends)(σ:St)(H:Hp)(h:lowS K (mf c tb) E σ H):sY (lowT K c) (lowS K tb) E σ H:=by
 obtain⟨S,M,ρ,F,s,sr,⟨W,⟨m0,w0⟩,turn⟩,k⟩:=h
 refine⟨λm τ H2=>∃S2 M2 ρ2,Sim K ρ2 M2 H2/\Grow K ρ H ρ2 H2/\SRep K ρ2 H2 S2 τ/\W m S2 M2,⟨m0,S,M,ρ,s,.refl,sr,w0⟩,?_⟩
 rintro m τ H2 ⟨S2,M2,ρ2,s2,g2,sr2,w2⟩
 refine⟨S2,M2,ρ2,_,s2,sr2,turn m S2 M2 w2,?_⟩
 rintro b H3 ⟨M3,ρ3,s3,g3,q3⟩
 have g13:=g2.trans g3
 cases b with
 | true =>
  have again:∀τ5 H5,SQ K ρ3 H3 (λS' M'=>∃m',m' < m/\W m' S' M') τ5 H5->∃m',m' < m/\∃S2 M2 ρ2,Sim K ρ2 M2 H5/\Grow K ρ H ρ2 H5/\SRep K ρ2 H5 S2 τ5/\W m' S2 M2:=λτ5 H5 ⟨S5,M5,ρ5,s5,g5,sr5,m',lt,w5⟩=>⟨m',lt,S5,M5,ρ5,s5,g13.trans g5,sr5,w5⟩
  refine gf ⟨_,λτ' H' z=>z,S2,M3,ρ3,_,s3,sr2.grow g3,(show tb _ S2 M3 from q3),?_⟩
  exact⟨again,λv H5 z=>k.rt v H5 (VQ.trans g13 z),λτ5 H5 z=>k.nx τ5 H5 (SQ.trans g13 z),again⟩
 | false=>exact gg (k.nx τ H3 ⟨S2,M3,ρ3,s3,g13,sr2.grow g3,(show F.nx S2 M3 from q3)⟩)
theorem lX(hc:HT X c tc)(hb:HB X body tb)(hp:PassesOwn (model X.prog X.w) X.A X.env X.xe:=by exact PassesOwn.never):HS X (.While c body [] pos) (mf tc tb):=⟨PS.imp (rh hp hc.ok hb.ok) mS⟩
inductive TopB(mg:Str->Option Value):List Str->List (Str×Int)->Prop
 | nil:TopB mg [] []
 | b {x:Str}{B:List Str}{C:List (Str×Int)} (h:mg x=none) (t:TopB mg B C):TopB mg (x::B) C
 | c {x:Str}{i:Int}{C:List (Str×Int)} (h:∃t,mg x=some (.int i t)) (t:TopB mg [] C):TopB mg [] ((x,i)::C)
theorem TopB.no(h:TopB mg B C)(c:B.contains x=true):mg x=none:=by
 induction h with
 | nil=>simp at c
 | b h _ ih =>
  simp only[List.contains_cons,ACk,beq_iff_eq]at c
  rcases c with rfl | c
  ·exact h
  ·exact ih c
 | c _ _ _=>simp at c
theorem TopB.gi(h:TopB mg B C)(c:C.lookup x=some i):∃t,mg x=some (.int i t):=by
 induction h with
 | nil=>simp at c
 | b _ _ ih=>exact ih c
 | @c y _ _ h _ ih =>
  rw[AB3]at c
  split at c
  ·rename_i e
   cases c
   rw[beq_iff_eq.mp e]
   exact h
  ·exact ih c
noncomputable def nodB:List Str->Bool
 | []=>true
 | x::xs=>!xs.contains x&&nodB xs
theorem xK:∀{l:List Str},nodB l=true->l.Nodup
 | [],_=>List.nodup_nil
 | x::xs,h=>by
  simp only[nodB,AAG,Bool.not_eq_true',List.contains_eq_mem,decide_eq_false_iff_not]at h
  exact List.nodup_cons.mpr ⟨h.1,xK h.2⟩
noncomputable def tgN:Expr->List Str
 | .Name x _=>[x]
 | .Tuple es _ _=>es.filterMap fun | .Name x _=>some x | _=>none
 | _=>[]
noncomputable abbrev lcN(N:List Str)(js:List Nat)(tg:Expr):List Str:=tgN tg++js.map λj=>N.getD j ""
theorem k_lcN(hi:HI X tg iter di)(hg:∀cl s0 H0 ex,HG (blk X (lcN X.N js tg) scope cl s0 H0 ex) tg g)(ht:∀cl s0 H0 ex,HTs (blk X (lcN X.N js tg) scope cl s0 H0 ex) ifs tt)(he:∀cl s0 H0 ex,HE (blk X (lcN X.N js tg) scope cl s0 H0 ex) elt te)
  (B:fU X.env.scope.names X.N (lcN X.N js tg) nt js scope=true:=by kernel_rfl) (hc:X.calm=true:=by kernel_rfl) (hs:∀x,foldedSetIterable iter X.env x=pure x:=by intro _;kernel_rfl):HE X (.ListComp elt [⟨tg,iter,ifs,0⟩] scope pos) (dLC nt js di g tt te):=k_lc hi hg ht he B hc hs
theorem jR(hN:X.N.Nodup)(hi:HI X tg iter di)(hg:∀cl s0 H0 ex,HG (blk X (lcN X.N js tg) scope cl s0 H0 ex) tg g)(ht:∀cl s0 H0 ex,HTs (blk X (lcN X.N js tg) scope cl s0 H0 ex) ifs tt)(he:∀cl s0 H0 ex,HE (blk X (lcN X.N js tg) scope cl s0 H0 ex) elt te)
  (B:fU X.env.scope.names X.N (lcN X.N js tg) nt js scope=true:=by kernel_rfl) (hc:X.calm=true:=by kernel_rfl) (hs:∀x,foldedSetIterable iter X.env x=pure x:=by intro _;kernel_rfl) (hsw:swapsWith (.ListComp elt [⟨tg,iter,ifs,0⟩] scope pos) (some (.Name x pos')) pos2.line X.env=pure true:=by kernel_rfl)
  (hix:X.N[i]?=some x:=by kernel_rfl) (hx:uV X.env.scope x=true:=by kernel_rfl) (hf:X.fn x=true:=by kernel_rfl):HS X (.Assign [.Name x pos'] (.ListComp elt [⟨tg,iter,ifs,0⟩] scope pos) pos2) (fQ nt js di g tt te i):=rU hN hi hg ht he B hc hs hsw hix hx hf
theorem gA(h:HA X es t):HA X es t:=h
theorem gE(h:HE X e te):HE X e te:=h
theorem gCall(h:HE X (.Call a b c pos) te):HE X (.Call a b c pos) te:=h
theorem gIx(h:HE X (.Subscript a b pos) te):HE X (.Subscript a b pos) te:=h
theorem yz(h:HE X (.Constant a b pos) te):HE X (.Constant a b pos) te:=h
theorem gT(h:HT X e tt):HT X e tt:=h
theorem gS{st:Stmt}{t:DTS}(h:HS X st t):HS X st t:=h
theorem gOp(h:HOp X f r):HOp X f r:=h
theorem gC(h:HC X f r):HC X f r:=h
theorem pN{b:List Stmt}{st:Stmt}{sts:List Stmt}{t:DTS}(h:b=st::sts)(q:HB X (st::sts) t):HB X b t:=h ▸ q
section
variable{P:Program}{w:World}{K:AA}{mg:Str->Option Value}{base:Heap}{x:Str}{st:Stmt}{N ps:List Str}{k:Nat}{Pr:DSp}{B:List Str}{C:List (Str×Int)}{t:DTS}
theorem Cal.byD(T:TopB mg B C)(F:dF K mg x st ps)(Sc:FnScope N ps (af st))(len:iJ Pr ps)(der:TopB mg B C->N.Nodup->DerT P w K mg base k x N st t)(wp:∀ds M R,Pr ds M R->t (EE M R) (bo N ds) M):Cal P w K mg base (k+1) x ps Pr :=
 Cal.byH F Sc len (der T Sc.nd) wp
theorem su(T:TopB mg B C)(F:Fun K x x st f fd)(Sc:FnScope N ps (af st))(len:iJ Pr ps)(der:TopB mg B C->N.Nodup->DerT P w K mg base k x N st t)(wp:∀ds M R,Pr ds M R->t (EE M R) (bo N ds) M):FnOk P w K mg base CX0 (k+1) f fd ps (spL K Pr) :=
 ss F Sc len (der T Sc.nd) wp
end
structure Own(X:Cx)(pins:List (Addr×Obj))(H:Hp)(a:Addr):Prop where
 un:H a=none
 ne:a≠X.env.locals
 fs:a∉X.fs
 s0:X.s₀.heap.objs.size<=a
 cl:∀x c,X.env.cells.lookup x=some c->c≠a
 pn:∀p∈X.pn++pins,p.1≠a
structure KySt(X:Cx)(pins:List (Addr×Obj))(σ:St)(ρ:List Addr)(M:Mem)(m:Str->Option Value)(kS aD:Addr)(e1:Nat)(H0 H:Hp)(s:Shared)(ks:List Value)(e:Nat):Prop where
 inv:Inv X pins σ H s
 ns:s.heap.Ns X.env.locals m
 sm:Sim X.K ρ M H
 gr:Grow X.K ρ H0 ρ H
 hk:s.heap.get? kS=some (seqObj "list" (ACz ks) e)
 hd:s.heap.get? aD=some (seqObj "list" #[] e1)
 ok:Own X pins H kS
 od:Own X pins H aD
 ne:aD≠kS
structure BlkScC(X:Cx)(N':List Str)(nt:Nat)(js:List Nat)(scope:Scope):Prop where
 kind:scope.kind=.function
 kinds:∀y∈scope.names,scope.names.lookup y.1=some y.2
 free:∀y∈scope.names,y.2=.free->(X.env.kindOf y.1=some .cell\/X.env.kindOf y.1=some .free)
 len:N'.length=nt+js.length
 fr:∀(k j:Nat),js[k]?=some j->∃x,N'[nt+k]?=some x/\X.N[j]?=some x/\scope.names.lookup x=some .free/\(X.env.kindOf x=some .cell\/X.env.kindOf x=some .free)
structure CfOk(h:Heap)(k:Nat)(names:List (Str×NameKind))(acc cs:List (Str×Addr)):Prop where
 look:∀z c,cs.lookup z=some c->(acc.lookup z=some c/\(z,ABl)∉names)\/((z,ABl)∈names/\k<=c/\h.IsCell c none)
 inj:∀y z c,cs.lookup y=some c->cs.lookup z=some c->y=z
 old:∀z c,acc.lookup z=some c->∃c',cs.lookup z=some c'
 new:∀z,(z,ABl)∈names->∃c,cs.lookup z=some c
def wf(i:Nat):DTG:=ao i
end L2
namespace L2
open PySem PySem.Spec PyProof.Rows DL
def GtAt(A:Around)(s:Shared)(x y:Value)(k:Bool):Prop:=∀(prog:Program) (w:World) (E:Value->Shared->Prop) (Q:Value->Shared->Prop),Q (.bool k) s->wpAny (model prog w) A (richCompare .Gt x y) Q E s
inductive GexAt(A:Around)(s:Shared):List Value->List Value->Bool->Prop
 | nn:GexAt A s [] [] false
 | nc {y:Value}{ys:List Value}:GexAt A s [] (y::ys) false
 | cn {x:Value}{xs:List Value}:GexAt A s (x::xs) [] true
 | eq {x y:Value}{xs ys:List Value}{k:Bool} (h:ACP A s x y true) (t:GexAt A s xs ys k):GexAt A s (x::xs) (y::ys) k
 | ne {x y:Value}{xs ys:List Value}{k:Bool} (h:ACP A s x y false) (t:GtAt A s x y k):GexAt A s (x::xs) (y::ys) k
noncomputable def pM(es:Array DictEntry)(h:Int)(i:Nat):Bool:=(es[i]?.map (·.hash))==some h
section
open PySem.W
variable{prog:Program}{w:World}{A:Around}{E:Value->Shared->Prop}{s:Shared}{K:Frag}{x D:Addr}{ox:Obj}
structure ExcK(K:Frag)(D:Addr):Prop where
 ga:findIn K (.ref D) "__getattribute__" = some (some (.builtin "BaseException.__getattribute__"))
 gt:findIn K (.ref D) "__getattr__" = some none
 mb:mroIn K D (.type "BaseException")=some true
 mo:mroIn K D (.type "object")=some true
 cl:findIn K (.ref D) "__class__" = some (some (.builtin "object.__class__"))
def zo(h:Heap)(x D:Addr):Prop:=∃o,h.get? x=some o/\o.cls=.ref D
theorem zo.type(I:zo h x D):Looks M h (typeOf (.ref x)) (.ref D):=by
 obtain⟨o,e,c⟩:=I
 exact c ▸ (Looks.ld e).andThen .now
theorem kN(X:K.In h)(c:ExcK K D):Looks M h (Builtin.ObjectAttr.find (.ref x) (.ref D) "__class__") (.bind (.builtin "getset_descriptor.__get__") (.builtin "object.__class__")):=by
 have ht:typeIn K (.builtin "object.__class__")=some (.type "getset_descriptor"):=by kernel_rfl
 have h1:specialIn K (.builtin "object.__class__") "__get__" = some (some (.builtin "getset_descriptor.__get__")):=by
  unfold specialIn;rw[ht];kernel_rfl
 have h2:takesIn K (.builtin "object.__class__")=some true:=by
  unfold takesIn specialIn;rw[ht];kernel_rfl
 have L1:=looks_findIn (M:=M) X c.cl
 have L2:Looks M h (Builtin.ObjectAttr.getOf (some (.builtin "object.__class__"))) (some (.builtin "getset_descriptor.__get__")):=looks_specialIn X h1
 have L3:=looks_takesIn (M:=M) X h2
 refine L1.andThen (L2.andThen ?_)
 exact(show Looks M h (Builtin.ObjectAttr.dataDescriptor? (some (.builtin "object.__class__")) (some (.builtin "getset_descriptor.__get__"))) (some (.builtin "getset_descriptor.__get__",.builtin "object.__class__"))from L3.andThen .now).andThen (Looks.tag .now)
theorem yD(X:K.In s.heap)(I:zo s.heap x D)(hm:mroIn K D (.type "object")=some true)
  (h:R (.ok (.ret (.ref D))) s):codeAny (model prog w) A (.call (.builtin "getset_descriptor.__get__") ⟨[.builtin "object.__class__",.ref x,tp],[]⟩) R s:=by
 obtain⟨hh,g,dr,t,os⟩:=s
 have L0:=I.type (M:=model prog w)
 have L1:=looks_mroIn (M:=model prog w) X hm
 refine codeAny_call_builtin KF.slot_gs.plain KF.entry_gs (KF.slot_gs.check _ _ _ _ _ _ _ _ KF.type_class (KF.args_gs _ _ _) ?_)
 unfold Builtin.«getset_descriptor.__get__» Builtin.Getset_descriptor.descrGet
 rw[dga_obj]
 refine AA0 (AAD ?_)
 unfold Builtin.Getset_descriptor.descrGetter Builtin.Getset_descriptor.descrCheckInstance Builtin.Getset_descriptor.descrNameAndClass isInstance
 simp only[KF.owner_class]
 repeat lk
 refine⟨Code.quiet_builtin _ (by decide +kernel),codeAny_builtin KF.entry_class ?_⟩
 unfold Builtin.«object.__class__» shownTypeOf
 repeat lk
 exact h
theorem sA(X:K.In s.heap)(c:ExcK K D)(I:zo s.heap x D)(h:Q (some (.ref D)) { s with toks:=s.toks+1 }):wpAny (model prog w) A (getAttr? (.ref x) "__class__") Q E s:=by
 obtain⟨hh,g,d,t,os⟩:=s
 have L0:=I.type (M:=model prog w)
 have L1:=looks_findIn (M:=model prog w) X c.ga
 have L2:=looks_findIn (M:=model prog w) X c.gt
 have L4:=looks_mroIn (M:=model prog w) X c.mb
 have L3:=kN (M:=model prog w) (x:=x) X c
 have ga:=F.excAttr_ValueError.ga
 have f3:=ga.bind (.ref x)
 have hx2:(AD7 "BaseException.__getattribute__" == AD7 "object.__getattribute__")=false:=by decide +kernel
 have hx1:(onTheHeap (ABC D)&&AD7 "BaseException.__getattribute__" == AD7 "object.__getattribute__")=false:=by rw[hx2];rfl
 unfold getAttr? getAttrBy? getAttrBy
 refine AA0 (wpAny_mkText (AA0 (ACg (ABE (AA0 (L0.at (AA0 (L1.at ?_))))))))
 dsimp only
 rw[hx1]
 simp only[AAU,if_false]
 unfold getAttrByItsOwn hookBefore
 rw[if_pos (show onTheHeap (ABC D)=true from rfl)]
 refine AA0 (L2.at ?_)
 unfold callGetattribute
 simp only[Bool.false_and,AAU,if_false]
 unfold boundAndCalled
 refine AA0 (ACg (ABE (AA0 (wpAny_of_eq f3 ?_))))
 refine wpAny_call (codeAny_call_builtin ga.plain F.entry_bexc_ga ?_)
 have hk:builtinKind "BaseException.__getattribute__" = some .slot:=by decide +kernel
 have hsplit:splitId "BaseException.__getattribute__" = some ("BaseException","__getattribute__"):=by decide +kernel
 have hargs:=F.args_bexc_ga (.ref x) (.str "__class__" t)
 simp only[checkBuiltinCall,hk,hsplit]
 have LI:Looks (model prog w) hh (isInstance (.ref x) (.type "BaseException")) true:=L0.andThen L4
 refine AA0 (LI.at ?_)
 repeat (first | with_reducible refine L0.at ?_ | with_reducible refine L3.at ?_ | wp_step)
 refine yD (s:=⟨hh,g,d,t+1,os⟩) X I c.mo ?_
 exact AAD (handed_on rfl (AAD h))
theorem rV(c:ExcK K D):KitX K (.ref x) (.ref D) (λh=>zo h x D) where
 ty:=λ_ _ _ I=>I.type
 it:=λ_ h X _=>by
  have:=c.mo
  unfold mroIn clsIn at this
  split at this
  ·rename_i ho
   intro A' Q' E' s' k q
   unfold isType loadHead
   exact AA0 (wpAny_loadPart (k _ _ (X _ _ ho)) (AAD q))
  ·cases this
 ne:=λh tp dd its n sl X htp=>by
  refine ABz.mpr λq=>?_
  have e:D=tp:=Value.ref.inj (beq_iff_eq.mp q)
  subst e
  have:=c.mo
  unfold mroIn clsIn at this
  split at this
  ·rename_i ho
   have z:=(X _ _ ho).symm.trans htp
   cases z
  ·cases this
 ca:=λX I k=>sA X c I k
end
noncomputable def trO(o:Obj)(T:Addr):Obj:=o.mapFields (·.setIfInBounds 1 (.ref T))
inductive TrX(h base:Heap)(l:List Env)(e:Addr)(o:Obj)(fl:Value):Prop
 | mk (T:Addr) (oT:Obj) (vs ts:Array Value) (st:base.StaysIn h) (nw:base.get? e=none) (ff:h.FunFrames base l) (d:o.data=.fields vs) (sz:1<vs.size) (at_:h.get? e=some (trO o T))
  (nT:base.get? T=none) (ne:T≠e) (aT:h.get? T=some oT) (dT:oT.data=.fields ts) (h3:ts[3]?=some fl)
section
variable{M:Model}{A:Around}{E:Value->Shared->Prop}{s:Shared}{base:Heap}{env:Env}{outer l:List Env}{L e:Addr}{o:Obj}{vs:Array Value}{fl:Value}{Q:Unit->Shared->Prop}
theorem eG(d:o.data=.fields vs):(trO o T).data=.fields (vs.setIfInBounds 1 (.ref T)):=ABW d _
theorem wK:trO (trO o T) T'=trO o T':=by
 obtain⟨c,d,dt,sl⟩:=o
 cases dt<;>first | rfl | (show Obj.mk _ _ _ _=Obj.mk _ _ _ _;simp)
theorem rG{h:Heap}(ff:h.FunFrames base l)(he:h.get? e=some o)(d:o.data=.fields vs):e∉l.filterMap (·.frame):=λhm=>by
 obtain⟨_,o',ho,hnf⟩:=ff.mem hm
 rw[he]at ho;injection ho with ho;subst ho;exact hnf vs d
theorem tO(hfr:A.frames=some (env::outer))(hl:s.heap.FunFrames base (env::outer))(hf:env.frame=some L)(he:s.heap.get? e=some o)(hkb:base.StaysIn s.heap)(hen:base.get? e=none)(hd:o.data=.fields vs)(hsz:1<vs.size)
  (h:∀h',TrX h' base (env::outer) e o (rawInt L)->s.heap.UpToSlots h'->Q () { s with heap:=h' }) :
  wpAny M A (do let a <-frameOf env;let pl <-entryPlaceOf L hadNext;let b <-EntryCells.newEntry head a .none (rawInt L) .none pl;setField (.ref e) 1 b) Q E s:=by
 refine AA0 (wpAny_frameOf_fun hfr hl hf λh₁ hs₁=>?_)
 refine AA0 (wpAny_entryPlaceOf λpl hpl=>?_)
 unfold EntryCells.newEntry newFields
 refine AA0 (AAs ?_ (hpl.sizeOk5 _ _ _ _ _))
 have he₁:h₁.get? e=some o:=(hs₁.2.1 e (rG hl he hd)).trans he
 have kb₁:base.StaysIn h₁:=λb o hbo=>(hs₁.2.1 b λhm=>by rw[(hl.mem hm).1]at hbo;cases hbo).trans (hkb b o hbo)
 have hTe:h₁.objs.size≠e:=Nat.ne_of_gt (AAB he₁)
 have hpl3:∀x y z:Value,([x,y,.none,z,.none]++(if pl.isEmpty then ABa 6 AB0 else pl)).toArray[3]?=some z:=λx y z=>by
  first | (simp;done) | (rcases hpl with rfl | ⟨_,_,_,_,_,_,_,rfl⟩<;>simp)
 generalize hO:({ cls:=.type "traceback",dict:=none,data:=.fields ([head,.ref L,.none,rawInt L,.none]++(if pl.isEmpty then ABa 6 AB0 else pl)).toArray }:Obj)=O
 have dO:O.data=.fields ([head,.ref L,.none,rawInt L,.none]++(if pl.isEmpty then ABa 6 AB0 else pl)).toArray:=by rw[<-hO]
 have fO:O.isFreed=false:=ABw dO
 have he₂:=AA3 (h:=h₁) O he₁
 refine AC4 he₂ hd hsz (h _ ?_ ?_)
 all_goals
  have keep:∀b o',b≠e->h₁.get? b=some o'->((h₁.push O).update e (ACH (·.setIfInBounds 1 (ABC h₁.objs.size)))).get? b=some o':=λb o' hbe hb=>by
   rw[ABD _ _ (AAm hbe)]
   exact AA3 _ hb
  have noR:∀b o',s.heap.get? b=some o'->(∀vs,o'.data≠.fields vs)->b≠e:=λb o' hb hnf q=>by
   rw[q,he]at hb;injection hb with hb;subst hb;exact hnf vs hd
 ·refine⟨h₁.objs.size,O,vs,_,λb o' hbo=>keep b o' (λq=>by rw[q,hen]at hbo;cases hbo) (kb₁ b o' hbo),hen,hl.of_keeps λb o' hb hnf=>?_,hd,hsz,?_,kb₁.fresh,hTe,?_,dO,hpl3 _ _ _⟩
  ·obtain⟨sl,hs⟩:=hs₁.2.2 b o' hb
   exact⟨_,keep b _ (noR b o' hb hnf) hs,rfl⟩
  ·exact ABU _ he₂ (ABw (ABW hd _))
  ·exact(ABD (h₁.push O) _ (AAm hTe)).trans (AAH h₁ fO)
 ·intro b o' hb hnf
  obtain⟨sl,hs⟩:=hs₁.2.2 b o' hb
  exact⟨sl,keep b _ (noR b o' hb hnf) hs⟩
theorem TrX.set(st:base.StaysIn h)(nw:base.get? e=none)(ff:h.FunFrames base l)(d:o.data=.fields vs)(sz:1<vs.size)(at_:h.get? e=some (trO o T))(nT:base.get? T=none)(ne:T≠e)(aT:h.get? T=some oT)(dT:oT.data=.fields ts)(h3:3<ts.size) :
  TrX (h.update T (ACH (·.setIfInBounds 3 x))) base l e o x/\h.UpToSlots (h.update T (ACH (·.setIfInBounds 3 x))):=by
 have other:∀b,b≠T->(h.update T (ACH (·.setIfInBounds 3 x))).get? b=h.get? b:=λb hb=>ABD _ _ (AAm hb)
 have noR:∀b o',h.get? b=some o'->(∀vs,o'.data≠.fields vs)->b≠T:=λb o' hb hnf q=>by
  rw[q,aT]at hb;injection hb with hb;subst hb;exact hnf ts dT
 exact⟨⟨T,_,vs,_,λb o' hbo=>(other b λq=>by rw[q,nT]at hbo;cases hbo).trans (st b o' hbo),nw,ff.of_keeps λb o' hb hnf=>⟨o',(other b (noR b o' hb hnf)).trans hb,rfl⟩,d,sz,(other e (AAm ne)).trans at_,nT,ne,
  ABU _ aT (ABw (ABW dT _)),ABW dT _,by simp[h3]⟩,λb o' hb hnf=>⟨o'.slots,(other b (noR b o' hb hnf)).trans hb⟩⟩
theorem tq(hfr:A.frames=some (env::outer))(hf:env.frame=some L)(F:TrX s.heap base (env::outer) e o .none)(h:∀h',TrX h' base (env::outer) e o (rawInt L)->s.heap.UpToSlots h'->Q () { s with heap:=h' }) :
  wpAny M A (noteFrame (.ref e) env) Q E s:=by
 obtain⟨T,oT,vs,ts,st,nw,ff,d,sz,at_,nT,ne,aT,dT,h3⟩:=F
 unfold noteFrame
 simp only[hf]
 refine AA0 (AAY at_ (eG d) (x:=.ref T) (by simp[sz]) ?_)
 rw[if_pos (show (ABC T != AB0)=true from by simp)]
 refine AA0 (AAY aT dT h3 ?_)
 rw[if_neg (show ¬((AB0==rawInt L)=true)from by simp[rawInt])]
 have z3:=(AC.mp h3).1
 refine AA0 (AC4 aT dT z3 ?_)
 obtain⟨⟨T1,oT1,vs1,ts1,st1,_,ff1,d1,sz1,at1,_⟩,up⟩:=TrX.set (x:=.none) st nw ff d sz at_ nT ne aT dT z3
 refine tO hfr ff1 hf at1 st1 nw (eG d1) (by simp;exact sz1) λh' ⟨T2,oT2,vs2,ts2,st2,nw2,ff2,d2,sz2,at2,nT2,ne2,aT2,dT2,h32⟩ up2=>h h' ⟨T2,oT2,vs1,ts2,st2,nw2,ff2,d1,sz1,by rw[<-wK (T:=T1)];exact at2,nT2,ne2,aT2,dT2,h32⟩ (up.trans up2)
theorem lU(F:TrX s.heap base l e o fl)(h:∀h',TrX h' base l e o .none->s.heap.UpToSlots h'->Q () { s with heap:=h' }):wpAny M A (setFlight (.ref e) none) Q E s:=by
 obtain⟨T,oT,vs,ts,st,nw,ff,d,sz,at_,nT,ne,aT,dT,h3⟩:=F
 have z3:=(AC.mp h3).1
 unfold setFlight
 refine AA0 (AAY at_ (eG d) (x:=.ref T) (by simp[sz]) ?_)
 rw[if_pos (show (ABC T != AB0)=true from by simp)]
 obtain⟨F',up⟩:=TrX.set (x:=.none) st nw ff d sz at_ nT ne aT dT z3
 exact AC4 aT dT z3 (h _ F' up)
theorem TrX.st(F:TrX h base l e o fl):base.StaysIn h:=by obtain⟨_,_,_,_,st,_⟩:=F;exact st
theorem TrX.nw(F:TrX h base l e o fl):base.get? e=none:=by obtain⟨_,_,_,_,_,nw,_⟩:=F;exact nw
theorem TrX.ff(F:TrX h base l e o fl):h.FunFrames base l:=by obtain⟨_,_,_,_,_,_,ff,_⟩:=F;exact ff
theorem IsX.tr(i:IsX o C):IsX (trO o T) C:=by
 obtain⟨c,ws,d,e⟩:=i
 exact⟨(Obj.cls_mapFields o _).trans c,_,eG d,by rw[Array.getElem?_setIfInBounds_ne (by decide)];exact e⟩
theorem TrX.is(F:TrX h base l e o fl)(i:IsX o C):∃o',h.get? e=some o'/\IsX o' C:=by obtain⟨T,_,_,_,_,_,_,_,_,at_,_⟩:=F;exact⟨_,at_,i.tr⟩
theorem TrX.out(F:TrX h base (env::outer) e o fl):TrX h base outer e o fl:=by
 obtain⟨T,oT,vs,ts,st,nw,⟨_,_,ff⟩,d,sz,at_,nT,ne,aT,dT,h3⟩:=F
 exact⟨T,oT,vs,ts,st,nw,ff,d,sz,at_,nT,ne,aT,dT,h3⟩
theorem uZ(hfr:A.frames=some (env::outer))(hf:env.frame=some L)(F:TrX s.heap base (env::outer) e o .none)(h:∀h',TrX h' base outer e o .none->s.heap.UpToSlots h'->Q () { s with heap:=h' }):wpAny M A (leaving env (.ref e)) Q E s:=by
 unfold leaving
 exact AA0 (tq hfr hf F λh1 F1 u1=>lU F1 λh2 F2 u2=>h h2 F2.out (u1.trans u2))
theorem rQ(hfr:A.frames=some (env::outer))(hf:env.frame=some L)(hl:s.heap.FunFrames base (env::outer))(he:s.heap.get? e=some o)(hkb:base.StaysIn s.heap)(hen:base.get? e=none)(hd:o.data=.fields vs)(h1:vs[1]?=some .none)
  (h:∀h',TrX h' base outer e o .none->s.heap.UpToSlots h'->Q () { s with heap:=h' }):wpAny M A (leaving env (.ref e)) Q E s:=by
 unfold leaving noteFrame
 simp only[hf]
 refine AA0 (AA0 (AAY he hd h1 ?_))
 rw[if_neg (by decide)]
 exact tO hfr hl hf he hkb hen hd (AC.mp h1).1 λh1 F1 u1=>lU F1 λh2 F2 u2=>h h2 F2.out (u1.trans u2)
end
theorem br.there(x:br P w H h a o):∃u,h.get? a=some u:=by
 cases o with
 | lst xs=>obtain⟨_,_,_,_,e⟩:=x;exact⟨_,e⟩
 | tup xs=>obtain⟨_,_,_,ob,e,_⟩:=x;exact⟨_,e⟩
 | dK kvs=>obtain⟨_,_,_,_,ob,_,_,e,_⟩:=x;exact⟨_,e⟩
 | dT kvs=>obtain⟨_,_,_,_,ob,_,_,e,_⟩:=x;exact⟨_,e⟩
 | set S n=>obtain⟨ob,_,_,_,e,_⟩:=x;exact⟨_,e⟩
 | ins C dx fs=>obtain⟨_,_,_,e,_⟩:=x;exact⟨_,e⟩
 | own y=>exact x
 | xd fs=>obtain⟨_,⟨od,_,_,e,_⟩,_⟩:=x;exact⟨_,e⟩
 | rng lo hi=>obtain⟨_,_,_,e⟩:=x;exact⟨_,e⟩
 | frz ob u=>exact⟨_,x.1⟩
 | tbl ps=>exact⟨_,x⟩
 | met f y=>exact⟨_,x⟩
 | ext φ=>exact x.2.1
inductive Fly(P:Program)(w:World)(stk:List Env)(H:Hp)(h0:Heap)(a:Addr)(C:Value)(H1:Hp)(h:Heap):Prop
 | mk (B:Heap) (o:Obj) (ix:IsX o C) (fly:TrX h B stk a o .none) (un:Un (frs stk) [] H H1 h0 h) (hok:HOk P w H1 h)
  (old:∀b o,h0.get? b=some o->b∉frs stk->∃o',B.get? b=some o'/\(H b=none->o'=o)) (trk:∀b u,H1 b=some u->∃o,B.get? b=some o)
theorem eM{P:Program}{w:World}{H1:Hp}{h h' B:Heap}(hok:HOk P w H1 h)(trk:∀b u,H1 b=some u->∃o,B.get? b=some o)(s:B.StaysIn h)(s':B.StaysIn h'):HOk P w H1 h':=λb u q=>by
 refine(hok b u q).stay (λc v hc r=>?_) (λ_ z=>z) λ_ _ z=>z
 have hc':∃u',H1 c=some u':=by
  rcases hc with rfl | hc
  ·exact⟨u,q⟩
  ·exact⟨_,hc⟩
 obtain⟨u',hc'⟩:=hc'
 obtain⟨o,ho⟩:=trk c u' hc'
 have:=s c o ho
 rw[r]at this
 cases this
 exact s' c _ ho
theorem nF(un:Un (frs stk) [] H H1 h0 h)(old:∀b o,h0.get? b=some o->b∉frs stk->∃o',B.get? b=some o'/\(H b=none->o'=o))(ff:h.FunFrames B stk)(s':B.StaysIn h')(up:h.UpToSlots h'):Un (frs stk) [] H H1 h0 h':=by
 have fr:∀b,b∈frs stk->∀o,h.get? b=some o->∃sl,h'.get? b=some { o with slots:=sl }:=λb hb o e=>by
  obtain⟨_,o',e',nf⟩:=ff.mem hb
  rw[e]at e'
  cases e'
  exact up b o e nf
 refine⟨λb o e n hb hx=>?_,λb o e n hb hx=>?_,un.free,λb o e hx=>?_,un.tups,un.frzs,un.tbls⟩
 ·obtain⟨o',e',q⟩:=old b o e hb
  rw[<-q n]
  exact s' b o' e'
 ·obtain⟨sl,e1⟩:=un.slot b o e n hb hx
  obtain⟨sl',e2⟩:=fr b hb _ e1
  exact⟨sl',e2⟩
 ·by_cases hb:b∈frs stk
  ·obtain⟨o',e1⟩:=un.there b o e hx
   obtain⟨sl,e2⟩:=fr b hb _ e1
   exact⟨_,e2⟩
  ·obtain⟨o',e',_⟩:=old b o e hb
   exact⟨o',s' b o' e'⟩
theorem jJ{α:Type}{x:α}:x∉([]:List α):=λh=>nomatch h
theorem Fly.track(un:Un (frs stk) [] H H1 h0 h)(hok:HOk P w H1 h)(old:∀b o,h0.get? b=some o->b∉frs stk->∃o',B.get? b=some o'/\(H b=none->o'=o))(trk:∀b u,H1 b=some u->∃o,B.get? b=some o)(fly:TrX h B stk a oe fl)(ix:IsX oe C) :
  ∃oe,IsX oe C/\Un (frs stk) [] H (upd H1 a (.frz oe (.own a))) h0 h/\HOk P w (upd H1 a (.frz oe (.own a))) h:=by
 obtain⟨oe,he,hc,vs,hd,h2⟩:=fly.is ix
 have na:H1 a=none:=by
  cases q:H1 a with
  | none=>rfl
  | some u =>
   obtain⟨o,ho⟩:=trk a u q
   rw[fly.nw]at ho
   cases ho
 refine⟨oe,⟨hc,vs,hd,h2⟩,⟨un.keep,un.slot,λb o e n hx=>?_,un.there,λb xs e=>?_,λb o u e=>?_,λb ps e=>?_⟩,λb u q=>?_⟩
 ·rw[ag]
  ·exact un.free b o e n hx
  ·rintro rfl
   by_cases hb:b∈frs stk
   ·obtain⟨_,o',e',nf⟩:=fly.ff.mem hb
    rw[he]at e'
    cases e'
    exact nf vs hd
   ·obtain⟨o',e',_⟩:=old b o e hb
    rw[fly.nw]at e'
    cases e'
 ·rw[ag (ac (un.tups b xs e) na)]
  exact un.tups b xs e
 ·rw[ag (ac (un.frzs b o u e) na)]
  exact un.frzs b o u e
 ·obtain⟨more,q⟩:=un.tbls b ps e
  exact⟨more,by rw[ag (ac q na)];exact q⟩
 ·by_cases hb:b=a
  ·subst hb
   rw[aL]at q
   cases q
   exact⟨he,oe,he⟩
  ·rw[ag hb]at q
   exact(hok b u q).stay (λ_ _ _ z=>z) (λc z=>by rw[ag (ac z na)];exact z) λc xs z=>by rw[ag (ac z na)];exact z
structure DefX(X:Cx):Prop where
 stk:X.stack=X.env::X.outer
 fr:X.env.frame=some X.env.locals
 ex:X.ex=[]
section
variable{X:Cx}{pins:List (Addr×Obj)}{σ:St}{H H1:Hp}{s s':Shared}{h':Heap}{e:Addr}{C:Value}{vs:List Value}{M:Model}{Q:Unit->Shared->Prop}{E':Value->Shared->Prop}
theorem DefX.frs(d:DefX X):b∈frs X.stack↔b=X.env.locals\/b∈X.fs:=by
 rw[d.stk]
 unfold L2.frs
 rw[AC8,d.fr]
 exact AA9
theorem Inv.nloc(I:Inv X pins σ H s)(e:X.s₀.heap.get? b=some o):b≠X.env.locals:=λz=>by
 subst z
 exact AAh _ (AAF (AAB e) I.ok.above)
theorem mX(I:Inv X pins σ H1 s)(d:DefX X)(m:AD0 s.heap h' e C vs)(h:∀h'',Fly X.prog X.w X.outer X.H₀ X.s₀.heap e C H1 h''->Q () { s with heap:=h'' }) :
  wpAny M X.A (leaving X.env (.ref e)) Q E' { s with heap:=h' }:=by
 have hfr:X.A.frames=some (X.env::X.outer):=d.stk ▸ I.ok.frames
 have ff:s.heap.FunFrames X.base (X.env::X.outer):=d.stk ▸ I.stack
 have get:∀{b o},s.heap.get? b=some o->b∉frs X.stack->(ABe s.heap (frs X.stack)).get? b=some o:=λq hb=>PySem.W.hideAll_get _ q hb
 obtain⟨t,he,_⟩:=m.there
 have kb:∀b o,(ABe s.heap (frs X.stack)).get? b=some o->s.heap.get? b=some o:=λb o q=>ACt _ q
 refine rQ (base:=ABe s.heap (frs X.stack)) hfr d.fr ((PySem.W.funFrames_hide ff λenv he b hb=>by rw[d.stk];exact List.mem_filterMap.mpr ⟨env,he,hb⟩).of_keeps λb o q _=>⟨o,m.keeps b o q,rfl⟩) he (λb o q=>m.keeps b o (kb b o q)) ?_ rfl rfl λh'' fly up=>h h'' ?_
 ·cases q:(ABe s.heap (frs X.stack)).get? e with
  | none=>rfl
  | some o=>have z:=kb e o q;rw[m.new]at z;cases z
 have hex:∀b:Addr,b∉X.ex:=λb z=>by rw[d.ex]at z;cases z
 have old:∀b o,X.s₀.heap.get? b=some o->b∉X.fs->∃o',(ABe s.heap (frs X.stack)).get? b=some o'/\(X.H₀ b=none->o'=o):=λb o q hb=>by
  have hb':b∉frs X.stack:=λz=>(d.frs.mp z).elim (λz=>I.nloc q z) hb
  obtain⟨o',q'⟩:=I.base.there b o q (hex b)
  refine⟨o',get q' hb',λn=>?_⟩
  have:=I.base.keep b o q n hb (hex b)
  rw[q']at this
  exact AAN this
 have trk:∀b u,H1 b=some u->∃o,(ABe s.heap (frs X.stack)).get? b=some o:=λb u q=>by
  obtain⟨o,ho⟩:=(I.hok b u q).there
  refine⟨o,get ho λz=>?_⟩
  rw[I.stkFree b z]at q
  cases q
 have base':Un X.fs [] X.H₀ H1 X.s₀.heap s.heap:=d.ex ▸ I.base
 refine⟨_,_,⟨rfl,_,rfl,rfl⟩,fly,?_,eM I.hok trk (λb o q=>ACt _ q) fly.st,old,trk⟩
 have fr:∀b,b∈X.fs->∀o,s.heap.get? b=some o->∃sl,h''.get? b=some { o with slots:=sl }:=λb hb o q=>by
  obtain⟨_,o',e',nf⟩:=ff.mem (show b∈(X.env::X.outer).filterMap (·.frame)from d.stk ▸ d.frs.mpr (.inr hb))
  rw[q]at e'
  cases e'
  exact up b o (m.keeps b o q) nf
 refine⟨λb o q n hb hx=>?_,λb o q n hb hx=>?_,base'.free,λb o q hx=>?_,base'.tups,base'.frzs,base'.tbls⟩
 ·obtain⟨o',e',z⟩:=old b o q hb
  rw[<-z n]
  exact fly.st b o' e'
 ·obtain⟨sl,e1⟩:=base'.slot b o q n hb hx
  obtain⟨sl',e2⟩:=fr b hb _ e1
  exact⟨sl',e2⟩
 ·by_cases hb:b∈X.fs
  ·obtain⟨o',e1⟩:=base'.there b o q hx
   obtain⟨sl,e2⟩:=fr b hb _ e1
   exact⟨_,e2⟩
  ·obtain⟨o',e',_⟩:=old b o q hb
   exact⟨o',fly.st b o' e'⟩
theorem sv(I:Inv X pins σ H s)(d:DefX X)(F:Fly X.prog X.w X.stack H s.heap e C H1 s'.heap)(h:∀h'',Fly X.prog X.w X.outer X.H₀ X.s₀.heap e C H1 h''->Q () { s' with heap:=h'' }) :
  wpAny M X.A (leaving X.env (.ref e)) Q E' s':=by
 obtain⟨B,oe,ix,fly,un,hok,old,trk⟩:=F
 have hfr:X.A.frames=some (X.env::X.outer):=d.stk ▸ I.ok.frames
 have hex:∀b:Addr,b∉X.ex:=λb z=>by rw[d.ex]at z;cases z
 have fly0:TrX s'.heap B (X.env::X.outer) e oe .none:=d.stk ▸ fly
 refine uZ hfr d.fr fly0 λh'' fly' up=>h h'' ?_
 have base':Un X.fs [] X.H₀ H X.s₀.heap s.heap:=d.ex ▸ I.base
 have ff:=fly.ff
 have fr:∀b,b∈X.fs->∀o,s'.heap.get? b=some o->∃sl,h''.get? b=some { o with slots:=sl }:=λb hb o q=>by
  obtain⟨_,o',e',nf⟩:=ff.mem (show b∈X.stack.filterMap (·.frame)from d.frs.mpr (.inr hb))
  rw[q]at e'
  cases e'
  exact up b o q nf
 have old':∀b o,X.s₀.heap.get? b=some o->b∉X.fs->∃o',B.get? b=some o'/\(X.H₀ b=none->o'=o):=λb o q hb=>by
  have hb':b∉frs X.stack:=λz=>(d.frs.mp z).elim (λz=>I.nloc q z) hb
  obtain⟨o',q'⟩:=base'.there b o q jJ
  obtain⟨o2,q2,z⟩:=old b o' q' hb'
  refine⟨o2,q2,λn=>?_⟩
  rw[z (base'.free b o q n jJ)]
  have:=base'.keep b o q n hb jJ
  rw[q']at this
  exact AAN this
 refine⟨B,oe,ix,fly',?_,eM hok trk fly.st fly'.st,old',trk⟩
 have unT:∀b o,X.s₀.heap.get? b=some o->X.H₀ b=none->H1 b=none:=λb o q n=>by
  obtain⟨o',q'⟩:=base'.there b o q jJ
  exact un.free b o' q' (base'.free b o q n jJ) jJ
 refine⟨λb o q n hb hx=>?_,λb o q n hb hx=>?_,λb o q n hx=>unT b o q n,λb o q hx=>?_,λb xs q=>un.tups b xs (base'.tups b xs q),λb o u q=>un.frzs b o u (base'.frzs b o u q),λb ps q=>?_⟩
 ·obtain⟨o',e',z⟩:=old' b o q hb
  rw[<-z n]
  exact fly'.st b o' e'
 ·obtain⟨sl,e1⟩:=base'.slot b o q n hb hx
  obtain⟨sl1,e2⟩:=un.slot b _ e1 (base'.free b o q n hx) (d.frs.mpr (.inr hb)) hx
  obtain⟨sl',e3⟩:=fr b hb _ e2
  exact⟨sl',e3⟩
 ·by_cases hb:b∈X.fs
  ·obtain⟨o',e1⟩:=base'.there b o q hx
   obtain⟨o2,e2⟩:=un.there b o' e1 hx
   obtain⟨sl,e3⟩:=fr b hb _ e2
   exact⟨_,e3⟩
  ·obtain⟨o',e',_⟩:=old' b o q hb
   exact⟨o',fly'.st b o' e'⟩
 ·obtain⟨m1,e1⟩:=base'.tbls b ps q
  obtain⟨m2,e2⟩:=un.tbls b _ e1
  exact⟨m1++m2,by rw[e2,Array.append_assoc]⟩
end
def CXe(P:Program)(w:World):CXT:=λstk H s E e s'=>∃a C H1,e=.ref a/\s'.os=s.os/\AllBare s'.gens/\Fly P w stk H s.heap a C H1 s'.heap/\E C none H1
section
variable{P:Program}{w:World}{K:AA}{mg:Str->Option Value}{base:Heap}{N:List Str}{qual:Str}{scope:Scope}{f:Addr}{cd:Value}{A:Around}{outer:List Env}{s:Shared}{H:Hp}{E:XK}
theorem pU:DefX (iE CX P w K mg base N qual scope f cd A outer s H E):=⟨rfl,rfl,rfl⟩
theorem uF:mx (CXe P w) (iE (CXe P w) P w K mg base N qual scope f cd A outer s H E) E:=by
 rintro pins σ H1 s1 e s' I ⟨a,C,H2,rfl,ho,hb,F,q⟩
 exact sv I pU F λh'' F'=>⟨a,C,H2,rfl,ho.trans I.os,hb,F',q⟩
theorem uS(I:Inv (iE (CXe P w) P w K mg base N qual scope f cd A outer s H E) pins σ H1 s1)(m:AD0 s1.heap h' e C vs)(q:E C none H1) :
  (iE (CXe P w) P w K mg base N qual scope f cd A outer s H E).xe (.ref e) { s1 with heap:=h' }:=by
 exact mX I pU m λh'' F'=>⟨e,C,H1,rfl,I.os,I.bare,F',q⟩
end
noncomputable abbrev vE:List Value:=[.type "ValueError",.type "Exception",.type "BaseException",.type "object"]
theorem uI{K:AA}{h:Heap}{C:Addr}{bmB:List Value}{newId:String}(X:K.In h)(q:ACI K C bmB newId=true) :
  ∃bm N nm qn bs hdct sn sub ab col dd k0 k1 k2 k3 k5 mN,h.get? C=some (excClassObj nm qn C N bs bm hdct sn sub ab col dd k0 k1 k2 k3 k5 newId)/\h.Ns N mN/\mN "__init__" = none/\OwnTail h bmB bm:=by
 unfold ACI at q
 split at q
 ·rename_i dd cd sl ho
  split at q
  ·rename_i C' bm k0 k1 k2 k3 n k5 hm hs
   simp only[AAG,beq_iff_eq,Bool.not_eq_true']at q
   obtain⟨⟨⟨⟨⟨rfl,rfl⟩,hdel⟩,ht⟩,hok⟩,hni⟩:=q
   obtain⟨nm,bs,mro,ns,qn,hd,sn,sub,ab,col,del⟩:=cd
   dsimp only at hm hdel hok hni
   subst hm hdel
   have hsl:sl = #[k0,k1,k2,k3,some (.builtin n),k5]:=by
    obtain⟨l⟩:=sl
    simp only at hs
    rw[hs]
   subst hsl
   exact⟨bm,ns,nm,qn,bs,hd,sn,sub,ab,col,dd,k0,k1,k2,k3,k5,_,X _ _ ho,.of_isNs (PySem.W.isNs_of_in X hok),PySem.W.nsMap_none_of_in X hok hni,PySem.W.tail_of_in X ht⟩
  ·cases q
 ·cases q
theorem qX{X:Cx}{x:Str}{C:Addr}{np cpos pos:Pos}{e₀:Expr}{az:List Expr}{pins:List (Addr×Obj)}{σ:St}{H:Hp}{s:Shared}{Ex:Value->Shared->Prop}{Q:Flow->Shared->Prop}(I:Inv X pins σ H s)(hm:X.mg x=some (.ref C))(q:ACI X.K C vE "ValueError.__new__" = true)(hc:X.calm=true)
  (w:wpAny (model X.prog X.w) X.A (spliced (backTo cpos (starEach (e₀::az) X.env))) (λus s₂=>us.length<=sizeLine/\(∀b o,X.base.get? b=some o->s₂.heap.get? b=some o)/\∀h' e,AD0 s₂.heap h' e (.ref C) us->Ex (.ref e) { s₂ with heap:=h' }) Ex s) (hg:Gl X x:=by rfl)
  (he:starEach (e₀::az) X.env=(false,eval e₀ X.env)::starEach az X.env:=by rfl) (hpl:(backTo cpos (starEach az X.env)).any (·.1)=false:=by rfl) (hdb:(x==("__debug__":Str))=false:=by decide) :
  wpAny (model X.prog X.w) X.A (exec (.Raise (some (.Call (.Name x np) (e₀::az) [] cpos)) none pos) X.env) Q Ex s:=by
 obtain⟨tl,N,nm,qn,bs,hdct,sn,sub,ab,col,dd,k0,k1,k2,k3,k5,mN,hC,hN,hni,T⟩:=uI I.mod.kin q
 have FB:=F.excBase_ValueError
 refine wpAny_Raise_call_subU (C:=C) (nm:=nm) (q:=qn) (N:=N) (bs:=bs) (bm:=tl) (hdct:=hdct) (sn:=sn) (sub:=sub) (ab:=ab) (col:=col) (dd:=dd) (k0:=k0) (k1:=k1) (k2:=k2) (k3:=k3) (k5:=k5)
  FB FB.hasB FB (mN:=mN) (T.hasType FB.hasBase) (I.ok.hd hc) (by rw[he];show (false||(backTo cpos (starEach az X.env)).any (·.1))=false;rw[hpl];rfl) hni (dP I hg hm ⟨rfl,?_⟩ hdb)
 rw[he]at w ⊢
 exact Calls.evalArgs_plain (AAo w (λus s₂ ⟨z,bk,k⟩=>⟨rfl,z,bk _ _ hC,hN.keeps bk,T.keeps bk,k⟩) λ_ _ y=>y)
theorem nE(I:Inv X pins σ H s)(hN:X.N.Nodup)(hi:X.N[i]?=some x)(hk:X.env.scope.names.lookup x=some .local)(hv:σ[i]?=some (some v))
  (h:∀s',Inv X pins (σ.set i none) H s'->Q () s'):wpAny M A (unbindName X.env x) Q E s:=by
 obtain⟨m,hn,hl⟩:=id I.loc
 have hcls:(X.env.scope.kind==.class||(X.env.scope.kind==.module&&X.env.locals != X.env.globals))=false:=by rw[I.ok.kind];rfl
 have hiσ:i<σ.length:=by rw[I.len];exact(AA4.mp hi).1
 have cne:=I.cne
 obtain⟨u,r,lk⟩:=hl i x v hi hv (.inl hk)
 have hm:m x=some u:=by
  rcases lk with⟨_,e⟩|⟨k,_⟩
  ·exact e
  ·rcases k with k | k<;>(have k':X.env.scope.names.lookup x=_:=k;rw[hk]at k';cases k')
 refine wpAny_unbindName_local hk hn hm hcls λh' u' hn' hs=>?_
 obtain⟨oL,_,_,hoL,_⟩:=id hn
 have tracked:HOk X.prog X.w H h':=λb ob e=>by
  refine(I.hok b ob e).stay (λc w' hc q=>(hs.2 c ?_).trans q) (λ_ q=>q) λ_ _ q=>q
  rintro rfl
  rcases hc with rfl | hc
  ·rw[I.free]at e;cases e
  ·rw[I.free]at hc;cases hc
 refine h _ ⟨I.ok,I.os,I.bare,⟨λb o e n hb hx=>?_,λb o e n hb hx=>?_,I.base.free,λb o e hx=>?_,I.base.tups,I.base.frzs,I.base.tbls⟩,⟨_,hn',λj y v' e1 e2 e3=>?_⟩,λy c e=>?_,I.free,I.freeC,λp hp=>?_,tracked,by simpa using I.len⟩
 ·exact(hs.2 b (AAK (AAF (AAB e) I.ok.above))).trans (I.base.keep b o e n hb hx)
 ·obtain⟨sl,e1⟩:=I.base.slot b o e n hb hx
  exact⟨sl,(hs.2 b (AAK (AAF (AAB e) I.ok.above))).trans e1⟩
 ·obtain⟨o',e1⟩:=I.base.there b o e hx
  exact⟨o',(hs.2 b (AAK (AAF (AAB e) I.ok.above))).trans e1⟩
 ·by_cases hj:j=i
  ·subst hj
   rw[AAg hiσ]at e2
   cases e2
  ·rw[AAt (AAm hj)]at e2
   obtain⟨u',r',q⟩:=hl j y v' e1 e2 e3
   refine⟨u',r',?_⟩
   rcases q with⟨k,e⟩|⟨k,c,e,z⟩
   ·refine .inl ⟨k,?_⟩
    have:y≠x:=λe=>hj (im hN e1 (e ▸ hi))
    simp[this,e]
   ·exact .inr ⟨k,c,e,z.sameBut hs (cne y c e)⟩
 ·obtain⟨w',z⟩:=I.cell y c e
  exact⟨w',z.sameBut hs (cne y c e)⟩
 ·obtain⟨e,n,ne,nf,d⟩:=I.pin p hp
  exact⟨(hs.2 p.1 ne).trans e,n,ne,nf,d⟩
noncomputable abbrev Cx.held(X:Cx)(a:Addr):Cx:={ X with A:=X.A.mark (some (.ref a)),calm:=false,xe:=λ_ _=>False }
theorem Inv.held(I:Inv X pins σ H s)(a:Addr):Inv (X.held a) pins σ H s :=
 ⟨⟨I.ok.mod,I.ok.kind,I.ok.glob,I.ok.blt,I.ok.above,I.ok.inj,I.ok.has,I.ok.cab,(λz=>Bool.noConfusion z),I.ok.frames,I.ok.stk,I.ok.exf,I.ok.bs,I.ok.bsz,I.ok.noex,I.ok.exfs,I.ok.funs,I.ok.frf⟩,I.os,I.bare,I.base,I.loc,I.cell,I.free,I.freeC,I.pin,I.hok,I.len⟩
theorem Inv.unheld(ok:X.Ok)(I:Inv (X.held a) pins σ H s):Inv X pins σ H s:=⟨ok,I.os,I.bare,I.base,I.loc,I.cell,I.free,I.freeC,I.pin,I.hok,I.len⟩
theorem qm{H1:Hp}{s':Shared}{a C C':Addr}{i:Nat}{n y:Str}{np pos:Pos}{b₀:Stmt}{suite:List Stmt}{az:List ExceptHandler}{D:Ends}{tS:TS}{E:Value->Shared->Prop}(I:Inv X pins σ H s)(d:DefX X)(ho:s'.os=s.os)(hb:AllBare s'.gens)
  (F:Fly X.prog X.w X.stack H s.heap a (.ref C) H1 s'.heap) (hN:X.N.Nodup) (hi:X.N[i]?=some n) (hk:X.env.scope.names.lookup n=some .local) (hy:X.mg y=some (.ref C')) (hm:AD1 X.K (.ref C) (.ref C')=some true)
  (hs:PSs (X.held a) (b₀::suite) tS) (q:∀oe,IsX oe (.ref C)->tS ⟨λσ' H'=>D.nx (σ'.set i none) H',λ_ _=>False,λ_ _=>False,λ_ _=>False⟩ (σ.set i (some (.ref a))) (upd H1 a (.frz oe (.own a))))
  (hg:Gl X y:=by rfl) (hdb:(y==("__debug__":Str))=false:=by decide) :
  wpAny (model X.prog X.w) X.A (noteFrame (.ref a) X.env) (λ_ s₂=>wpAny (model X.prog X.w) X.A (setFlight (.ref a) none) (λ_ s₃ =>
   wpAny (model X.prog X.w) X.A (handleBy (.ref a) X.env (.ExceptHandler (some (.Name y np)) (some n) (b₀::suite) pos::az)) (SP X pins D) E s₃) E s₂) E s':=by
 obtain⟨B,oe,ix,fly,un,hok,old,trk⟩:=F
 have hfr:X.A.frames=some (X.env::X.outer):=d.stk ▸ I.ok.frames
 have fly0:TrX s'.heap B (X.env::X.outer) a oe .none:=d.stk ▸ fly
 refine tq hfr d.fr fly0 λh₄ held₄ up₄=>?_
 refine lU held₄ λh₅ fly₅ up₅=>?_
 have un5:=nF un old fly.ff fly₅.st λb o e nf=>by
  obtain⟨sl,e1⟩:=up₄ b o e nf
  obtain⟨sl',e2⟩:=up₅ b _ e1 nf
  exact⟨sl',e2⟩
 have hok5:=eM hok trk fly.st fly₅.st
 have I5:Inv X pins σ H1 { s' with heap:=h₅ }:=I.call' (ch:=[]) ho un5 hok5 hb λb z=>absurd z jJ
 obtain⟨ob,hob,hobc,_⟩:=fly₅.is ix
 refine wpAny_handleBy_cons (codeAny_handlers_test (dP (X:=X.held a) (I5.held a) hg hy ?_ hdb)) (by intro q;cases q)
 have LT:PySem.W.Looks (model X.prog X.w) h₅ (typeOf (.ref a)) (.ref C):=hobc ▸ (PySem.W.Looks.ld hob).andThen .now
 refine(PySem.W.exm_one I5.kIn LT hm).at ?_
 refine codeAny_handlers_suite_as (lU fly₅ λh₆ fly₆ up₆=>?_)
 have un6:=nF un5 old (d.stk ▸ fly₅.ff) fly₆.st up₆
 have hok6:=eM hok5 trk fly₅.st fly₆.st
 obtain⟨oe,ix,un7,hok7⟩:=Fly.track un6 hok6 old trk (d.stk ▸ fly₆) ix
 have I7:Inv X pins σ (upd H1 a (.frz oe (.own a))) { s' with heap:=h₆ }:=I.call' (ch:=[]) ho un7 hok7 hb λb z=>absurd z jJ
 refine dq (v:=.ref a) I7 hN hi (.inl hk) rfl (λs8 I8=>?_) (.inr hk)
 refine AAo (hs pins s8 _ _ _ (I8.held a) (q oe ix)) (λf s9 h9=>?_) λ_ _ z=>z.elim
 cases f with
 | next =>
  obtain⟨σ',H',J,k⟩:=h9
  have J':=J.unheld I.ok
  refine AA0 (wpAny_bindName (dq (v:=.non) (u:=.none) J' hN hi (.inl hk) rfl (λs10 I10=>?_) (.inr hk)))
  have hl:i<σ'.length:=by rw[J'.len];exact(AA4.mp hi).1
  refine ACf (nE (v:=.non) I10 hN hi hk (AAg hl) λs11 I11=>?_)
  rw[List.set_set]at I11
  exact⟨_,_,I11,k⟩
 | ret u=>obtain⟨_,_,_,_,_,z⟩:=h9;exact z.elim
 | brk=>obtain⟨_,_,_,z⟩:=h9;exact z.elim
 | cont=>obtain⟨_,_,_,z⟩:=h9;exact z.elim
abbrev DX:=Str->Mem->Prop
abbrev DTX:=DX->DTS
abbrev ww:=DX->DTE
abbrev sR:=List D->Mem->DK->DX->Prop
inductive XQ(K:AA)(ρ:List Addr)(H:Hp)(R:DX)(C:Value)(dx:Option Addr)(H':Hp):Prop
 | mk (x:Str) (c:Addr) (M':Mem) (ρ':List Addr) (e:C=.ref c) (hx:ABI K mainGlobals x=some (some (.ref c))) (s:Sim K ρ' M' H') (g:Grow K ρ H ρ' H') (q:R x M')
section
variable{K:AA}{ρ ρ1:List Addr}{H H1 H':Hp}{R:DX}{C:Value}{dx:Option Addr}{M:Mem}
theorem XQ.trans(g:Grow K ρ H ρ1 H1)(h:XQ K ρ1 H1 R C dx H'):XQ K ρ H R C dx H':=by
 obtain⟨x,c,M',ρ',e,hx,s,g',q⟩:=h
 exact⟨x,c,M',ρ',e,hx,s,g.trans g',q⟩
def XEnd(M:Mem)(R:DX):DX:=λx M'=>R x M'\/∃M1,Chg M M1/\M1 <+: M'/\R x M1
theorem XQ.endq(s:Sim K ρ M H)(h:XQ K ρ H (XEnd M R) C dx H'):XQ K ρ H R C dx H':=by
 obtain⟨x,c,M',ρ',e,hx,s',g',q'⟩:=h
 rcases q' with q | ⟨M1,cg,pre,q⟩
 ·exact⟨x,c,M',ρ',e,hx,s',g',q⟩
 ·have hρ:ρ'.take M.length=ρ:=by rw[<-s.len];exact aR g'.pre
  have sc:=s'.cut M.length λn mo hn e=>by
   have e':M1[n]?=some mo:=by
    obtain⟨t,rfl⟩:=pre
    rw[AAC (by rw[cg.1];exact hn)]at e
    exact e
   exact(cg.2 n mo e').elim (λz=>s.bels z) id
  have tk:M'.take M.length=M1:=by rw[<-cg.1];exact aR pre
  rw[hρ,tk]at sc
  exact⟨x,c,M1,ρ,e,hx,sc,⟨ABv,g'.tup⟩,q⟩
end
inductive lowX(K:AA)(E:XK)(t:DTX)(D:Ends)(σ:St)(H:Hp):Prop
 | mk (S:SD) (M:Mem) (ρ:List Addr) (F:DEnds) (R:DX) (s:Sim K ρ M H) (sr:SRep K ρ H S σ) (q:t R F S M) (k:Ups K ρ H F D) (x:∀C dx H',XQ K ρ H R C dx H'->E C dx H')
inductive lowXE(K:AA)(E:XK)(t:ww)(σ:St)(H:Hp)(Q:VK):Prop
 | mk (S:SD) (M:Mem) (ρ:List Addr) (F:DK) (R:DX) (s:Sim K ρ M H) (sr:SRep K ρ H S σ) (q:t R S M F) (k:∀v H',VQ K ρ H F v H'->Q v H') (x:∀C dx H',XQ K ρ H R C dx H'->E C dx H')
structure XA(b:Bool)(X:Cx)(pins:List (Addr×Obj))(E:XK)(P:St->Prop)(Ex:Value->Shared->Prop):Prop where
 on:∀σ H1 s1 e s',P σ->Inv X pins σ H1 s1->CXe X.prog X.w X.stack H1 s1 E e s'->Ex e s'
 all:b=true->∀σ,P σ
 made:b=true->∀σ H1 s1 h' e C vs,Inv X pins σ H1 s1->AD0 s1.heap h' e C vs->E C none H1->Ex (.ref e) { s1 with heap:=h' }
structure HX(b:Bool)(X:Cx)(st:Stmt)(t:DTX):Prop where
 ok:∀(pins:List (Addr×Obj)) (s:Shared) (σ:St) (H:Hp) (D:Ends) (E:XK) (P:St->Prop) (Ex:Value->Shared->Prop),XA b X pins E P Ex->P σ->Inv X pins σ H s->lowX X.K E t D σ H->wpAny (model X.prog X.w) X.A (exec st X.env) (SP X pins D) Ex s
structure HXs(b:Bool)(X:Cx)(st:List Stmt)(t:DTX):Prop where
 ok:∀(pins:List (Addr×Obj)) (s:Shared) (σ:St) (H:Hp) (D:Ends) (E:XK) (P:St->Prop) (Ex:Value->Shared->Prop),XA b X pins E P Ex->P σ->Inv X pins σ H s->lowX X.K E t D σ H->wpAny (model X.prog X.w) X.A (execs st X.env) (SP X pins D) Ex s
structure HXE(b:Bool)(X:Cx)(e:Expr)(t:ww):Prop where
 ok:∀(pins:List (Addr×Obj)) (s:Shared) (σ:St) (H:Hp) (Q:VK) (E:XK) (P:St->Prop) (Ex:Value->Shared->Prop),XA b X pins E P Ex->P σ->Inv X pins σ H s->lowXE X.K E t σ H Q->wpAny (model X.prog X.w) X.A (eval e X.env) (EP X pins σ Q) Ex s
def xOf(t:DTS):DTX:=λ_=>t
def sT(t u:DTX):DTX:=λR=>aw (t R) (u R)
def xIf(c:DTT)(t u:DTX):DTX:=λR=>dIf c (t R) (u R)
def xRet(t:ww):DTX:=λR=>cc (t R)
def xSet(t:ww)(i:Nat):DTX:=λR=>aN (t R) i
def xCB(P:sR)(t:DTA):ww:=λR S M Q=>t S M λds M1=>P ds M1 Q R
def eR(x:Str)(t:DTA):DTX:=λR _ S M=>t S M λds M1=>ds.length<=sizeLine/\R x M1
theorem PA.nox(h:PA X.nox es t)(I:Inv X pins σ H s)(q:t σ H Q) :
  wpAny (model X.prog X.w) X.A (spliced (backTo pos (starEach es X.env))) (AP X pins σ Q) Ex s :=
 AAo (h pos pins s σ H Q (I.wish _) q) (λ_ _ ⟨v,H',I',r,z⟩=>⟨v,H',I'.unwish,r,z⟩) λ_ _ z=>AAp z
theorem xM{b:Bool}{X:Cx}{st:Stmt}{t:DTS}(h:HS X.nox st t):HX b X st (xOf t):=by
 refine⟨ ?_⟩
 rintro pins s σ H D E P Ex A p I ⟨S,M,ρ,F,R,sm,sr,q,k,x⟩
 exact AAo (h.ok pins s σ H D (I.wish _) ⟨S,M,ρ,F,sm,sr,q,k⟩) (λ_ _ z=>z.unwish) λ_ _ z=>AAp z
theorem vb:HXs b X [] (xOf bd):=by
 refine⟨ ?_⟩
 rintro pins s σ H D E P Ex A p I ⟨S,M,ρ,F,R,sm,sr,q,k,x⟩
 exact ABf ⟨σ,H,I,k.nx σ H ⟨S,M,ρ,sm,.refl,sr,q⟩⟩
theorem pd{b:Bool}{X:Cx}{st:Stmt}{t:DTX}(h:HX b X st t):HXs b X [st] t:=⟨λpins s σ H D E P Ex A p I q=>by
 refine ACa (thn (h.ok pins s σ H D E P Ex A p I q) λf s1 q=>?_)
 cases f with
 | next=>exact ABf q
 | ret v=>exact q
 | brk=>exact q
 | cont=>exact q⟩
theorem lV{X:Cx}{st:Stmt}{az:List Stmt}{t u:DTX}(h1:HX true X st t)(h2:HXs true X az u):HXs true X (st::az) (sT t u):=⟨λpins s σ H D E P Ex A p I ⟨S,M,ρ,F,R,sm,sr,q,k,x⟩=>by
 refine ACa (thn (h1.ok pins s σ H { D with nx:=λσ' H'=>SQ X.K ρ H (λS' M'=>u R F S' M') σ' H' } E P Ex A p I ⟨S,M,ρ,_,R,sm,sr,q,⟨λ_ _ z=>z,k.rt,k.bk,k.ct⟩,x⟩) λf s1 z=>?_)
 cases f with
 | next =>
  obtain⟨σ',H',I',S',M',ρ',s',g',sr',q'⟩:=z
  exact h2.ok pins s1 σ' H' D E P Ex A (A.all rfl σ') I' ⟨S',M',ρ',F,R,s',sr',q',k.trans g',λC dx H2 w=>x C dx H2 (w.trans g')⟩
 | ret v=>exact z
 | brk=>exact z
 | cont=>exact z⟩
theorem xN(hc:HT X.nox c tc)(ha:HXs b X a t)(hd:HXs b X d u):HX b X (.If c a d pos) (xIf tc t u):=⟨λpins s σ H D E P Ex A p I ⟨S,M,ρ,F,R,sm,sr,q,k,x⟩=>by
 refine wpAny_If (AAo (hc.ok pins s σ H _ (I.wish _) ⟨S,M,ρ,_,sm,sr,q,λ_ _ z=>z⟩) (λc s1 ⟨H1,I1,M1,ρ1,s1',g1,q1⟩=>?_) λ_ _ z=>AAp z)
 cases c with
 | true=>exact ha.ok pins s1 σ H1 D E P Ex A p I1.unwish ⟨S,M1,ρ1,F,R,s1',sr.grow g1,q1,k.trans g1,λC dx H2 w=>x C dx H2 (w.trans g1)⟩
 | false=>exact hd.ok pins s1 σ H1 D E P Ex A p I1.unwish ⟨S,M1,ρ1,F,R,s1',sr.grow g1,q1,k.trans g1,λC dx H2 w=>x C dx H2 (w.trans g1)⟩⟩
theorem tD(he:HXE b X e te):HX b X (.Return (some e) pos) (xRet te):=by
 refine⟨ ?_⟩
 rintro pins s σ H D E P Ex A p I ⟨S,M,ρ,F,R,sm,sr,q,k,x⟩
 refine wpAny_Return_some (thn (he.ok pins s σ H _ E P Ex A p I ⟨S,M,ρ,_,R,sm,sr,q,λv H1 w=>k.rt v H1 w,x⟩) ?_)
 rintro v s1 ⟨y,H1,I1,r1,q1⟩
 exact⟨y,σ,H1,I1,r1,q1⟩
theorem tz(hN:X.N.Nodup)(he:HXE b X e te)(hi:X.N[i]?=some x:=by kernel_rfl)(hx:uV X.env.scope x=true:=by kernel_rfl)(hs:swapsWith e (some (.Name x pos')) pos.line X.env=pure false:=by kernel_rfl)(hf:X.fn x=true:=by kernel_rfl) :
  HX b X (.Assign [.Name x pos'] e pos) (xSet te i):=⟨by
 rintro pins s σ H D E P Ex A p I ⟨S,M,ρ,F,R,sm,sr,q,k,xx⟩
 refine wpAny_Assign_Name (thn (he.ok pins s σ H _ E P Ex A p I ⟨S,M,ρ,_,R,sm,sr,q,λ_ _ z=>z,xx⟩) ?_) hs
 rintro v s1 ⟨y,H1,I1,r1,d,M1,ρ1,s1',g1,r',q1⟩
 exact dq I1 hN hi (lT hx) r1 (λs2 I2=>⟨_,H1,I2,k.nx _ H1 ⟨_,M1,ρ1,s1',g1,(sr.grow g1).set i r',q1⟩⟩) (.inl hf)⟩
theorem rS(hm:X.mg x=some (.ref C))(hn:ABI X.K mainGlobals x=some (some (.ref C)))(q:ACI X.K C vE "ValueError.__new__" = true)(ha:HA X.nox (e::es) ta)(hc:X.calm=true:=by kernel_rfl)
  (hg:X.env.kindOf x=some .globalImplicit:=by kernel_rfl) (he:starEach (e::es) X.env=(false,eval e X.env)::starEach es X.env:=by kernel_rfl) (hpl:(backTo cpos (starEach es X.env)).any (·.1)=false:=by kernel_rfl) (hdb:(x==("__debug__":Str))=false:=by kernel_rfl) :
  HX true X (.Raise (some (.Call (.Name x np) (e::es) [] cpos)) none pos) (eR x ta):=⟨λpins s σ H D E P Ex A p I ⟨S,M,ρ,F,R,sm,sr,w,k,xx⟩=>by
 refine qX I hm q hc (AAo (ha.ok.nox (Ex:=Ex) I ⟨S,M,ρ,_,sm,sr,w,λ_ _ z=>z⟩) (λus s2 ⟨vs,H1,I1,r,ds,M1,ρ1,s1',g1,r1,z,y⟩=>?_) λ_ _ z=>z) hg he hpl hdb
 refine⟨by rw[<-r.length,<-r1.length];exact z,I1.bk,λh' e m=>A.made rfl σ H1 s2 h' e _ _ I1 m (xx _ _ _ ⟨x,C,M1,ρ1,rfl,hn,s1',g1,y⟩)⟩⟩
def spX(K:AA)(P:sR):Sp:=λvs H Q E=>∃ds M ρ R RX,Sim K ρ M H/\Reps K ρ H ds vs/\P ds M R RX/\(∀v H',VQ K ρ H R v H'->Q v H')/\∀C dx H',XQ K ρ H RX C dx H'->E C dx H'
def sS(P:Program)(w:World)(K:AA)(mg:Str->Option Value)(base:Heap)(k:Nat)(x:Str)(ps:List Str)(Pr:sR):Prop :=
 ∃f fd,FnOk P w K mg base (CXe P w) k f fd ps (spX K Pr)/\mg x=some (.ref f)/\ABF K (.ref f)=true/\gm K fd ps []
theorem tE(C:sS X.prog X.w X.K X.mg X.base j x ps P)(hr:Room k X.A)(ha:HA X.nox (e::es) t)(hj:Nat.ble j k=true:=by kernel_rfl)(hg:X.env.kindOf x=some .globalImplicit:=by kernel_rfl)
  (hdb:(x==("__debug__":Str))=false:=by kernel_rfl) (he:starEach (e::es) X.env=(false,eval e X.env)::starEach es X.env:=by kernel_rfl) (hpl:(backTo pos (starEach es X.env)).any (·.1)=false:=by kernel_rfl):HXE b X (.Call (.Name x p) (e::es) [] pos) (xCB P t):=⟨by
 rintro pins s σ H Q E Pσ Ex A pσ I ⟨S,M,ρ,F,R,sm,sr,q,k,xx⟩
 obtain⟨f,fd,Fk,hm,hk,hb⟩:=C
 refine ABq (dP I hg hm ?_ hdb)
 refine ACx (h₀:=X.base) I.ok.mod.kin hk (AAo (ha.ok.nox (Ex:=Ex) (pos:=pos) I ⟨S,M,ρ,_,sm,sr,q,λ_ _ z=>z⟩) (λus s1 z=>?_) λ_ _ z=>z) he hpl
 obtain⟨vs,H1,I1,r,ds,M1,ρ1,s1',g1,r1,q1⟩:=z
 refine⟨I1.kIn,?_⟩
 have hsp:spX X.K P (vs++[]) H1 Q E:=⟨ds,M1,ρ1,F,R,s1',by rw[AAw];exact r1,q1,λv H' w=>k v H' (VQ.trans g1 w),λC dx H' w=>xx C dx H' (w.trans g1)⟩
 have r2:aq (vs++[]) (us++[]):=by rw[AAw,AAw];exact r
 have hl:(us++[]).length=ps.length:=by rw[<-r2.length];exact Fk.len _ _ _ _ hsp
 refine wpAny_call (ACw ((Fk.more (ACY hj)).run X.A X.stack s1 H1 ⟨us,[]⟩ (us++[]) (vs++[]) Q E hr I1.env0 (hb s1 us I1.kIn hl) r2 hsp) λr s' hq=>?_)
 cases r with
 | error e=>exact A.on σ H1 s1 e s' pσ I1 hq
 | ok fl =>
  cases fl with
  | ret u=>exact I1.after hq
  | next=>exact AAp hq
  | brk=>exact AAp hq
  | cont=>exact AAp hq⟩
abbrev LenX(Pr:sR)(ps:List Str):Prop:=∀ds M R RX,Pr ds M R RX->ds.length=ps.length
abbrev DerX(P:Program)(w:World)(K:AA)(mg:Str->Option Value)(base:Heap)(k:Nat)(x:Str)(N:List Str)(st:Stmt)(t:DTX):Prop :=
 ∀(f:Addr) (cdv:Value) (A:Around) (outer:List Env) (s:Shared) (H:Hp) (E:XK),Room k (A.deeper (ACn x (af st) s.heap.objs.size f cdv))->HXs true (iE (CXe P w) P w K mg base N x (af st) f cdv A outer s H E) (aQ st) t
theorem sS.by{P:Program}{w:World}{K:AA}{mg:Str->Option Value}{base:Heap}{x:Str}{st:Stmt}{N ps:List Str}{k:Nat}{Pr:sR}{B:List Str}{C:List (Str×Int)}{t:DTX}(T:TopB mg B C)(F:dF K mg x st ps)(Sc:FnScope N ps (af st))(len:LenX Pr ps)(der:TopB mg B C->N.Nodup->DerX P w K mg base k x N st t)(wp:∀ds M R RX,Pr ds M R RX->t (XEnd M RX) (EE M R) (bo N ds) M):sS P w K mg base (k+1) x ps Pr:=by
 obtain⟨f,fd,F1,hm,hb⟩:=F
 refine⟨f,fd,?_,hm,F1.kp,hb⟩
 obtain⟨oc,od,kV,doc,pm,an,cdv,ct,osl,rfl,lk,hcd⟩:=F1.ex
 refine yC lk hcd Sc (λvs H Q E ⟨ds,M,ρ,R,RX,s,r,q,_⟩=>by rw[<-r.length];exact len ds M R RX q) λA outer s H vs Q E hr h=>?_
 obtain⟨ds,M,ρ,R,RX,sm,r,q,kk,kx⟩:=h
 refine⟨lowX K E t,λpins s1 σ H1 D I z=>(der T Sc.nd f cdv A outer s H E hr).ok pins s1 σ H1 D E (λ_=>True) _ ⟨λσ' H2 s2 e s' _ I2 c=>uF pins σ' H2 s2 e s' I2 c,λ_ _=>trivial,λ_ σ' H2 s2 h' e C vs I2 m q=>uS I2 m q⟩ trivial I z,
  bo N ds,M,ρ,_,_,sm,SRep.start r N,wp ds M R RX q,⟨λσ' H' ⟨S',M',ρ',s',g',sr',q'⟩=>?_,λv H' z=>kk v H' (VQ.endq sm z),λσ' H' ⟨S',M',ρ',s',g',sr',q'⟩=>q'.elim,λσ' H' ⟨S',M',ρ',s',g',sr',q'⟩=>q'.elim⟩,λC dx H' z=>kx C dx H' (XQ.endq sm z)⟩
 exact kk .non H' (VQ.endq sm ⟨.non,M',ρ',s',g',.non,q'⟩)
abbrev WpX(Pr:sR)(n:Nat)(t:DTX):Prop:=∀ds M R RX,Pr ds M R RX->t (XEnd M RX) (EE M R) (dst n ds) M
theorem vN{X:Cx}{c:Bool}{b:List Stmt}{st:Stmt}{sts:List Stmt}{t:DTX}(h:b=st::sts)(q:HXs c X (st::sts) t):HXs c X b t:=h ▸ q
noncomputable abbrev nk:=List (Str×List (Str×Bool))
noncomputable def ng(K:AA)(t:Str×List (Str×Bool)):Bool:=match ABI K mainGlobals t.1 with
 | some (some (.ref C))=>ACI K C vE "ValueError.__new__" && ABZ K (.ref C) "__getattribute__" == some (some (.builtin "BaseException.__getattribute__"))&&ABZ K (.ref C) "__getattr__" == some none &&
   PySem.W.mroIn K C (.type "BaseException")==some true&&PySem.W.mroIn K C (.type "object")==some true&&ABZ K (.ref C) "__class__" == some (some (.builtin "object.__class__"))&&AAl K (.ref C) (.type "ValueError")==some true &&
   t.2.all λr=>match ABI K mainGlobals r.1 with
    | some (some (.ref C'))=>AD1 K (.ref C) (.ref C')==some r.2&&AAl K (.ref C) (.ref C')==some r.2&&AAl K (.type "NoneType") (.ref C')==some false
    | _=>false
 | _=>false
noncomputable def bO(K:AA)(T:nk):Bool:=T.all (ng K)
noncomputable def qB(T:nk)(x y:Str):Option Bool:=(T.lookup x).bind (·.lookup y)
structure ClsX(K:AA)(x:Str)(C:Addr):Prop where
 at_:ABI K mainGlobals x=some (some (.ref C))
 exc:ACI K C vE "ValueError.__new__" = true
 own:ExcK K C
 val:AAl K (.ref C) (.type "ValueError")=some true
theorem ng.cls{K:AA}{x:Str}{row:List (Str×Bool)}(h:ng K (x,row)=true):∃C,ClsX K x C/\∀y v,(y,v)∈row->∃C',ABI K mainGlobals y=some (some (.ref C'))/\AD1 K (.ref C) (.ref C')=some v/\AAl K (.ref C) (.ref C')=some v/\AAl K (.type "NoneType") (.ref C')=some false:=by
 unfold ng at h
 split at h
 ·rename_i C e
  simp only[AAG,beq_iff_eq]at h
  obtain⟨⟨⟨⟨⟨⟨⟨h1,h2⟩,h3⟩,h4⟩,h5⟩,h6⟩,h7⟩,h8⟩:=h
  refine⟨C,⟨e,h1,⟨h2,h3,h4,h5,h6⟩,h7⟩,λy v hy=>?_⟩
  have:=AAc.mp h8 (y,v) hy
  dsimp only at this
  split at this
  ·rename_i C' e'
   simp only[AAG,beq_iff_eq]at this
   exact⟨C',e',this.1.1,this.1.2,this.2⟩
  ·cases this
 ·cases h
theorem cH{α β:Type}[BEq α][LawfulBEq α]{a:α}{v:β}:∀{l:List (α×β)},l.lookup a=some v->(a,v)∈l
 | [],h=>by cases h
 | (c,w)::l,h=>by
  rw[AB3]at h
  split at h
  ·rename_i e;cases h;rw[beq_iff_eq.mp e];exact AAI
  ·exact AAA _ (cH h)
theorem bO.cls{K:AA}{T:nk}{x:Str}(h:bO K T=true)(hx:(T.lookup x).isSome=true):∃C,ClsX K x C/\∀y v,qB T x y=some v->∃C',ABI K mainGlobals y=some (some (.ref C'))/\AD1 K (.ref C) (.ref C')=some v/\AAl K (.ref C) (.ref C')=some v/\AAl K (.type "NoneType") (.ref C')=some false:=by
 obtain⟨row,e⟩:=ACA.mp hx
 obtain⟨C,c,r⟩:=ng.cls (AAc.mp h _ (cH e))
 refine⟨C,c,λy v hv=>?_⟩
 unfold qB at hv
 rw[e]at hv
 exact r y v (cH hv)
theorem qB.has(h:qB T x y=some v):(T.lookup x).isSome=true:=by
 unfold qB at h
 cases q:T.lookup x with
 | none=>rw[q]at h;cases h
 | some _=>rfl
section
variable{b:Bool}{X:Cx}{e:Expr}{es:List Expr}{x:Str}{pos:Pos}
theorem jQ{np cpos:Pos}{ta:DTA}{T:nk}(hT:bO X.K T=true)(ha:HA X.nox (e::es) ta)(hx:(T.lookup x).isSome=true:=by kernel_rfl)(hc:X.calm=true:=by kernel_rfl)
  (hg:X.env.kindOf x=some .globalImplicit:=by kernel_rfl) (he:starEach (e::es) X.env=(false,eval e X.env)::starEach es X.env:=by kernel_rfl) (hpl:(backTo cpos (starEach es X.env)).any (·.1)=false:=by kernel_rfl) (hdb:(x==("__debug__":Str))=false:=by kernel_rfl) :
  HX true X (.Raise (some (.Call (.Name x np) (e::es) [] cpos)) none pos) (eR x ta):=⟨λpins s σ H D E P Ex A p I z=>by
 obtain⟨C,c,_⟩:=bO.cls hT hx
 exact(rS (ACF I.mod.kin I.mod.glob c.at_) c.at_ c.exc ha hc hg he hpl hdb).ok pins s σ H D E P Ex A p I z⟩
def dTry(T:nk)(y:Str)(i:Nat)(tb:DTX)(ts:Addr->DTS):DTS:=λF S M =>
 tb (λx M'=>qB T x y=some true/\∀a,ts a ⟨λS' M''=>F.nx (S'.set i none) M'',λ_ _=>False,λ_ _=>False,λ_ _=>False⟩ (S.set i (some (.ref M'.length))) (M'++[.exc x a])) F S M
theorem SRep.drop{K:AA}{ρ:List Addr}{H:Hp}{S:SD}{σ:St}(r:SRep K ρ H S σ)(i:Nat):SRep K ρ H (S.set i none) (σ.set i none):=by
 refine⟨by simpa using r.len,λj d e=>?_⟩
 by_cases h:i=j
 ·subst h
  by_cases hl:i<S.length
  ·rw[AAg hl]at e;cases e
  ·rw[ABV (by simpa using hl)]at e;cases e
 ·rw[AAt h]at e
  obtain⟨v,hv,rv⟩:=r.get j d e
  exact⟨v,by rw[AAt h];exact hv,rv⟩
theorem tG{T:nk}{y n:Str}{i:Nat}{body:List Stmt}{b₀:Stmt}{suite:List Stmt}{np hpos:Pos}{tb:DTX}{ts:Addr->DTS}(hT:bO X.K T=true)(hN:X.N.Nodup)(hb:HXs false X body tb)(hs:∀a,HB (X.held a) (b₀::suite) (ts a))
  (d1:X.stack=X.env::X.outer:=by kernel_rfl) (d2:X.env.frame=some X.env.locals:=by kernel_rfl) (d3:X.ex=[]:=by kernel_rfl) (hi:X.N[i]?=some n:=by kernel_rfl) (hk:X.env.scope.names.lookup n=some .local:=by kernel_rfl)
  (hg:X.env.kindOf y=some .globalImplicit:=by kernel_rfl) (hdb:(y==("__debug__":Str))=false:=by kernel_rfl) :
  HS X (.Try body [.ExceptHandler (some (.Name y np)) (some n) (b₀::suite) hpos] [] [] pos) (dTry T y i tb ts):=⟨by
 rintro pins s σ H D I ⟨S,M,ρ,F,sm,sr,q,k⟩
 refine wpAny_Try_except (thn (hb.ok pins s σ H D (XQ X.K ρ H _) (λσ'=>σ'=σ) _ ⟨?_,λz=>(nomatch z),λz=>(nomatch z)⟩ rfl I ⟨S,M,ρ,F,_,sm,sr,q,k,λ_ _ _ z=>z⟩) λf s1 z=>?_)
 ·rintro σ' H1 s1 e s' rfl I1 ⟨a,C,H2,rfl,ho,hbr,Fl,x,c,M',ρ',rfl,hx,s2,g2,hsub,q2⟩
  obtain⟨C0,c0,r0⟩:=bO.cls hT (qB.has hsub)
  obtain⟨C',hy,hm,_⟩:=r0 y true hsub
  have ec:C0=c:=by have:=c0.at_.symm.trans hx;cases this;rfl
  subst ec
  have na:H2 a=none:=by
   obtain⟨B,_,_,fly,_,_,_,trk⟩:=Fl
   cases q:H2 a with
   | none=>rfl
   | some u =>
    obtain⟨o,ho⟩:=trk a u q
    rw[fly.nw]at ho
    cases ho
  refine qm (C:=C0) (C':=C') (i:=i) I1 ⟨d1,d2,d3⟩ ho hbr Fl hN hi hk (ACF I.mod.kin I.mod.glob hy) hm (hs a).ok (λoe ix=>⟨S.set i (some (.ref M'.length)),M'++[.exc x a],ρ'++[a],_,s2.laidM (mo:=.exc x a) na ⟨rfl,C0,oe,hx,ix,aL⟩,(sr.grow (g2.trans (Grow.laidR na))).set i (.ref s2.last),q2 a,⟨λσ3 H3 w=>?_,λ_ _ w=>?_,λ_ _ w=>?_,λ_ _ w=>?_⟩⟩) hg hdb
  ·obtain⟨S3,M3,ρ3,s3,g3,sr3,q3⟩:=w
   exact k.nx _ H3 ⟨_,M3,ρ3,s3,(g2.trans (Grow.laidR na)).trans g3,sr3.drop i,q3⟩
  ·obtain⟨_,_,_,_,_,_,q3⟩:=w;exact q3
  ·obtain⟨_,_,_,_,_,_,q3⟩:=w;exact q3
  ·obtain⟨_,_,_,_,_,_,q3⟩:=w;exact q3
 ·cases f with
  | next=>exact ABf z
  | ret v=>exact z
  | brk=>exact z
  | cont=>exact z⟩
noncomputable def subY(T:nk)(y:Str):Bool:=T.any λr=>(r.2.lookup y).isSome
theorem bO.any{K:AA}{T:nk}{y:Str}(h:bO K T=true)(hy:subY T y=true):∃C',ABI K mainGlobals y=some (some (.ref C'))/\AAl K (.type "NoneType") (.ref C')=some false:=by
 obtain⟨⟨x,row⟩,hr,hl⟩:=List.any_eq_true.mp hy
 obtain⟨v,hv⟩:=ACA.mp hl
 obtain⟨C,_,r⟩:=ng.cls (AAc.mp h _ hr)
 obtain⟨C',h1,_,_,h4⟩:=r y v (cH hv)
 exact⟨C',h1,h4⟩
def mh(T:nk)(y:Str)(te:DTE):DTE:=λS M Q=>te S M λd M1=>match d with
 | .ref n=>(match M1[n]? with
  | some (.exc x _)=>(match qB T x y with
   | some v=>Q (.bl v) M1
   | none=>False)
  | _=>False)
 | .non=>Q (.bl false) M1
 | _=>False
def dIsV(T:nk)(te:DTE):DTE:=λS M Q=>te S M λd M1=>match d with
 | .ref n=>(match M1[n]? with
  | some (.exc x _)=>(T.lookup x).isSome=true/\Q (.bl true) M1
  | _=>False)
 | .non=>Q (.bl false) M1
 | _=>False
def rIsC(K:AA)(c:V)(u:Value):List V->Hp->VK->Prop:=λvs H Q=>∃v1,vs=[v1,c]/\((v1=.non/\AAl K (.type "NoneType") u=some false/\Q (.bl false) H)\/∃a C o v,v1=.ref a/\H a=some (.frz o (.own a))/\IsX o (.ref C)/\ExcK K C/\AAl K (.ref C) u=some v/\Q (.bl v) H)
theorem mn(hr:∀u',aH c u'->u'=u):cL X (.builtin "isinstance") (rIsC X.K c u):=by
 rintro pins s σ H vs us Q I rv ⟨v1,rfl,h⟩
 obtain⟨u1,u2,rfl,r1,r2⟩:=aq.two rv
 obtain rfl:=hr u2 r2
 rcases h with⟨rfl,hk,q⟩|⟨a,C,o,v,rfl,ha,ix,hE,hk,q⟩
 ·obtain rfl:u1=AB0:=r1
  exact PySem.W.kia_one PySem.W.kitx_none I.kIn trivial hk (by intro z;cases z) λtk=>⟨.bl false,H,I.tok tk,rfl,q⟩
 ·obtain rfl:u1=ABC a:=r1
  exact PySem.W.kia_one (rV hE) I.kIn ⟨o,(I.hok a _ ha).1,ix.1⟩ hk (by intro z;cases z) λtk=>⟨.bl v,H,I.tok tk,rfl,q⟩
theorem yg{T:nk}{y:Str}{p py:Pos}{te:DTE}(hT:bO X.K T=true)(hm:X.mg "isinstance" = none)(he:HE X e te)(hY:subY T y=true:=by kernel_rfl)(hg:X.env.kindOf "isinstance" = some .globalImplicit:=by kernel_rfl)(hy:X.env.kindOf y=some .globalImplicit:=by kernel_rfl)(hdb:(y==("__debug__":Str))=false:=by kernel_rfl)
  (hs1:starEach [e,.Name y py] X.env=(false,eval e X.env)::starEach [.Name y py] X.env:=by kernel_rfl) (hs2:starEach [.Name y py] X.env=(false,eval (.Name y py) X.env)::starEach [] X.env:=by kernel_rfl) (hpl:(backTo pos (starEach [.Name y py] X.env)).any (·.1)=false:=by kernel_rfl) :
  HE X (.Call (.Name "isinstance" p) [e,.Name y py] [] pos) (mh T y te):=⟨by
 rintro pins s σ H Q I ⟨S,M,ρ,R,sm,sr,q,k⟩
 obtain⟨C',hn,hnone⟩:=bO.any hT hY
 refine ie (mn (X:=X) (c:=.ref C') (u:=.ref C') λu' r=>r) hg hm cv (fw he.ok (fw (oB (v:=.ref C') hy (ACF I.mod.kin I.mod.glob hn) rfl hdb) oG hs2) hs1) (by decide) (by decide) hs1 hpl pins s σ H Q I ?_
 refine⟨S,M,ρ,_,sm,sr,q,?_⟩
 rintro v H1 ⟨d,M1,ρ1,s1,g1,r1,q1⟩
 show rIsC X.K (.ref C') (.ref C') [v,.ref C'] H1 Q
 refine⟨v,rfl,?_⟩
 cases d with
 | non =>
  obtain rfl:=Rep.inv_non r1
  exact .inl ⟨rfl,hnone,k _ _ ⟨_,M1,ρ1,s1,g1,.bl false,q1⟩⟩
 | ref n =>
  obtain⟨a,rfl,hn1⟩:=Rep.inv_ref r1
  dsimp only at q1
  split at q1
  ·rename_i x _ hx
   split at q1
   ·rename_i v hv
    obtain⟨C,c,r⟩:=bO.cls hT (qB.has hv)
    obtain⟨C2,hn2,_,hk,_⟩:=r y v hv
    have ec:C2=C':=by have:=hn2.symm.trans hn;cases this;rfl
    subst ec
    obtain⟨_,C3,o3,h3,ix,ha⟩:=s1.obj n a _ hn1 hx
    have ec:C3=C:=by have:=h3.symm.trans c.at_;cases this;rfl
    subst ec
    exact .inr ⟨a,C3,o3,v,rfl,ha,ix,c.own,hk,k _ _ ⟨_,M1,ρ1,s1,g1,.bl v,q1⟩⟩
   ·exact q1.elim
  ·exact q1.elim
 | _=>exact q1.elim⟩
theorem iG:bootBuiltins "ValueError" = some (.type "ValueError"):=by decide +kernel
theorem pk{K:AA}:AAl K (.type "NoneType") (.type "ValueError")=some false:=by kernel_rfl
theorem yh{T:nk}{p py:Pos}{te:DTE}(hT:bO X.K T=true)(hm:X.mg "isinstance" = none)(hv:X.mg "ValueError" = none)(he:HE X e te)(hg:X.env.kindOf "isinstance" = some .globalImplicit:=by kernel_rfl)(hy:X.env.kindOf "ValueError" = some .globalImplicit:=by kernel_rfl)
  (hs1:starEach [e,.Name "ValueError" py] X.env=(false,eval e X.env)::starEach [.Name "ValueError" py] X.env:=by kernel_rfl) (hs2:starEach [.Name "ValueError" py] X.env=(false,eval (.Name "ValueError" py) X.env)::starEach [] X.env:=by kernel_rfl) (hpl:(backTo pos (starEach [.Name "ValueError" py] X.env)).any (·.1)=false:=by kernel_rfl) :
  HE X (.Call (.Name "isinstance" p) [e,.Name "ValueError" py] [] pos) (dIsV T te):=⟨by
 rintro pins s σ H Q I ⟨S,M,ρ,R,sm,sr,q,k⟩
 refine ie (mn (X:=X) (c:=.ty "ValueError") (u:=.type "ValueError") λu' r=>r) hg hm cv (fw he.ok (fw (oF (v:=.ty "ValueError") hy hv iG rfl) oG hs2) hs1) (by decide) (by decide) hs1 hpl pins s σ H Q I ?_
 refine⟨S,M,ρ,_,sm,sr,q,?_⟩
 rintro v H1 ⟨d,M1,ρ1,s1,g1,r1,q1⟩
 show rIsC X.K (.ty "ValueError") (.type "ValueError") [v,.ty "ValueError"] H1 Q
 refine⟨v,rfl,?_⟩
 cases d with
 | non =>
  obtain rfl:=Rep.inv_non r1
  exact .inl ⟨rfl,pk,k _ _ ⟨_,M1,ρ1,s1,g1,.bl false,q1⟩⟩
 | ref n =>
  obtain⟨a,rfl,hn1⟩:=Rep.inv_ref r1
  dsimp only at q1
  split at q1
  ·rename_i x _ hx
   obtain⟨C,c,_⟩:=bO.cls hT q1.1
   obtain⟨_,C3,o3,h3,ix,ha⟩:=s1.obj n a _ hn1 hx
   have ec:C3=C:=by have:=h3.symm.trans c.at_;cases this;rfl
   subst ec
   exact .inr ⟨a,C3,o3,true,rfl,ha,ix,c.own,c.val,k _ _ ⟨_,M1,ρ1,s1,g1,.bl true,q1.2⟩⟩
  ·exact q1.elim
 | _=>exact q1.elim⟩
end
structure RoomH(k:Nat)(A:Around):Prop where
 dp:A.depth+3*k+5<recursionLimit
 un:A.units+16*k+200<cLine
theorem Room.held(r:Room k A)(h:Option Value):RoomH k (A.mark h):=⟨r.dp,r.un⟩
theorem RoomH.mono(r:RoomH k A)(h:j<=k):RoomH j A:=⟨by have:=r.dp;lia,by have:=r.un;lia⟩
theorem RoomH.deeper(r:RoomH (k+1) A)(env:Env):RoomH k (A.deeper env) :=
 ⟨by have:=r.dp;show A.depth+1+3*k+5<_;lia,by have:=r.un;show A.units+3+16*k+200<_;lia⟩
theorem RoomH.depth(r:RoomH k A):A.depth<recursionLimit:=by have:=r.dp;lia
def tT(A:Around)(H:Hp):Prop:=∃a o C,A.handled=some (.ref a)/\H a=some (.frz o (.own a))/\IsX o C
abbrev sQ(X:Cx):Prop:=tT X.A X.H₀
noncomputable abbrev cxH(P:Program)(w:World)(K:AA)(mg:Str->Option Value)(base:Heap)(N:List Str)(qual:Str)(scope:Scope)(f:Addr)(cd:Value)(A:Around)(outer:List Env)(s:Shared)(H:Hp)(E:XK):Cx :=
 { iE CX0 P w K mg base N qual scope f cd A outer s H E with calm:=false,xe:=λ_ _=>False }
structure FnH(P:Program)(w:World)(K:AA)(mg:Str->Option Value)(base:Heap)(k:Nat)(f:Addr)(fd:FuncData)(ps:List Str)(sp:Sp):Prop where
 len:∀vs H Q E,sp vs H Q E->vs.length=ps.length
 run:∀(A:Around) (outer:List Env) (s:Shared) (H:Hp) (args:Args) (us:List Value) (vs:List V) (Q:VK) (E:XK),RoomH k A->tT A H->Env0 P w K mg base A outer s H->BindsTo s fd args (ps.zip us)->aq vs us->sp vs H Q E ->
  codeAny (model P w) A (.call (.ref f) args) (CR CX0 outer P w H s Q E) s
theorem FnH.more{P:Program}{w:World}{K:AA}{mg:Str->Option Value}{base:Heap}{j k:Nat}{f:Addr}{fd:FuncData}{ps:List Str}{sp:Sp}(F:FnH P w K mg base j f fd ps sp)(h:j<=k):FnH P w K mg base k f fd ps sp :=
 ⟨F.len,λA outer s H args us vs Q E hr=>F.run A outer s H args us vs Q E (hr.mono h)⟩
theorem yB{P:Program}{w:World}{K:AA}{mg:Str->Option Value}{base:Heap}{k:Nat}{f:Addr}{name qual:Str}{params:Arguments}{body:List Stmt}{scope:Scope}{dV kV doc pm cdv ct oc:Value}{an od:Option Addr}
  {osl:Array (Option Value)}{N ps:List Str}{sp:Sp} (lk:K.lookup f=some ⟨oc,od,.func (ABN name qual params body scope dV kV doc pm an cdv ct),osl⟩) (hcd:ACS K cdv qual=true) (S:FnScope N ps scope)
  (len:∀vs H Q E,sp vs H Q E->vs.length=ps.length)
  (hbody:∀(A:Around) (outer:List Env) (s:Shared) (H:Hp) (vs:List V) (Q:VK) (E:XK),RoomH k (A.deeper (envOfC qual scope s.heap.objs.size f cdv))->sQ (cxH P w K mg base N qual scope f cdv A outer s H E)->sp vs H Q E ->
   ∃t,PSs (cxH P w K mg base N qual scope f cdv A outer s H E) body t/\t { nx:=λ_ H'=>Q .non H',rt:=Q } (start N vs) H) :
  FnH P w K mg base (k+1) f (ABN name qual params body scope dV kV doc pm an cdv ct) ps sp:=by
 refine⟨len,λA outer s H args us vs Q E hr hX e0 hb r hsp=>?_⟩
 have hl:=len _ _ _ _ hsp
 have KX:K.In s.heap:=e0.mod.kin.keeps λb o e=>(e0.bs b o e).1
 have lim:s.heap.NoLimit:=e0.mod.nolimit.keeps λb o e=>(e0.bs b o e).1
 have hkind:∀y∈ps.zip us,scope.names.lookup y.1=some .local\/(scope.names.lookup y.1=some .cell/\((cellsFrom (s.heap.objs.size+1) scope.names []).lookup y.1).isSome=true):=λ⟨n,v⟩ hy=>by
  rcases S.par n (ACh hy).1 with q | q
  ·exact .inl q
  ·exact .inr ⟨q,ACK _ _ _ (.inl q)⟩
 refine codeAny_call_function hr.depth (KX _ _ lk) rfl S.co S.gen rfl (PySem.W.codeRec_of KX hcd) (hb _ _ _ _ ?_)
 refine wpAny_newFunctionEnv_cells S.kind hkind λenv he s1 x=>?_
 subst he
 refine⟨lim.keeps x.toInCall.keep,codeAny_func ?_⟩
 obtain⟨t,ht,hq⟩:=hbody A outer s H vs Q E (hr.deeper _) hX hsp
 have e1:Env0 P w K mg base { A with handled:=none } outer s H:=⟨e0.frames,e0.mod,e0.bs,e0.bsz,e0.funs,e0.frf,e0.hok,e0.bare⟩
 have I0:Inv (iE CX0 P w K mg base N qual scope f cdv { A with handled:=none } outer s H E) [] (start N vs) H s1:=jT S rfl e1 hl r x
 have I:Inv (cxH P w K mg base N qual scope f cdv A outer s H E) [] (start N vs) H s1 :=
  ⟨⟨I0.ok.mod,I0.ok.kind,I0.ok.glob,I0.ok.blt,I0.ok.above,I0.ok.inj,I0.ok.has,I0.ok.cab,(λz=>Bool.noConfusion z),Around.frames_deeper e0.frames,I0.ok.stk,I0.ok.exf,I0.ok.bs,I0.ok.bsz,I0.ok.noex,I0.ok.exfs,I0.ok.funs,I0.ok.frf⟩,I0.os,I0.bare,I0.base,I0.loc,I0.cell,I0.free,I0.freeC,I0.pin,I0.hok,I0.len⟩
 refine AAo (ht [] s1 (start N vs) H _ I hq) (λfl s' hs=>?_) λe s' hs=>hs.elim
 have fin:∀{σ':St}{H':Hp}{v:V}{u:Value},Inv (cxH P w K mg base N qual scope f cdv A outer s H E) [] σ' H' s'->aH v u->Q v H'->CE outer P w H s Q u s' :=
  λ{σ' H' v u} J rv q=>⟨v,H',J.os,J.bare,J.base,J.hok,rv,q⟩
 cases fl with
 | ret u =>
  obtain⟨v,σ',H',J,rv,q⟩:=hs
  exact fin J rv q
 | next =>
  obtain⟨σ',H',J,q⟩:=hs
  exact fin (v:=V.non) (u:=AB0) J rfl q
 | brk =>
  obtain⟨_,_,_,q⟩:=hs
  exact AAp q
 | cont =>
  obtain⟨_,_,_,q⟩:=hs
  exact AAp q
def zp(P:Program)(w:World)(K:AA)(mg:Str->Option Value)(base:Heap)(k:Nat)(x:Str)(ps:List Str)(Pr:DSp):Prop :=
 ∃f fd,FnH P w K mg base k f fd ps (spL K Pr)/\mg x=some (.ref f)/\ABF K (.ref f)=true/\gm K fd ps []
abbrev DerH(P:Program)(w:World)(K:AA)(mg:Str->Option Value)(base:Heap)(k:Nat)(x:Str)(N:List Str)(st:Stmt)(t:DTS):Prop :=
 ∀(f:Addr) (cdv:Value) (A:Around) (outer:List Env) (s:Shared) (H:Hp) (E:XK),RoomH k (A.deeper (ACn x (af st) s.heap.objs.size f cdv))->sQ (cxH P w K mg base N x (af st) f cdv A outer s H E)->HB (cxH P w K mg base N x (af st) f cdv A outer s H E) (aQ st) t
theorem zp.by{P:Program}{w:World}{K:AA}{mg:Str->Option Value}{base:Heap}{x:Str}{st:Stmt}{N ps:List Str}{k:Nat}{Pr:DSp}{B:List Str}{C:List (Str×Int)}{t:DTS}(T:TopB mg B C)(F:dF K mg x st ps)(Sc:FnScope N ps (af st))(len:iJ Pr ps)(der:TopB mg B C->N.Nodup->DerH P w K mg base k x N st t)(wp:∀ds M R,Pr ds M R->t (EE M R) (bo N ds) M):zp P w K mg base (k+1) x ps Pr:=by
 obtain⟨f,fd,F1,hm,hb⟩:=F
 refine⟨f,fd,?_,hm,F1.kp,hb⟩
 obtain⟨oc,od,kV,doc,pm,an,cdv,ct,osl,rfl,lk,hcd⟩:=F1.ex
 refine yB lk hcd Sc (λvs H Q E ⟨ds,M,ρ,R,s,r,q,_⟩=>by rw[<-r.length];exact len ds M R q) λA outer s H vs Q E hr hX h=>?_
 obtain⟨ds,M,ρ,R,sm,r,q,kk⟩:=h
 refine⟨lowS K t,(der T Sc.nd f cdv A outer s H E hr hX).ok,bo N ds,M,ρ,_,sm,SRep.start r N,wp ds M R q,⟨λσ' H' ⟨S',M',ρ',s',g',sr',q'⟩=>?_,λv H' z=>kk v H' (VQ.endq sm z),λσ' H' ⟨S',M',ρ',s',g',sr',q'⟩=>q'.elim,λσ' H' ⟨S',M',ρ',s',g',sr',q'⟩=>q'.elim⟩⟩
 exact kk .non H' (VQ.endq sm ⟨.non,M',ρ',s',g',.non,q'⟩)
def dCBH(a:Addr)(P:DSp)(t:DTA):DTE:=λS M Q=>t S M λds M1=>(∃(n:Nat) (x:Str),M1[n]?=some (MO.exc x a))/\P ds M1 Q
theorem yk{X:Cx}{a:Addr}{e:Expr}{es:List Expr}{x:Str}{p pos:Pos}{t:DTA}(C:zp X.prog X.w X.K X.mg X.base j x ps P)(hr:Room k X.A)(ha:HA (X.held a) (e::es) t)(hj:Nat.ble j k=true:=by kernel_rfl)(hg:X.env.kindOf x=some .globalImplicit:=by kernel_rfl)
  (hdb:(x==("__debug__":Str))=false:=by kernel_rfl) (he:starEach (e::es) X.env=(false,eval e X.env)::starEach es X.env:=by kernel_rfl) (hpl:(backTo pos (starEach es X.env)).any (·.1)=false:=by kernel_rfl):HE (X.held a) (.Call (.Name x p) (e::es) [] pos) (dCBH a P t):=⟨by
 rintro pins s σ H Q I ⟨S,M,ρ,F,sm,sr,q,k⟩
 obtain⟨f,fd,Fk,hm,hk,hb⟩:=C
 refine ABq (dP I hg hm ?_ hdb)
 refine ACx (h₀:=X.base) I.ok.mod.kin hk (thn (ha.ok pos pins s σ H _ I ⟨S,M,ρ,_,sm,sr,q,λ_ _ z=>z⟩) λus s1 z=>?_) he hpl
 obtain⟨vs,H1,I1,r,ds,M1,ρ1,s1',g1,r1,⟨n,x,hn⟩,q1⟩:=z
 obtain⟨a',hn',rfl,C,o,_,ix,ha⟩:=s1'.get hn
 refine⟨I1.kIn,?_⟩
 have hsp:spL X.K P (vs++[]) H1 Q E0:=⟨ds,M1,ρ1,F,s1',by rw[AAw];exact r1,q1,λv H' w=>k v H' (VQ.trans g1 w)⟩
 have r2:aq (vs++[]) (us++[]):=by rw[AAw,AAw];exact r
 have hl:(us++[]).length=ps.length:=by rw[<-r2.length];exact Fk.len _ _ _ _ hsp
 refine wpAny_call (ACw ((Fk.more (ACY hj)).run (X.held a).A X.stack s1 H1 ⟨us,[]⟩ (us++[]) (vs++[]) Q E0 (hr.held _) ⟨a,o,_,rfl,ha,ix⟩ I1.env0 (hb s1 us I1.kIn hl) r2 hsp) λr s' hq=>?_)
 cases r with
 | error e=>exact AAp hq
 | ok fl =>
  cases fl with
  | ret u=>exact I1.after hq
  | next=>exact AAp hq
  | brk=>exact AAp hq
  | cont=>exact AAp hq⟩
end L2
namespace L2
open PySem PySem.Spec PyProof.Rows DL PySem.W
end L2
namespace L2
open PySem PySem.Spec PyProof.Rows DL
abbrev wE:=DX->DTA
inductive lowXA(K:AA)(E:XK)(t:wE)(σ:St)(H:Hp)(Q:List V->Hp->Prop):Prop
 | mk (S:SD) (M:Mem) (ρ:List Addr) (F:List D->Mem->Prop) (R:DX) (s:Sim K ρ M H) (sr:SRep K ρ H S σ) (q:t R S M F) (k:∀v H',AQ K ρ H F v H'->Q v H') (x:∀C dx H',XQ K ρ H R C dx H'->E C dx H')
structure HXA(b:Bool)(X:Cx)(es:List Expr)(t:wE):Prop where
 ok:∀(pos:Pos) (pins:List (Addr×Obj)) (s:Shared) (σ:St) (H:Hp) (Q:List V->Hp->Prop) (E:XK) (P:St->Prop) (Ex:Value->Shared->Prop),XA b X pins E P Ex->P σ->Inv X pins σ H s->lowXA X.K E t σ H Q->wpAny (model X.prog X.w) X.A (spliced (backTo pos (starEach es X.env))) (AP X pins σ Q) Ex s
noncomputable def tU(te:ww)(t:DTA):wE:=λR=>aa (te R) t
theorem lW(ha:HXE b X e te)(hr:HA X.nox es t)(hs:starEach (e::es) X.env=(false,eval e X.env)::starEach es X.env:=by kernel_rfl):HXA b X (e::es) (tU te t):=⟨by
 rintro pos pins s σ H Q E P Ex A p I ⟨S,M,ρ,F,R,sm,sr,q,k,x⟩
 rw[hs]
 show wpAny _ _ (spliced ((false,eval e X.env)::backTo pos (starEach es X.env))) _ _ s
 refine ACv (thn (ha.ok pins s σ H _ E P Ex A p I ⟨S,M,ρ,_,R,sm,sr,q,λ_ _ z=>z,x⟩) ?_)
 rintro u s1 ⟨y,H1,I1,r1,d,M1,ρ1,s1',g1,r',q1⟩
 refine thn (hr.ok.nox (Ex:=Ex) (pos:=pos) I1 ⟨S,M1,ρ1,_,s1',sr.grow g1,q1,λ_ _ z=>z⟩) ?_
 rintro us s2 ⟨xs,H2,I2,r2,ds,M2,ρ2,s2',g2,r2',q2⟩
 exact⟨y::xs,H2,I2,.cons r1 r2,k _ H2 ⟨d::ds,M2,ρ2,s2',g1.trans g2,.cons (r'.grow g2) r2',q2⟩⟩⟩
end L2
namespace L2
open PySem PySem.Spec PyProof.Rows DL PySem.W
end L2
namespace L2
open PySem PySem.Spec PyProof.Rows DL
theorem iB:entryFor table "proto.unchain" = some Builtin.«proto.unchain»:=entryFor_of_tree (by kernel_rfl)
theorem mG{a b:Addr}{o ob:Obj}{C:Value}{vs:Array Value}{α:Type}{Q:α->Shared->Prop}(hh:A.handled=some (.ref a))(ha:s.heap.get? a=some o)(ix:IsX o C)(hb:s.heap.get? b=some ob)(hd:ob.data=.fields vs)(h2:2<vs.size)(ne:a≠b)
  (h:E (.ref b) { s with heap:=s.heap.update b (ACH (·.setIfInBounds 2 (.ref a))) }):wpAny (model prog w) A (raiseNew (.ref b):Sem α) Q E s:=by
 obtain⟨_,ws,hw,h3⟩:=ix
 unfold raiseNew
 refine AA0 (wpAny_handled ?_)
 rw[hh]
 have hne:(ABC a != ABC b)=true:=by simpa using ne
 dsimp only
 rw[if_pos hne]
 refine AA0 (ABE (runValue_entry iB ?_))
 unfold Builtin.«proto.unchain»
 refine AA0 (AAY ha hw h3 ?_)
 rw[if_pos (by rfl)]
 refine AA0 (AAD (AAD ⟨_,rfl,?_⟩))
 exact AA0 (AC4 hb hd h2 (wpAny_throw h))
theorem fY{a it:Addr}{o:Obj}{C:Value}{x left step:Int}{Q:Option Value->Shared->Prop}(hh:A.handled=some (.ref a))(ha:s.heap.get? a=some o)(ix:IsX o C)(hit:IsRangeIter s.heap it x left step)(hleft:left<=0)
  (hQ:∀h',(∀b o,s.heap.get? b=some o->h'.get? b=some o)->Q none { s with heap:=h' }):wpAny (model prog w) A (pyNext (.ref it)) Q E s:=by
 have hT:s.TypeIs (.ref it) "range_iterator":=⟨_,hit,rfl⟩
 unfold pyNext
 refine AA0 (ACg (AB (name:=AA2 "__next__") hT F.slot_range_iterator_next
  (ABB F.slot_range_iterator_next hT F.entry_range_iterator_next ?_ (F.args_range_iterator_next_1 _))))
 show wpAny _ _ (field (.ref it) 0 >>= _) _ _ s
 refine AA0 (AAY hit rfl (x:=rawInt x) rfl ?_)
 show wpAny _ _ (field (.ref it) 1 >>= _) _ _ s
 refine AA0 (AAY hit rfl (x:=rawInt left) rfl ?_)
 show wpAny _ _ (field (.ref it) 2 >>= _) _ _ s
 refine AA0 (AAY hit rfl (x:=rawInt step) rfl ?_)
 show wpAny _ _ (if left<=0 then _ else _) _ _ s
 rw[if_pos hleft]
 refine AA0 (wpAny_rule ?_)
 refine AA0 ?_
 show wpAny _ _ (newExc (.type "StopIteration") [] >>= _) _ _ _
 refine AA0 ?_
 simp only[newExc,newTuple]
 refine AA0 (AAs ?_ (by size_fits))
 refine AA0 (m:=firstArgMember _ _) (wpAny_of_eq (a:=AB0) (by first | rfl | (simp only[firstArgMember];rfl)) ?_)
 refine AAs ?_ (by size_fits)
 have lt:=AAB ha
 refine mG (A:=A.in1) hh (AA3 _ (AA3 _ ha)) ix (AAH _ rfl) rfl (by show 2<6;decide) ?_ ?_
 ·rw[AB7];exact AAK (ABP lt)
 ·have hs:=ABU (ACH (·.setIfInBounds 2 (.ref a))) (AAH (s.heap.push { cls:=.type "tuple",data:=.seq ([]:List Value).toArray }) (o:={ cls:=.type "StopIteration",data:=.fields (#[.ref s.heap.objs.size,.none,.none,.none,.bool false,.none]++ownMembersOf (.type "StopIteration") []) }) rfl) rfl
  refine AA0 (wpAny_isInstance (T:="StopIteration") (b:=true) ⟨_,hs,rfl⟩ isSubtype_stop ?_)
  refine AAD (hQ _ λb o e=>?_)
  have l2:=AAB e
  rw[ABD _ _ (by rw[AB7];exact Nat.ne_of_gt (ABP l2))]
  exact AA3 _ (AA3 _ e)
def sP(J:It)(fp:List Addr)(it:Addr)(tn:Nat->Heap->Prop):Prop:=∃lo n,J=Itr lo n/\fp=[it]/\tn=λi h=>IsRangeIter h it (lo+(i:Nat)*1) ((n:Int)-(i:Nat)) 1
theorem qV{J:It}{fp:List Addr}{it:Addr}{tn:Nat->Heap->Prop}{pins:List (Addr×Obj)}{σ:St}{H:Hp}{s:Shared}{N':List Str}{scope:Scope}{cl:List (Str×Addr)}{s0:Shared}{ex:List Addr}(hX:sQ X)(r:sP J fp it tn)(I:Inv X pins σ H s):TurnX (blk X N' scope cl s0 H ex) tg J fp it tn:=by
 obtain⟨lo,n,rfl,rfl,rfl⟩:=r
 obtain⟨a,o,C,hh,ha,ix⟩:=hX
 have ha':=I.base.frzs a o _ ha
 refine⟨λi pins s σ H E I hf st hg=>?_,λi pins s σ H E I hf st hg=>?_⟩
 ·obtain⟨f0,f1,f2,f3,f4,f5⟩:=hf it (by simp)
  have hg':i<n:=hg
  refine wpAny_pyNext_range_item st (by lia) λh' hit' hs'=>?_
  have e1:lo+((i+1:Nat):Int)*1=lo+(i:Int)*1+1:=by push_cast;lia
  have e2:(n:Int)-((i+1:Nat):Int)=(n:Int)-(i:Int)-1:=by push_cast;lia
  have I1:Inv (blk X N' scope cl s0 _ ex) pins σ H { s with heap:=h',toks:=s.toks+1 }:=I.turned (λb o hb e=>hs'.extBut b o hb e) f0 f1 f3 f4 f5
  refine⟨_,rfl,pO (s:={ s with heap:=h',toks:=s.toks+1 }) (n:="range_iterator") hit' rfl rfl (by decide) ⟨.int (lo+i),H,I1,⟨s.toks,?_⟩,⟨rfl,rfl⟩,?_,λb hb=>(hf b hb).1⟩⟩
  ·rw[Int.mul_one]
  ·rw[e1,e2];exact hit'
 ·have hg':n<=i:=hg
  exact fY hh (I.hok a _ (I.base.frzs a o _ ha')).1 ix st (by lia) λh' kk=>⟨rfl,I.kept (t':=s.toks) kk⟩
theorem ot{pins:List (Addr×Obj)}{σ:St}{H:Hp}{s:Shared}{R:It->Hp->Prop}{E:Value->Shared->Prop}{lo hi:Int}{t u v:Tok}{tk:Nat}(I:Inv X pins σ H s)(h1:-(2 ^ 62)<=lo)(h2:lo<2 ^ 62)(h3:-(2 ^ 62)<=hi)(h4:hi<2 ^ 62)
  (q:R (Itr lo (hi-lo).toNat) H):wpAny (model X.prog X.w) X.A (pyIter (.ref s.heap.objs.size)) (λitv s2=>∃it fp tn J H',itv=.ref it/\Inv X pins σ H' s2/\sP J fp it tn/\tn 0 s2.heap/\(∀b∈fp,iO X pins H' b)/\R J H') E { s with heap:=s.heap.push { cls:=.type "range",data:=.fields #[.int lo t,.int hi u,.int 1 v] },toks:=tk }:=by
 refine wpAny_pyIter_range (IsRange.new ..) (small_one h1 h2 h3 h4) ?_
 generalize ({ cls:=.type "range",data:=.fields #[.int lo t,.int hi u,.int 1 v] }:Obj)=O
 have I1:Inv X pins σ H { s with heap:=s.heap.push O,toks:=tk }:=I.kept λb o e=>AA3 _ e
 refine⟨(s.heap.push O).objs.size,[(s.heap.push O).objs.size],_,_,H,rfl,I1.kept (t':=tk) λb o e=>AA3 _ e,⟨lo,(hi-lo).toNat,rfl,rfl,rfl⟩,?_,λb hb=>?_,q⟩
 ·have e1:lo+((0:Nat):Int)*1=lo:=by simp
  have e2:(((hi-lo).toNat:Nat):Int)-((0:Nat):Int)=Builtin.Range.rangeSize lo hi 1:=by rw[rangeSize_one];split<;>lia
  show IsRangeIter _ _ (lo+((0:Nat):Int)*1) ((((hi-lo).toNat:Nat):Int)-((0:Nat):Int)) 1
  rw[e1,e2]
  exact AAH _ rfl
 ·have e:b=(s.heap.push O).objs.size:=by simpa using hb
  subst e
  exact I1.fpOk (AA8 _) (I1.hok.fresh (AA8 _))
theorem oz{a:Expr}{ta:TA}{p pos:Pos}(hg:Gl X "range")(hm:X.mg "range" = none)(ha:PA X [a] ta)(hs:starEach [a] X.env=[(false,eval a X.env)]):PIG X sP (.Call (.Name "range" p) [a] [] pos) (vM ta):=by
 intro pins s σ H R I h
 refine Call_ (gI I hg hm boot_range (ABR (thn (ha pos pins s σ H _ I h) ?_) hs rfl))
 rintro us s1 ⟨vs,H1,I1,r1,q1⟩
 obtain⟨j,e,q1,q2,q⟩:=q1
 subst e
 cases r1 with
 | cons r rr =>
  cases rr
  obtain⟨t,rfl⟩:=r
  exact call_range_1 (ot I1 (by lia) (by lia) q1 q2 (by simpa using q))
def dLCH(nt:Nat)(js:List Nat)(ta:DTA)(g:DTG)(tt:DTT)(te:DTE):DTE:=dLC nt js (aF ta) g tt te
theorem k_lcH(hX:sQ X)(hm:X.mg "range" = none)(ha:HA X [a] ta)
  (hg:∀cl s0 H0 ex,HG (blk X (lcN X.N js tg) scope cl s0 H0 ex) tg g) (ht:∀cl s0 H0 ex,HTs (blk X (lcN X.N js tg) scope cl s0 H0 ex) ifs tt) (he:∀cl s0 H0 ex,HE (blk X (lcN X.N js tg) scope cl s0 H0 ex) elt te)
  (B:fU X.env.scope.names X.N (lcN X.N js tg) nt js scope=true:=by kernel_rfl) (hs:∀x,foldedSetIterable (.Call (.Name "range" p) [a] [] pos') X.env x=pure x:=by intro _;kernel_rfl) (hgl:X.env.kindOf "range" = some .globalImplicit:=by kernel_rfl) (hst:starEach [a] X.env=[(false,eval a X.env)]:=by kernel_rfl) :
  HE X (.ListComp elt [⟨tg,.Call (.Name "range" p) [a] [] pos',ifs,0⟩] scope pos) (dLCH nt js ta g tt te) :=
 ⟨PE.imp (tf (PP:=sP) (g:=lowG X.K g) (tt:=lowT X.K tt) (te:=lowE X.K te) (BlkSc.chk B) (λJ fp it tn r=>⟨by obtain⟨lo,n,rfl,rfl,rfl⟩:=r;exact gn it lo n,λpins σ H s cl s0 ex I=>qV hX r I⟩)
  (λpins s σ H R I q=>oz hgl hm ha.ok hst pins s σ H R I (fH σ H R q)) (λcl s0 H0 ex=>(hg cl s0 H0 ex).ok) (λcl s0 H0 ex=>(ht cl s0 H0 ex).ok) (λcl s0 H0 ex=>(he cl s0 H0 ex).ok) hs) kM⟩
def hZ:DRA:=λds M Q=>match ds with
 | [.int i]=>i.natAbs.log2<1920/\Q (.str (toString i)) M
 | _=>False
def mH:DRA:=λds M Q=>match ds with
 | [.str x]=>∃n,PySem.intText? x=some n/\x.length<=640/\Q (.int n) M
 | _=>False
def dJ(z:Str):DRA:=λds M Q=>match ds with
 | [.str y]=>z.length<=sizeLine/\Q (.str (ACJ z y)) M
 | _=>False
def qd(ta tb:DTE):DTE:=λS M Q=>ta S M λx M1=>match x with
 | .str a=>a.length<=sizeLine/\tb S M1 λy M2=>match y with
  | .int i=>i.natAbs.log2<1920/\(a++AA2 (toString i)).length<=sizeLine/\Q (.str (a++AA2 (toString i))) M2
  | _=>False
 | _=>False
theorem wn:gl X (.type "str") hZ:=by
 rintro pins s σ H vs us R I rv ⟨ds,M,ρ,Q,sm,rs,q,kk⟩
 unfold hZ at q
 split at q
 ·rename_i i
  have hzz:=Reps.inv_cons rs
  clear rs
  obtain⟨_,_,rfl,r1,rs⟩:=hzz
  obtain rfl:=Reps.inv_nil rs
  obtain rfl:=Rep.inv_int r1
  obtain⟨u,rfl,t,rfl⟩:=aq.one rv
  exact PySem.P.str_of_int q.1 ⟨.str _,H,I.tok _,⟨_,rfl⟩,kk _ H (VQ.now sm (.str _) q.2)⟩
 ·exact q.elim
theorem vQ:HC X (.type "str") hZ:=⟨wn⟩
theorem wo:gl X (.type "int") mH:=by
 rintro pins s σ H vs us R I rv ⟨ds,M,ρ,Q,sm,rs,q,kk⟩
 unfold mH at q
 split at q
 ·rename_i x
  have hzz:=Reps.inv_cons rs
  clear rs
  obtain⟨_,_,rfl,r1,rs⟩:=hzz
  obtain rfl:=Reps.inv_nil rs
  obtain rfl:=Rep.inv_str r1
  obtain⟨u,rfl,t,rfl⟩:=aq.one rv
  obtain⟨n,hn,hl,q⟩:=q
  exact PySem.W.KIN.call_text hn hl ⟨.int _,H,I.tok _,⟨_,rfl⟩,kk _ H (VQ.now sm (.int _) q)⟩
 ·exact q.elim
theorem vR:HC X (.type "int") mH:=⟨wo⟩
theorem oO:MtR X "str.lstrip" (rK X.K dJ):=by
 rintro pins s σ H x xs v us R I rx rs ⟨z,ds,M,ρ,Q,ez,sm,rr,q,k⟩
 subst ez
 obtain⟨t,rfl⟩:=rx
 unfold dJ at q
 split at q
 ·have hzz:=Reps.inv_cons rr
  clear rr
  obtain⟨_,_,rfl,r1,rr⟩:=hzz
  obtain rfl:=Reps.inv_nil rr
  obtain rfl:=Rep.inv_str r1
  obtain⟨u,rfl,t',rfl⟩:=aq.one rs
  exact PySem.SC.lstripChars (λt' kk=>⟨.str _,H,I.tok _,⟨_,rfl⟩,k _ H (VQ.now sm (.str _) q.2)⟩) q.1
 ·exact q.elim
theorem pF:HMs X "lstrip" dJ:=⟨_,PySem.F.slot_str_lstrip,PySem.F.type_str_lstrip,oO⟩
theorem vD(hm:∃t,X.mg x=some (.str v t))(hg:X.env.kindOf x=some .globalImplicit:=by kernel_rfl)(hb:(x==("__debug__":Str))=false:=by kernel_rfl):HE X (.Name x pos) (dC (.str v)):=by
 obtain⟨t,hm⟩:=hm
 exact⟨tP hm rfl ⟨t,rfl⟩ hg hb⟩
theorem globS_mk{K:AA}{h:Heap}{mg:Str->Option Value}{x v:Str}{u:Value}(X:K.In h)(G:h.Ns mainGlobals mg)(a:ABI K mainGlobals x=some (some u))(b:∃t,u=Value.str v t):∃t,mg x=some (.str v t):=by
 obtain⟨t,rfl⟩:=b
 exact⟨t,ACF X G a⟩
theorem vG(ha:HE X a ta)(hb:HE X b tb):HE X (.JoinedStr [.FormattedValue a (-1) none p1,.FormattedValue b (-1) none p2] pos) (qd ta tb):=⟨by
 rintro pins s σ H R I ⟨S,M,ρ,Q,sm,sr,q,k⟩
 have e0:∀x:Str,ACW++x=x:=λx=>cT (by show (#[]++x.cps).toList=_;simp)
 refine JoinedStr_many (joinParts_cons (FormattedValue_plain (thn (ha.ok pins s σ H _ I ⟨S,M,ρ,_,sm,sr,q,λ_ _ z=>z⟩) ?_)))
 rintro v s1 ⟨y,H1,I1,r1,d,M1,ρ1,s1',g1,r1',q1⟩
 (try dsimp only at q1)
 split at q1
 ·rename_i a
  obtain rfl:=Rep.inv_str r1'
  obtain⟨t,rfl⟩:=r1
  refine formatField_str (λt' tk=>?_) q1.1
  have I2:Inv X pins σ H1 { s1 with toks:=tk }:=I1.tok tk
  dsimp only
  rw[e0]
  refine⟨q1.1,joinParts_cons (FormattedValue_plain (thn (hb.ok pins _ σ H1 _ I2 ⟨S,M1,ρ1,_,s1',sr.grow g1,q1.2,λ_ _ z=>z⟩) ?_))⟩
  rintro v s2 ⟨y,H2,I3,r2,d,M2,ρ2,s2',g2,r2',q2⟩
  (try dsimp only at q2)
  split at q2
  ·rename_i i
   obtain rfl:=Rep.inv_int r2'
   obtain⟨t2,rfl⟩:=r2
   refine wpAny_formatField_int q2.1 ⟨q2.2.1,joinParts_nil ⟨.str _,H2,(I3.tok _),⟨_,rfl⟩,k _ H2 ⟨_,M2,ρ2,s2',g1.trans g2,.str _,q2.2.2⟩⟩ q2.2.1⟩
  ·exact q2.elim
 ·exact q1.elim⟩
noncomputable def nA(te:DTE)(t:wE):wE:=λR=>aa te (t R)
def xTup(t:wE):ww:=λR=>iN (t R)
theorem pe(ha:HE X.nox e te)(hr:HXA b X es tx)(hs:starEach (e::es) X.env=(false,eval e X.env)::starEach es X.env:=by kernel_rfl):HXA b X (e::es) (nA te tx):=⟨by
 rintro pos pins s σ H Q E P Ex A p I ⟨S,M,ρ,F,R,sm,sr,q,k,x⟩
 rw[hs]
 show wpAny _ _ (spliced ((false,eval e X.env)::backTo pos (starEach es X.env))) _ _ s
 refine ACv (AAo (ha.ok pins s σ H _ (I.wish _) ⟨S,M,ρ,_,sm,sr,q,λ_ _ z=>z⟩) (λu s1 ⟨y,H1,I1,r1,d,M1,ρ1,s1',g1,r',q1⟩=>?_) λ_ _ z=>AAp z)
 refine thn (hr.ok pos pins s1 σ H1 _ E P Ex A p I1.unwish ⟨S,M1,ρ1,_,R,s1',sr.grow g1,q1,λ_ _ z=>z,λC dx H' w=>x C dx H' (w.trans g1)⟩) ?_
 rintro us s2 ⟨xs,H2,I2,r2,ds,M2,ρ2,s2',g2,r2',q2⟩
 exact⟨y::xs,H2,I2,.cons r1 r2,k _ H2 ⟨d::ds,M2,ρ2,s2',g1.trans g2,.cons (r'.grow g2) r2',q2⟩⟩⟩
theorem tw{x1}(ha:HXA b X es tx):HXE b X (.Tuple es x1 pos) (xTup tx):=⟨by
 rintro pins s σ H Q E Pσ Ex A pσ I ⟨S,M,ρ,F,R,sm,sr,q,k,xx⟩
 refine wpAny_Tuple_spliced (thn (ha.ok pos pins s σ H _ E Pσ Ex A pσ I ⟨S,M,ρ,_,R,sm,sr,q,λ_ _ z=>z,xx⟩) λus s1 ⟨xs,H1,I1,r,ds,M1,ρ1,s1',g1,r1,z,q1⟩=>⟨by rw[<-r.length,<-r1.length];exact z,?_⟩)
 have hf:H1 s1.heap.objs.size=none:=I1.hok.fresh (AA8 _)
 refine⟨.ref s1.heap.objs.size,upd H1 s1.heap.objs.size (.tup xs),I1.laid (t':=s1.toks) (λb u e=>AA3 _ e) (AA8 _) ?_,rfl,k _ _ (VQ.laidT s1' g1 r1 hf q1)⟩
 exact⟨by rw[<-r1.length];exact z,us,r,⟨_,AAH _ rfl,rfl,⟨_,rfl⟩,rfl⟩⟩⟩
noncomputable def asT(M:Mem):D->D
 | .ref i=>match M[i]? with
  | some a=>.tup a.items
  | none=>.non
 | _=>.non
structure SrtR(M:Mem)(xs:List D):Prop where
 len:xs.length<64
 ls:∀x∈xs,∃n a,x=.ref n/\M[n]?=some a/\a.isL=true
 ok:∀x∈xs,okP eqN (asT M x)=true
 cm:∀x∈xs,∀y∈xs,dE M eqN (asT M x) (asT M y)=true
end L2
namespace LW
open PySem L2
local macro_rules | `(tactic| walk_at "sc")=>`(tactic| exact⟨rfl,rfl,rfl,by decide +kernel,rfl,by decide +kernel,by decide +kernel⟩)
local macro_rules | `(tactic| walk_at "dl")=>`(tactic| simp only[EE,xOf,sT,xIf,xRet,xSet,xCB,tU,eR,dTry,mh,dIsV,dCBH,dLCH,hZ,mH,dJ,qd,nA,xTup,aw,dIf,mY,wC,dOr,aB,dCB,aa,am,bd,ka,dOrV,pZ,dLC,pY,eE,ao,cc,aN,jZ,gk,dOp,fS,dC,ad,iN,fP,dSl,dA,bc,dMs,dMl,aF,tj,qAdd,ar,wy,eA,aU,ck,qLt,qLe,qIs,qEq,qNe,kr,iM,qIx,qSl,cA,wB,sG,gh,bp,gj,dZip,fq,cR,qc,qg,qf,mf,wf,SqAt,wW,fQ,at0,at1,at2,fo,tyD,dst,bo,yW,AAQ,List.map_nil,ABT,AB2,List.getElem?_cons_zero,List.getElem?_cons_succ,AAW,AAk,List.replicate_zero,List.replicate_succ,List.set_cons_zero,List.set_cons_succ,ACX,Nat.reduceAdd,Nat.reduceSub,Option.join_some,if_true,if_false,AAU])
noncomputable def top(i:Nat):Stmt:=PySem.Challenge.pw_talkmarks_k80_stamps_written_and_read.main.body.getD i (.Pass ⟨0,0,0,0⟩)
noncomputable abbrev T_:nk:=[(AA2 "NoRow",[(AA2 "NotYours",false),(AA2 "NoMessage",false),(AA2 "NoRoom",false),(AA2 "NoHouse",false),(AA2 "NoDeed",false),(AA2 "NoWhat",false),(AA2 "NoName",false),(AA2 "NoSaying",false),(AA2 "Gap",false),(AA2 "Clash",false),(AA2 "NoRow",true),(AA2 "Strange",false),(AA2 "TalkError",true)])]
noncomputable abbrev B_:List Str:=["range","str","len","int","isinstance","sorted","tuple","bool","list","zip","ValueError"]
noncomputable abbrev C_:List (Str×Int):=[("MOST_FIGURES",12)]
noncomputable abbrev dL:List Str:=["house"]
noncomputable abbrev cW:List Str:=["hand"]
noncomputable abbrev cB:List Str:=["stamp"]
noncomputable abbrev cX:List Str:=["house","word"]
noncomputable abbrev cD:List Str:=["word"]
noncomputable abbrev cq:List Str:=["word"]
noncomputable abbrev cC:List Str:=["house","text"]
noncomputable abbrev fA:List Str:=["_law_script","_law_k"]
noncomputable abbrev ig:List Str:=["_law_cell","_law_many"]
noncomputable abbrev kC:List Str:=["_law_cell","_law_many"]
noncomputable abbrev fy:List Str:=["_law_rest"]
noncomputable abbrev bg:List Str:=["_law_rest"]
noncomputable abbrev kF:List Str:=["_law_cell"]
noncomputable abbrev oJ:List Str:=["_law_found","_law_due_here"]
noncomputable abbrev kE:List Str:=["_law_e"]
noncomputable abbrev oH:List Str:=["_law_rest"]
noncomputable abbrev fx:List Str:=["_law_text_here","_law_rest","_law_house_here"]
noncomputable abbrev uH:List Str:=["_law_house_here","_law_text_here"]
noncomputable abbrev kD:List Str:=["_law_house_here","_law_text_here"]
noncomputable abbrev uG:List Str:=["_law_script"]
structure Tops(P:Program)(w:World)(K:AA)(mg:Str->Option Value)(base:Heap):Prop where
 f_hands_of:dF K mg "hands_of" (top 15) dL
 f_show_hand:dF K mg "show_hand" (top 19) cW
 f_show_stamp:dF K mg "show_stamp" (top 20) cB
 f_read_hand:dF K mg "read_hand" (top 21) cX
 f_is_figures:dF K mg "is_figures" (top 22) cD
 f_read_number:dF K mg "read_number" (top 23) cq
 f_read_stamp:dF K mg "read_stamp" (top 24) cC
 f_cell_at:dF K mg "_law_cell_at" (top 26) fA
 f_stream:dF K mg "_law_stream" (top 27) ig
 f_words:dF K mg "_law_words" (top 28) kC
 f_name_in:dF K mg "_law_name_in" (top 29) fy
 f_house_by_digits:dF K mg "_law_house_by_digits" (top 30) bg
 f_house:dF K mg "_law_house" (top 31) kF
 f_same:dF K mg "_law_same" (top 32) oJ
 f_kinds:dF K mg "_law_kinds" (top 33) kE
 f_text:dF K mg "_law_text" (top 34) oH
 f_spoiled:dF K mg "_law_spoiled" (top 35) fx
 f_due:dF K mg "_law_due" (top 36) uH
 f_right:dF K mg "_law_right" (top 37) kD
 f_law:dF K mg "law" (top 38) uG
 s_FIGURES:∃t,mg "FIGURES" = some (.str "0123456789" t)
 b:TopB mg B_ C_
 cl:bO K T_=true
local macro_rules | `(tactic| walk_at "bb")=>`(tactic| first | exact wt | exact zi | exact cv | exact zh | exact wr | exact qv | exact zg | exact sO)
local macro_rules | `(tactic| walk_at "tb")=>`(tactic| exact TopB.no (by k_dflt assumption) (by kernel_rfl))
local macro_rules | `(tactic| walk_at "dvr")=>`(tactic| (repeat' (first | (with_reducible first | (refine gA ?_;first | exact ye | refine vB ?_ ?_) | exact k_var | (refine yz ?_;first | exact k_int | exact k_bl | exact k_non | exact k_str) | (refine gCall ?_;first | refine vH ?_ (by walk_at "tb") (by walk_at "bb") ?_ | refine sd ?_ (by walk_at "tb") (by walk_at "bb") ?_ | refine k_cal (by k_dflt assumption) (by k_dflt assumption) ?_ (hj:=Nat.ble_eq_true_of_le (by lia)) | refine yk (by k_dflt assumption) (by k_dflt assumption) ?_ | refine k_ms ?_ ?_ ?_ | refine k_ml ?_ ?_ ?_) | (refine gIx ?_;first | refine vC ?_ ?_ ?_ | refine yj (by k_dflt assumption) ?_ ?_ (hs:=by k_dflt (intro _ _;kernel_rfl)) | refine k_ix ?_ ?_ (hs:=by k_dflt (intro _ _;kernel_rfl))) | (refine gT ?_;first | refine xS ?_ ?_ ?_ | refine rT ?_ ?_ ?_ ?_ ?_ | refine xR ?_ | refine kw_t (tF ?_ ?_) | refine kw_t (xP ?_ ?_) | refine xQ ?_) | (refine gE ?_;first | exact yi | exact vD (by k_dflt assumption) | refine vG ?_ ?_ | exact vF (TopB.gi (by k_dflt assumption) (by kernel_rfl)) | exact yf (by walk_at "tb") (by walk_at "bb") | refine k_op ?_ ?_ ?_ | refine k_not ?_ | refine k_cmp ?_ ?_ ?_ | refine k_one ?_ | refine k_and ?_ ?_ | refine k_or ?_ ?_ | refine k_tup ?_ | refine k_lst ?_ | refine k_lcN ?_ (λ_ _ _ _=>?_) (λ_ _ _ _=>?_) (λ_ _ _ _=>?_) | refine k_lcH (by k_dflt assumption) (by walk_at "tb") ?_ (λ_ _ _ _=>?_) (λ_ _ _ _=>?_) (λ_ _ _ _=>?_) | refine yg (by k_dflt assumption) (by walk_at "tb") ?_ | refine yh (by k_dflt assumption) (by walk_at "tb") (by walk_at "tb") ?_) | (refine gS ?_;first | refine pi ?_ | refine tI ?_ | refine xV ?_ ?_ ?_ | refine jR (by k_dflt assumption) ?_ (λ_ _ _ _=>?_) (λ_ _ _ _=>?_) (λ_ _ _ _=>?_) | refine tH (by k_dflt assumption) ?_ | refine tK ?_ ?_ | refine tG (by k_dflt assumption) (by k_dflt assumption) ?_ (λ_=>?_) | refine pj (by k_dflt assumption) ?_ ?_ ?_ | refine tJ ?_ ?_ ?_ | refine lX ?_ ?_) | (refine gOp ?_;first | exact vP | exact ho_eq (by k_dflt assumption) | exact vO | exact ho_is | exact ho_le | exact ho_lt | exact yu | exact yt | exact ho_ne (by k_dflt assumption) | exact yr | exact yq) | (refine gC ?_;first | exact vR | exact yx | exact yw | exact pL (by k_dflt assumption) | exact vQ | exact sk) | exact xU | exact vj | exact vp | exact vv | refine xT ?_ | refine tw ?_ | refine pe ?_ ?_ | refine tF ?_ ?_ | refine xP ?_ ?_ | refine vc ?_ | refine xO ?_ | refine vh ?_ | refine vm ?_ | refine pp (by walk_at "tb") ?_ | refine xW (by walk_at "tb") ?_ | refine xX ?_ | exact vA (by k_dflt assumption) | exact ya (xK (by kernel_rfl)) | refine rX ?_ ?_ | refine xY ?_ | refine xZ ?_ ?_ | refine tE (by k_dflt assumption) (by k_dflt assumption) ?_ | refine lW ?_ ?_ | refine xN ?_ ?_ ?_ | refine tD ?_ | refine tz (by k_dflt assumption) ?_ | refine jQ (by k_dflt assumption) ?_ | refine xM ?_ | exact vb | refine pd ?_ | refine lV ?_ ?_ | exact pH | exact pG | exact pF | exact pE) | refine vk ?_ ?_ | refine xM ?_ | refine tw ?_ | refine pe ?_ ?_ | refine pi ?_ | refine tI ?_ | refine xV ?_ ?_ ?_ | refine jR (by k_dflt assumption) ?_ (λ_ _ _ _=>?_) (λ_ _ _ _=>?_) (λ_ _ _ _=>?_) | refine tH (by k_dflt assumption) ?_ | refine tK ?_ ?_ | refine tG (by k_dflt assumption) (by k_dflt assumption) ?_ (λ_=>?_) | refine yg (by k_dflt assumption) (by walk_at "tb") ?_ | refine yh (by k_dflt assumption) (by walk_at "tb") (by walk_at "tb") ?_ | refine tE (by k_dflt assumption) (by k_dflt assumption) ?_ | refine lW ?_ ?_ | refine xN ?_ ?_ ?_ | refine tD ?_ | refine tz (by k_dflt assumption) ?_ | refine jQ (by k_dflt assumption) ?_ | refine pd ?_ | refine lV ?_ ?_ | refine pj (by k_dflt assumption) ?_ ?_ ?_ | refine tJ ?_ ?_ ?_ | refine lX ?_ ?_)))
local macro_rules | `(tactic| walk_at "dv")=>`(tactic| (intro _ _ _ _ _ _ _ _ _ _;refine pN rfl ?_;walk_at "dvr"))
local macro_rules | `(tactic| walk_at "dvh")=>`(tactic| (intro _ _ _ _ _ _ _ _ _ _ _;refine pN rfl ?_;walk_at "dvr"))
local macro_rules | `(tactic| walk_at "dvx")=>`(tactic| (intro _ _ _ _ _ _ _ _ _ _;refine vN rfl ?_;walk_at "dvr"))
section
variable{P:Program}{w:World}{K:AA}{mg:Str->Option Value}{base:Heap}
local macro_rules | `(tactic| walk_at "ifs")=>`(tactic| simp only[tj,AAU,↓reduceIte,Bool.not_true,Bool.not_false])
noncomputable def aX(p:Str×Int):D:=.tup [.str p.1,.int p.2]
noncomputable def aZ(p:Str×List Str):D:=.tup [.str p.1,.tup (p.2.map .str)]
noncomputable def aI(ps:List (Str×Int))(rs:List (Str×List Str)):D:=.tup [.tup (ps.map aX),.tup (rs.map aZ)]
theorem sf(u:Option Int)(n:Nat):AAy none u 1 n=AAy (some ((0:Nat):Int)) u 1 n:=by
 unfold AAy
 simp only[show (1:Int) > 0 by decide,if_true]
 congr 1
theorem yp(l:Option Int)(n:Nat):AAy l none 1 n=AAy l (some ((n:Nat):Int)) 1 n:=by
 unfold AAy
 simp only[show (1:Int) > 0 by decide,if_true]
 congr 1
 rw[if_neg (by lia)]
 lia
theorem qQ(x:Str)(b:Nat):(AB9 x none (some (b:Int))).cps.toList=x.cps.toList.take b:=by
 have e:=jB x (a:=0) (b:=b) (AAZ _)
 rw[cf]at e ⊢
 rw[sf]
 rw[e];simp
theorem mF(x:Str)(a:Nat)(h:a<=x.length):(AB9 x (some (a:Int)) none).cps.toList=x.cps.toList.drop a:=by
 have e:=jB x (a:=a) (b:=x.length) h
 rw[cf]at e ⊢
 rw[yp]
 rw[e]
 rw[AB1]
 rw[ABL,aE];lia
noncomputable def eD(c:Nat):Bool:=decide (48<=c)&&decide (c<=57)
noncomputable def figS:Str:="0123456789"
theorem vT(c:Nat):figS.cps.contains c=eD c:=by
 have e:figS.cps = #[48,49,50,51,52,53,54,55,56,57]:=by decide +kernel
 rw[e]
 unfold eD
 rw[Bool.eq_iff_iff,AAG,decide_eq_true_iff,decide_eq_true_iff]
 simp only[List.contains_toArray,List.elem_eq_mem,decide_eq_true_eq,AA9,AAd,or_false]
 constructor
 ·rintro(rfl | rfl | rfl | rfl | rfl | rfl | rfl | rfl | rfl | rfl)<;>exact⟨by decide,by decide⟩
 ·rintro⟨h1,h2⟩
  have key:∀d:Fin 10,48+d.val=48\/48+d.val=49\/48+d.val=50\/48+d.val=51\/48+d.val=52\/48+d.val=53\/48+d.val=54\/48+d.val=55\/48+d.val=56\/48+d.val=57:=by decide
  have:=key ⟨c-48,by lia⟩
  rw[show 48+(c-48)=c by lia]at this
  exact this
noncomputable def bN(x:Str):Nat:=(x.cps.toList.takeWhile eD).length
theorem iz(x:Str):bN x<=x.length:=by
 rw[aE]
 exact(List.takeWhile_sublist _).length_le
theorem sw(x:Str):x.cps.toList.take (bN x)=x.cps.toList.takeWhile eD:=by
 have h:x.cps.toList.takeWhile eD <+: x.cps.toList:=List.takeWhile_prefix _
 exact(List.prefix_iff_eq_take.mp h).symm
noncomputable def bhS(x:Str):Str:=ACJ x figS
noncomputable def hdS(x:Str):Str:=AB9 x none (some ((bN x:Nat):Int))
theorem qu(x:Str):(bhS x).cps.toList=x.cps.toList.drop (bN x):=by
 have e:figS.cps.contains=eD:=funext vT
 have l:PySem.stripLo eD true x=bN x:=rfl
 unfold bhS ACJ Txt.stripBy
 rw[e]
 split
 ·rename_i h
  have h0:bN x=0:=by
   unfold PySem.stripSame at h
   rw[l]at h
   simp at h
   exact h.1
  rw[h0];rfl
 ·unfold PySem.stripped
  rw[l,PySem.StrLaws.strSub_toList]
  show List.take (x.length-bN x) _=_
  rw[AB1]
  rw[ABL,aE]
  exact AA8 _
theorem zf(x:Str):(bhS x).length=x.length-bN x:=by rw[aE,qu,ABL,<-aE]
theorem fM(x:Str):(hdS x).cps.toList=x.cps.toList.takeWhile eD:=by
 unfold hdS
 rw[qQ,sw]
theorem jU(x:Str):(hdS x).length=bN x:=by rw[aE,fM];rfl
theorem lA:∀(l:List Nat),∀c∈l.takeWhile eD,eD c=true
 | [],_,h=>nomatch h
 | a::l,c,h=>by
  rw[ABS]at h
  split at h
  ·rcases AA9.mp h with rfl | h
   ·assumption
   ·exact lA l c h
  ·nomatch h
theorem pK(x:Str):ABo (hdS x).cps.toList:=λc hc=>by
 rw[fM]at hc
 have:=lA _ c hc
 unfold eD at this
 rw[AAG,decide_eq_true_iff,decide_eq_true_iff]at this
 exact this
theorem sM(x:Str):AB9 x (some ((bN x:Nat):Int)) none=bhS x:=cT (by rw[mF x _ (iz x),qu])
theorem sU:∀(cs:List Nat) (a:Nat),a<=cs.foldl (λacc c=>acc*10+(c-48)) a
 | [],a=>AA8 _
 | c::cs,a=>AAn (by lia) (sU cs (a*10+(c-48)))
theorem tY(h:49<=c):1<=AAr (c::cs):=AAn (by lia) (sU cs (0*10+(c-48)))
theorem ud(x:Str):ACV x "0" = decide (x.cps.toList.head?=some 48):=by
 have e:(AA2 "0").cps.toList=[48]:=by decide +kernel
 have l:(AA2 "0").length=1:=by decide +kernel
 rw[oh,e,l]
 cases h:x.cps.toList with
 | nil=>rfl
 | cons c cs=>simp
theorem bW{i:Int}(h0:0<=i)(h:i<10 ^ 12):i.natAbs.log2<1920:=by
 by_cases hz:i.natAbs=0
 ·rw[hz];decide
 ·have h1:i.natAbs<2 ^ 40:=by
   have:(10:Int) ^ 12<2 ^ 40:=by decide
   lia
  exact(Nat.log2_lt hz).mpr (AAF h1 (Nat.pow_le_pow_right (i:=40) (j:=1920) (by decide) (by decide)))
noncomputable def ci:D->Str
 | .tup [.str a,.int i]=>a++AA2 (toString i)
 | _=>""
noncomputable def bR(p:Str×Int):List D:=(dI 0 p.2.toNat).map λk=>.tup [.str p.1,k]
noncomputable def ap(ps:List (Str×Int)):List D:=ps.flatMap bR
def Few(ps:List (Str×Int)):Prop:=ps.length<=4/\∀p∈ps,0<=p.2/\p.2<=3
def cw:DSp:=λds M R=>∃(ps:List (Str×Int)) (r:List D),ds=[.tup (.tup (ps.map aX)::r)]/\Few ps/\R (.ref M.length) (M++[.lst (ap ps)])
theorem jP:iJ cw dL:=by rintro ds M R ⟨ps,r,rfl,_⟩;rfl
theorem cZ:(bR p).length=p.2.toNat:=by simp[bR,dI]
theorem dR(h:∀p∈ps,0<=p.2/\p.2<=3):(ap ps).length<=3*ps.length:=by
 induction ps with
 | nil=>simp[ap]
 | cons p ps ih =>
  have:=ih λq hq=>h q (AAA _ hq)
  have h1:=h p AAI
  have e:(ap (p::ps)).length=p.2.toNat+(ap ps).length:=by
   rw[ap,List.flatMap_cons,AAL,cZ];rfl
  rw[e,AAW]
  lia
theorem mW:Bels k (ap ps):=Bels.of λd hd=>by
 unfold ap at hd
 obtain⟨p,_,hp⟩:=List.mem_flatMap.mp hd
 unfold bR dI at hp
 simp only[AAV,List.mem_map]at hp
 obtain⟨i,_,rfl⟩:=hp
 exact .tup (.cons (.str _) (.cons (.int _) .nil))
def dZ:DTS:=cc (ad 1)
def ee:DTS:=aw (gk (eE (dOp qIx (ad 0) (dC (.int 0)))) (gh 2 (bp (ao 2) (bp (ao 3) gj))) (jZ (dMl fq (ad 1) (aa (dLC 1 [2] (aF (aa (ad 3) am)) (ao 0) pY (iN (aa (ad 1) (aa (ad 0) am)))) am)))) (dZ)
def gD:DTS:=aw (aN (fP am) 1) (ee)
theorem ku:WpT cw 4 gD:=by
 rintro ds M R ⟨ps,r,rfl,⟨h4,h3⟩,h⟩
 simp only[gD,ee]
 walk_at "dl"
 refine⟨AAZ _,λ_=>?_⟩
 have hb:∀qs:List (Str×Int),(∀p∈qs,p∈ps)->qs.length<=4->(ap qs).length<=12:=λqs h1 h2=>by
  have:=dR (ps:=qs) λp hp=>h3 p (h1 p hp)
  lia
 refine cu (λys S M'=>∃qs rs a b L,ps=qs++rs/\ys=rs.map aX/\M'=M++(.lst (ap qs)::L)/\S=[some (.tup (.tup (ps.map aX)::r)),some (.ref M.length),a,b]) ?_ ?_ _ _ _ ⟨[],ps,_,_,[],rfl,rfl,rfl,rfl⟩
 ·rintro S M' ⟨qs,rs,a,b,L,e,hq,rfl,rfl⟩
  have:rs=[]:=by cases rs<;>simp_all
  subst this
  rw[AAw]at e
  subst e
  refine⟨trivial,?_⟩
  simp only[dZ]
  walk_at "dl"
  exact ba.lst h (AA8 _) (by simp) mW
 ·rintro x xs S M' ⟨qs,rs,a,b,L,e,hq,rfl,rfl⟩ G hG
  cases rs with
  | nil=>cases hq
  | cons p rs =>
   rw[AAQ]at hq
   injection hq with e1 e2
   subst e1
   have hp:=h3 p (by rw[e];simp)
   refine⟨trivial,?_⟩
   unfold aX
   walk_at "dl"
   refine⟨trivial,⟨ap qs,.inl (by simp)⟩,⟨by lia,by lia⟩,?_⟩
   refine bY (λk=>.tup [.str p.1,k]) (λS=>∃a,S=[a,some (.str p.1)]) trivial _ _ _ (λk hk S hS=>?_) ⟨_,rfl⟩ ?_ ?_
   ·obtain⟨a,rfl⟩:=hS
    refine⟨[some k,some (.str p.1)],⟨_,rfl⟩,λY hY=>?_⟩
    walk_at "dl"
    exact⟨ae (by lia),hY⟩
   ·simp only[AAk,au]
    exact ae (by lia)
   ·have l0:ps.length=qs.length+(rs.length+1):=by rw[e];simp
    have l1:=hb qs (λq hq=>by rw[e];simp[hq]) (by lia)
    refine⟨ap qs,bR p,by simp,by simp[bR],by simp,?_,?_⟩
    ·rw[cZ];exact ae (by lia)
    ·refine Fgt.now (hG _ _ ⟨qs++[p],rs,_,_,L++[.lst (bR p)],by rw[e];simp,e2,?_,rfl⟩)
     have:ap (qs++[p])=ap qs++bR p:=by simp[ap]
     rw[this,AAT,ABT,cU]
     rfl
theorem kH(T:Tops P w K mg base):Cal P w K mg base 1 "hands_of" dL cw :=
 Cal.byD (N:=["house","hands","name","many"]) T.b T.f_hands_of (by walk_at "sc") jP (by walk_at "dv") ku
noncomputable def jF(ps:List (Str×Int))(x:Str):Option D :=
 if 1<=bN x/\bN x<=12/\x.cps.toList.head?≠some 48 then((ap ps).find? λd=>ci d==bhS x).map λd=>.tup [.int ((AAr (x.cps.toList.takeWhile eD):Nat):Int),d]else none
def qz(d:D):Prop:=∃(a:Str) (i:Int),d=.tup [.str a,.int i]/\a.length<=8/\0<=i/\i<10
theorem fF{i:Int}(h0:0<=i)(h:i<10 ^ 10):(AA2 (toString i)).length<=10:=PySem.W.KT.len_num h0 h
def bq:DSp:=λds M R=>∃d,ds=[d]/\qz d/\R (.str (ci d)) M
theorem ip:iJ bq cW:=by rintro ds M R ⟨d,rfl,_⟩;rfl
theorem lL{d:D}(h:qz d):(ci d).length<=18:=by
 obtain⟨a,i,rfl,h8,i0,i1⟩:=h
 show (a++AA2 (toString i)).length<=18
 rw[aY]
 have:=fF i0 (by lia)
 lia
def df:DTS:=cc (qd (ad 1) (ad 2))
def dg:DTS:=aw (aN (dOp qIx (ad 0) (dC (.int 1))) 2) (df)
def eW:DTS:=aw (aN (dOp qIx (ad 0) (dC (.int 0))) 1) (dg)
theorem iP:WpT bq 3 eW:=by
 rintro ds M R ⟨d,rfl,hd,h⟩
 have sl:=lL hd
 obtain⟨a,i,rfl,h8,i0,i1⟩:=hd
 simp only[eW,dg,df]
 walk_at "dl"
 exact⟨ae (by lia),bW i0 (by lia),ae (AAn sl (by decide)),ba.now h⟩
theorem eg(T:Tops P w K mg base):Cal P w K mg base 1 "show_hand" cW bq :=
 Cal.byD (N:=["hand","name","k"]) T.b T.f_show_hand (by walk_at "sc") ip (by walk_at "dv") iP
def bB:DSp:=λds M R=>∃(t:Int) (d:D),ds=[.tup [.int t,d]]/\qz d/\0<=t/\t<10 ^ 10/\R (.str (AA2 (toString t)++ci d)) M
theorem gb:iJ bB cB:=by rintro ds M R ⟨t,d,rfl,_⟩;rfl
def dU:DTS:=cc (dOp ar (dCB hZ (aa (dOp qIx (ad 0) (dC (.int 0))) am)) (dCB bq (aa (dOp qIx (ad 0) (dC (.int 1))) am)))
theorem gK:WpT bB 1 dU:=by
 rintro ds M R ⟨t,d,rfl,hd,t0,t1,h⟩
 have sl:=lL hd
 have nl:=fF t0 t1
 simp only[dU]
 walk_at "dl"
 exact⟨bW t0 (by lia),d,rfl,hd,ae (by lia),ba.now h⟩
theorem ii(T:Tops P w K mg base):Cal P w K mg base 2 "show_stamp" cB bB :=
 Cal.byD (N:=["stamp"]) T.b T.f_show_stamp (by walk_at "sc") gb (by have:=eg T;walk_at "dv") gK
theorem kU(few:Few ps)(h8:∀p∈ps,p.1.length<=8):∀d∈ap ps,qz d:=λd hd=>by
 unfold ap at hd
 obtain⟨p,hp,hd⟩:=List.mem_flatMap.mp hd
 unfold bR dI at hd
 simp only[AAV,List.mem_map,AB6]at hd
 obtain⟨i,hi,rfl⟩:=hd
 have:=few.2 p hp
 exact⟨p.1,0+(i:Int),rfl,h8 p hp,by lia,by lia⟩
def bQ:sR:=λds M R RX=>∃(ps:List (Str×Int)) (rs:List (Str×List Str)) (w:Str),ds=[aI ps rs,.str w]/\Few ps/\(∀p∈ps,p.1.length<=8)/\(∀d,(ap ps).find? (λd=>ci d==w)=some d->R d M)/\((ap ps).find? (λd=>ci d==w)=none->RX (AA2 "NoRow") M)
theorem iq:LenX bQ cX:=by rintro ds M R RX ⟨ps,rs,w,rfl,_⟩;rfl
def dl:DTX:=eR "NoRow" (aa (dC (.str "there is no such hand in the house")) am)
def eZ:DTX:=sT (xOf (gk (eE (dCB cw (aa (ad 0) am))) (ao 2) (dIf (aB (dOp qEq (dCB bq (aa (ad 2) am)) (ad 1))) (cc (ad 2)) bd))) (dl)
theorem iQ:WpX bQ 3 eZ:=by
 rintro ds M R RX ⟨ps,rs,w,rfl,few,h8,h,hX⟩
 have hs:=kU few h8
 simp only[eZ]
 walk_at "dl"
 refine⟨ps,_,rfl,few,_,ak,λ_=>?_⟩
 have gL:ah (M++[MO.lst (ap ps)]) M.length (ap ps):=ak
 have pM:M <+: M++[MO.lst (ap ps)]:=kB
 generalize M++[MO.lst (ap ps)]=B at gL pM
 generalize M.length=q at gL
 refine cu (λys S M'=>M'=B/\(∀d∈ys,qz d)/\(ap ps).find? (λd=>ci d==w)=ys.find? (λd=>ci d==w)/\∃c,S=[some (aI ps rs),some (.str w),c]) ?_ ?_ _ _ _ ⟨rfl,hs,rfl,_,rfl⟩
 ·rintro S M' ⟨rfl,_,e,c,rfl⟩
  refine⟨gL,?_⟩
  simp only[dl]
  walk_at "dl"
  exact⟨ae (by decide),.inr ⟨M,.refl,pM,hX e⟩⟩
 ·rintro d ys S M' ⟨rfl,hy,e,c,rfl⟩ L hL
  refine⟨gL,?_⟩
  walk_at "dl"
  refine⟨d,rfl,hy d (by simp),⟨bt,bt⟩,?_⟩
  rw[fN]
  rw[AB8]at e
  cases hc:ci d==w with
  | true =>
   rw[hc]at e
   refine gf (ba.keep (h d e) ?_ pM)
   obtain⟨a,i,rfl,_⟩:=hy d (by simp)
   exact .tup (.cons (.str _) (.cons (.int _) .nil))
  | false =>
   rw[hc]at e
   exact gg (Fgt.now (hL _ _ ⟨rfl,λd hd=>hy d (AAA _ hd),e,_,rfl⟩))
theorem jH(T:Tops P w K mg base):sS P w K mg base 2 "read_hand" cX bQ :=
 sS.by (N:=["house","word","hand"]) T.b T.f_read_hand (by walk_at "sc") iq (by have:=kH T;have:=eg T;have:=T.cl;walk_at "dvx") iQ
noncomputable def sy(w:Str):Bool:=(decide (1<=w.length)&&decide (w.length<=12))&&(w==(AA2 "0") || !ACV w "0")
def bD:DSp:=λds M R=>∃w:Str,ds=[.str w]/\w.length<=1000/\ABo w.cps.toList/\R (.bl (sy w)) M
theorem gd:iJ bD cD:=by rintro ds M R ⟨w,rfl,_⟩;rfl
theorem iU:∀{l:List Nat},(∀c∈l,eD c=true)->l.takeWhile eD=l
 | [],_=>rfl
 | a::l,h=>by rw[ABS,if_pos (h a (by simp)),iU λc hc=>h c (AAA _ hc)]
theorem sN{w:Str}(h:ABo w.cps.toList):bhS w=(AA2 ""):=cT (by
 have e:bN w=w.cps.toList.length:=by
  unfold bN
  rw[iU]
  intro c hc
  have:=h c hc
  unfold eD
  rw[dT_ this.1,dT_ this.2];rfl
 rw[qu,e,List.drop_length]
 decide +kernel)
def cQ:DTS:=cc (dOrV (dOp qEq (ad 0) (dC (.str "0"))) (pZ (dMs fo (ad 0) (aa (dC (.str "0")) am))))
def dY:DTS:=aw (dIf (dOr (mY (aB (fS qLe qLe (dC (.int 1)) (dCB iM (aa (ad 0) am)) (dC (.int 12))))) (aB (dOp qNe (dMs dJ (ad 0) (aa (dC (.str "0123456789")) am)) (dC (.str ""))))) (cc (dC (.bl false))) bd) (cQ)
theorem gO:WpT bD 1 dY:=by
 rintro ds M R ⟨w,rfl,hl,hd,h⟩
 simp only[dY]
 walk_at "dl"
 refine⟨ae hl,?_⟩
 unfold sy at h
 have eb:ACJ w (AA2 "0123456789")=AA2 "":=sN hd
 have e1:decide ((1:Int)<=(w.length:Int))=decide (1<=w.length):=by rw[decide_eq_decide];lia
 have e2:decide ((w.length:Int)<=12)=decide (w.length<=12):=by rw[decide_eq_decide];lia
 rw[e1,e2]
 cases h1:decide (1<=w.length) with
 | false =>
  rw[h1]at h
  walk_at "ifs"
  exact ba.now h
 | true =>
  rw[h1]at h
  walk_at "ifs"
  cases h2:decide (w.length<=12) with
  | false =>
   rw[h2]at h
   walk_at "ifs"
   exact ba.now h
  | true =>
   rw[h2]at h
   walk_at "ifs"
   refine⟨ae hl,⟨bt,bt⟩,?_⟩
   rw[eb,fN,beq_self_eq_true]
   walk_at "ifs"
   simp only[cQ]
   walk_at "dl"
   refine⟨⟨bt,bt⟩,?_⟩
   rw[fN]
   cases h3:w==(AA2 "0") with
   | true=>rw[h3]at h;exact gf (ba.now h)
   | false=>rw[h3]at h;exact gg (ba.now h)
theorem ik(T:Tops P w K mg base):Cal P w K mg base 1 "is_figures" cD bD :=
 Cal.byD (N:=["word"]) T.b T.f_is_figures (by walk_at "sc") gd (by have:=T.s_FIGURES;walk_at "dv") gO
def bj:sR:=λds M R RX=>∃w:Str,ds=[.str w]/\w.length<=1000/\ABo w.cps.toList/\(sy w=true->R (.int ((AAr w.cps.toList:Nat):Int)) M)/\(sy w=false->RX (AA2 "NoRow") M)
theorem fJ:LenX bj cq:=by rintro ds M R RX ⟨w,rfl,_⟩;rfl
theorem sx{w:Str}(h:sy w=true):1<=w.length/\w.length<=12:=by
 unfold sy at h
 rw[AAG,AAG,decide_eq_true_iff,decide_eq_true_iff]at h
 exact h.1
def cy:DTX:=xOf (cc (dCB mH (aa (ad 0) am)))
def dk:DTX:=sT (xIf (mY (aB (dCB bD (aa (ad 0) am)))) (eR "NoRow" (aa (dC (.str "these are no figures")) am)) (xOf bd)) (cy)
theorem fX:WpX bj 1 dk:=by
 rintro ds M R RX ⟨w,rfl,hl,hd,h,hX⟩
 simp only[dk]
 walk_at "dl"
 refine⟨w,rfl,hl,hd,?_⟩
 cases hb:sy w with
 | false =>
  walk_at "ifs"
  exact⟨ae (by decide),.inl (hX hb)⟩
 | true =>
  walk_at "ifs"
  simp only[cy]
  walk_at "dl"
  obtain⟨l1,l2⟩:=sx hb
  refine⟨_,PySem.intText_digits hd (λe=>?_) (by lia),by lia,ba.now (h hb)⟩
  rw[aE,e]at l1
  exact absurd l1 (by decide)
theorem fZ(T:Tops P w K mg base):sS P w K mg base 2 "read_number" cq bj :=
 sS.by (N:=["word"]) T.b T.f_read_number (by walk_at "sc") fJ (by have:=ik T;have:=T.cl;walk_at "dvx") fX
def bC:sR:=λds M R RX=>∃(ps:List (Str×Int)) (rs:List (Str×List Str)) (x:Str),ds=[aI ps rs,.str x]/\Few ps/\(∀p∈ps,p.1.length<=8)/\x.length<=1000/\(∀d,jF ps x=some d->R d M)/\(jF ps x=none->RX (AA2 "NoRow") M)
theorem gc:LenX bC cC:=by rintro ds M R RX ⟨ps,rs,x,rfl,_⟩;rfl
theorem pJ(h:1<=bN x):(hdS x).cps.toList.head?=x.cps.toList.head?:=by
 rw[fM]
 unfold bN at h
 cases e:x.cps.toList with
 | nil=>rfl
 | cons c cs =>
  rw[e,ABS]at h
  rw[ABS]
  split at h
  ·rename_i hc
   rw[if_pos hc];rfl
  ·exact absurd h (by decide)
theorem pQ(x:Str):sy (hdS x)=((decide (1<=bN x)&&decide (bN x<=12))&&(hdS x==(AA2 "0") || !decide (x.cps.toList.head?=some 48))):=by
 unfold sy
 rw[jU,ud]
 by_cases h:1<=bN x
 ·rw[pJ h]
 ·rw[dF_ h];rfl
def cM:DTX:=xRet (xTup (nA (ad 3) (tU (xCB bQ (aa (ad 0) (aa (ad 2) am))) am)))
def cN:DTX:=sT (xIf (aB (dOp qLt (ad 3) (dC (.int 1)))) (eR "NoRow" (aa (dC (.str "times are from 1 on")) am)) (xOf bd)) (cM)
def cO:DTX:=sT (xSet (xCB bj (aa (dSl (ad 1) bc (dA (dOp wy (dCB iM (aa (ad 1) am)) (dCB iM (aa (ad 2) am))))) am)) 3) (cN)
def cP:DTX:=sT (xOf (aN (dMs dJ (ad 1) (aa (dC (.str "0123456789")) am)) 2)) (cO)
def dW:DTX:=sT (xIf (mY (aB (dCB kr (aa (ad 1) (aa (dC (.ty "str")) am))))) (eR "NoRow" (aa (dC (.str "this is no text")) am)) (xOf bd)) (cP)
theorem gM:WpX bC 4 dW:=by
 rintro ds M R RX ⟨ps,rs,x,rfl,few,h8,hl,h,hX⟩
 have fl:=iz x
 simp only[dW]
 walk_at "dl"
 refine⟨by decide,?_⟩
 rw[show se "str" "str" = true by decide]
 walk_at "ifs"
 simp only[cP]
 walk_at "dl"
 refine⟨ae hl,?_⟩
 have eb:ACJ x (AA2 "0123456789")=bhS x:=rfl
 rw[eb]
 simp only[cO]
 walk_at "dl"
 have bl:=zf x
 refine⟨ae hl,ae (by lia),ae hl,?_⟩
 have es:(x.length:Int)-((bhS x).length:Int)=((bN x:Nat):Int):=by lia
 rw[es]
 have eh:AB9 x none (some ((bN x:Nat):Int))=hdS x:=rfl
 rw[eh]
 have hr:jF ps x=if 1<=bN x/\bN x<=12/\x.cps.toList.head?≠some 48 then((ap ps).find? λd=>ci d==bhS x).map λd=>.tup [.int ((AAr (x.cps.toList.takeWhile eD):Nat):Int),d]else none:=rfl
 refine⟨hdS x,rfl,by rw[jU];lia,pK x,λhb=>?_,λhb=>?_⟩
 ·rw[pQ]at hb
  simp only[AAG,ACk,decide_eq_true_iff,Bool.not_eq_true',decide_eq_false_iff_not]at hb
  obtain⟨⟨f1,f2⟩,hb⟩:=hb
  rw[fM]
  simp only[cN]
  walk_at "dl"
  have hh:=pJ f1
  by_cases h0:x.cps.toList.head?=some 48
  ·have hz:=hb.resolve_right λz=>z h0
   have ez:x.cps.toList.takeWhile eD=[48]:=by
    rw[<-fM,eq_of_beq hz];decide +kernel
   rw[ez]
   rw[if_neg λz=>z.2.2 h0]at hr
   rw[show decide (((AAr [48]:Nat):Int)<1)=true by decide]
   walk_at "ifs"
   exact⟨ae (by decide),.inl (hX hr)⟩
  ·rw[if_pos ⟨f1,f2,h0⟩]at hr
   have v1:1<=AAr (x.cps.toList.takeWhile eD):=by
    have hd:=pK x
    rw[fM]at hh hd
    cases e:x.cps.toList.takeWhile eD with
    | nil=>unfold bN at f1;rw[e]at f1;exact absurd f1 (by decide)
    | cons c cs =>
     rw[e]at hh hd
     have hc:=hd c (by simp)
     refine tY ?_
     rcases Nat.lt_or_ge c 49 with z | z
     ·exact absurd (hh.symm.trans (by rw[show c=48 by lia];rfl)) h0
     ·exact z
   rw[dF_ (show ¬(((AAr (x.cps.toList.takeWhile eD):Nat):Int)<1) by lia)]
   walk_at "ifs"
   simp only[cM]
   walk_at "dl"
   refine⟨ps,rs,bhS x,rfl,few,h8,λd hd=>?_,λhd=>?_⟩
   ·rw[hd]at hr
    exact⟨ae (by decide),ba.now (h _ hr)⟩
   ·rw[hd]at hr
    exact .inl (hX hr)
 ·refine .inl (hX ?_)
  rw[hr,if_neg]
  rintro⟨f1,f2,f3⟩
  rw[pQ,dT_ f1,dT_ f2,dF_ f3]at hb
  simp at hb
theorem ij(T:Tops P w K mg base):sS P w K mg base 3 "read_stamp" cC bC :=
 sS.by (N:=["house","text","behind","time"]) T.b T.f_read_stamp (by walk_at "sc") gc (by have:=T.s_FIGURES;have:=jH T;have:=fZ T;have:=T.cl;walk_at "dvx") gM
noncomputable def bP(ns:List Int)(k:Nat):Int:=ns.getD k 0
def cb:DSp:=λds M R=>∃(n:Nat) (ns:List Int) (k:Nat),ds=[.ref n,.int k]/\ah M n (ns.map D.int)/\R (.int (bP ns k)) M
theorem kQ:iJ cb fA:=by rintro ds M R ⟨n,ns,k,rfl,_⟩;rfl
def fj:DTS:=cc (dC (.int 0))
def jx:DTS:=aw (dIf (aB (dOp qLt (ad 1) (dCB iM (aa (ad 0) am)))) (cc (dOp qIx (ad 0) (ad 1))) bd) (fj)
theorem mB:WpT cb 2 jx:=by
 rintro ds M R ⟨n,ns,k,rfl,hL,h⟩
 simp only[jx,fj]
 walk_at "dl"
 refine⟨_,hL,?_⟩
 unfold bP at h
 by_cases hk:k<ns.length
 ·rw[dT_ (by simpa using hk)]
  refine gf ⟨_,hL,?_⟩
  rw[aG (v:=.int ns[k]) (by rw[AAP,AA1 hk];rfl)]
  rw[AAE,AA1 hk]at h
  exact ba.now h
 ·rw[dF_ (by simpa using hk)]
  rw[AAE,ABV (by lia)]at h
  exact gg (ba.now h)
theorem mO(T:Tops P w K mg base):Cal P w K mg base 1 "_law_cell_at" fA cb :=
 Cal.byD (N:=["_law_script","_law_k"]) T.b T.f_cell_at (by walk_at "sc") kQ (by walk_at "dv") mB
def dB:DSp:=λds M R=>∃(c:Int) (n:Nat),ds=[.int c,.int n]/\n<=100/\∀xs:List Int,xs.length=n->R (.ref M.length) (M++[.lst (xs.map .int)])
theorem mU:iJ dB ig:=by rintro ds M R ⟨c,n,rfl,_⟩;rfl
theorem ma:∀xs:List Int,Bels k (xs.map D.int)
 | []=>.nil
 | x::xs=>.cons (.int x) (ma xs)
theorem eK:∀xs:List Str,Bels k (xs.map D.str)
 | []=>.nil
 | x::xs=>.cons (.str x) (eK xs)
def gp:DTS:=cc (ad 2)
def gq:DTS:=jZ (dMl cA (ad 2) (aa (dOp ck (dOp aU (dOp ck (dOp eA (ad 6) (dC (.int 69621))) (dC (.int 2147483587))) (dC (.int 16))) (dC (.int 1000000))) am))
def gs:DTS:=aw (aN (dOp ck (dOp eA (ad 5) (ad 5)) (dC (.int 2147483629))) 6) (gq)
def gu:DTS:=aw (gk (aF (aa (ad 1) am)) (ao 4) (aw (aN (dOp ck (dOp ar (dOp ar (dOp eA (ad 5) (dC (.int 48271))) (dOp eA (dC (.int 7919)) (ad 4))) (dC (.int 11))) (dC (.int 2147483647))) 5) (gs))) (gp)
def gv:DTS:=aw (aN (dOp ck (ad 3) (dC (.int 2147483647))) 5) (gu)
def gw:DTS:=cc (ad 2)
def gx:DTS:=aN (dOp aU (ad 3) (dC (.int 1000000))) 3
def gy:DTS:=aw (dIf (aB (dOp qEq (dOp ck (ad 0) (dC (.int 2))) (dC (.int 0)))) (aw (gk (aF (aa (ad 1) am)) (ao 4) (aw (jZ (dMl cA (ad 2) (aa (dOp ck (ad 3) (dC (.int 1000000))) am))) (gx))) (gw)) bd) (gv)
def gz:DTS:=aw (aN (dOp aU (ad 0) (dC (.int 2))) 3) (gy)
def lF:DTS:=aw (aN (fP am) 2) (gz)
theorem nB:WpT dB 7 lF:=by
 rintro ds M R ⟨c,n,rfl,hn,h⟩
 simp only[lF,gz,gy,gx,gw,gv]
 walk_at "dl"
 refine⟨AAZ _,⟨by decide,by decide⟩,by decide,⟨rfl,rfl⟩,?_⟩
 have done_:∀(xs:List Int) (L:Mem),xs.length=n->ba M R (.ref M.length) (M++.lst (xs.map .int)::L):=λxs L e=>ba.lst (h xs e) (AA8 _) aK (ma xs)
 by_cases hq:eqD (M++[MO.lst []]) eqN (.int (c % 2)) (.int 0)=true
 ·rw[hq]
  refine gf ⟨⟨by lia,by lia⟩,?_⟩
  refine aW (λi S M'=>∃(xs:List Int) (r:Int) (a:Option D),xs.length=i/\M'=M++.lst (xs.map .int)::[]/\S=[some (.int c),some (.int n),some (.ref M.length),some (.int r),a,none,none]) ?_ ?_ ⟨[],_,_,rfl,rfl,rfl⟩
  ·rintro S M' ⟨xs,r,a,hx,rfl,rfl⟩
   rw[au]at hx
   exact⟨trivial,done_ xs [] (by lia)⟩
  ·rintro i y S M' hy ⟨xs,r,a,hx,rfl,rfl⟩ G hG
   obtain⟨hi,rfl⟩:=aM.mp hy
   refine⟨trivial,?_⟩
   walk_at "dl"
   refine⟨⟨_,.inl aK⟩,by decide,xs.map .int,aK,by rw[AA6];exact ae (by lia),⟨by decide,by decide⟩,Fgt.now (hG _ _ ⟨xs++[r % 1000000],_,_,by simp[hx],?_,rfl⟩)⟩
   rw[cU];simp
 ·rw[ABz.mpr hq]
  refine gg ⟨by decide,?_⟩
  simp only[gu]
  walk_at "dl"
  refine⟨⟨by lia,by lia⟩,?_⟩
  refine aW (λi S M'=>∃(xs:List Int) (r z:Int) (a b:Option D),xs.length=i/\(0<=z/\z<2147483647)/\M'=M++.lst (xs.map .int)::[]/\S=[some (.int c),some (.int n),some (.ref M.length),some (.int r),a,some (.int z),b]) ?_ ?_ ⟨[],_,_,_,_,rfl,⟨AAS _ (by decide),AAM _ (by decide)⟩,rfl,rfl⟩
  ·rintro S M' ⟨xs,r,z,a,b,hx,_,rfl,rfl⟩
   rw[au]at hx
   refine⟨trivial,?_⟩
   try simp only[gp]
   try walk_at "dl"
   exact done_ xs [] (by lia)
  ·rintro i y S M' hy ⟨xs,r,z,a,b,hx,⟨hz0,hz1⟩,rfl,rfl⟩ G hG
   obtain⟨hi,rfl⟩:=aM.mp hy
   refine⟨trivial,?_⟩
   walk_at "dl"
   refine⟨.inr ⟨by decide,by decide⟩,.inl ⟨by decide,by decide⟩,by decide,?_⟩
   have b0:=AAS (z*48271+7919*(0+(i:Int))+11) (show (2147483647:Int)≠0 by decide)
   have b1:=AAM (z*48271+7919*(0+(i:Int))+11) (show (0:Int)<2147483647 by decide)
   generalize (z*48271+7919*(0+(i:Int))+11) % 2147483647=z' at b0 b1
   simp only[gs,gq]
   walk_at "dl"
   refine⟨.inl ⟨by lia,by lia⟩,by decide,⟨_,.inl aK⟩,.inr ⟨by decide,by decide⟩,by decide,⟨by decide,by decide⟩,by decide,xs.map .int,aK,by rw[AA6];exact ae (by lia),Fgt.now (hG _ _ ⟨xs++[z'*z' % 2147483629*69621 % 2147483587 / 16 % 1000000],r,z',_,_,by simp[hx],⟨b0,b1⟩,?_,rfl⟩)⟩
   rw[cU];simp
theorem oK(T:Tops P w K mg base):Cal P w K mg base 1 "_law_stream" ig dB :=
 Cal.byD (N:=["_law_cell","_law_many","_law_found","_law_rest","_law_k","_law_number","_law_other"]) T.b T.f_stream (by walk_at "sc") mU (by walk_at "dv") nB
noncomputable def qC(c:Nat):Bool:=decide (97<=c)&&decide (c<=122)
def Low(x:Str):Prop:=x.cps.toList.all qC=true
theorem oS(h1:Low a)(h2:Low b):Low (a++b):=by
 unfold Low
 rw[dS,List.all_append,h1,h2];rfl
theorem nZ(h1:bf x y=false)(h2:bf y x=false):x=y:=by
 unfold bf at h1 h2
 rw[decide_eq_false_iff_not]at h1 h2
 exact cT (List.le_antisymm (List.not_lt.mp h2) (List.not_lt.mp h1))
theorem jD:∀{xs ys:List Str},xs.Nodup->ys.Nodup->(∀x,x∈xs↔x∈ys)->xs.Pairwise (λa b=>bf b a=false)->ys.Pairwise (λa b=>bf b a=false)->xs=ys
 | [],ys,_,_,h,_,_=>(List.eq_nil_iff_forall_not_mem.mpr λy hy=>absurd ((h y).mpr hy) (by simp)).symm
 | x::xs,[],_,_,h,_,_=>absurd ((h x).mp AAI) (by simp)
 | x::xs,y::ys,nx,ny,h,px,py=>by
  have nx':=AAi.mp nx
  have ny':=AAi.mp ny
  have px':=List.pairwise_cons.mp px
  have py':=List.pairwise_cons.mp py
  have e:x=y:=by
   refine Classical.byContradiction λne=>?_
   have hx:x∈ys:=((AA9.mp ((h x).mp AAI)).resolve_left ne)
   have hy:y∈xs:=((AA9.mp ((h y).mpr AAI)).resolve_left λz=>ne z.symm)
   exact ne (nZ (py'.1 x hx) (px'.1 y hy))
  subst e
  rw[jD nx'.2 ny'.2 (λz=>?_) px'.2 py'.2]
  have hz:=h z
  rw[AA9,AA9]at hz
  constructor
  ·intro q
   exact(hz.mp (.inr q)).resolve_left λe=>nx'.1 (e ▸ q)
  ·intro q
   exact(hz.mpr (.inr q)).resolve_left λe=>ny'.1 (e ▸ q)
theorem fm{M:Mem}{xs:List Str}(h:nv M (xs.map .str)):xs.Pairwise (λa b=>bf b a=false):=by
 unfold nv at h
 exact List.pairwise_map.mp h
theorem zc{xs:List D}{k:Nat}:cutD xs none (some (k:Int))=xs.take k:=by
 unfold cutD
 rw[HT.sIx_none,HT.sIx_nat,ACT,Nat.sub_zero]
 by_cases h:k<=xs.length
 ·rw[Nat.min_eq_left h]
 ·rw[Nat.min_eq_right (by lia),ACb,AB1 (by lia)]
theorem dn{xs:List Str}(h:xs.Pairwise (λa b=>bf b a=false))(nd:xs.Nodup):xs.Pairwise λa b=>bf a b=true:=by
 rw[AAa]at nd
 refine(h.and nd).imp λ{a b} ⟨h1,h2⟩=>?_
 cases e:bf a b with
 | true=>rfl
 | false=>exact absurd (nZ e h1) h2
theorem me(h:y::xs=(dI 0 n).drop i):y=.int (i:Int)/\i<n/\xs=(dI 0 n).drop (i+1):=by
 have hl:i<(dI 0 n).length:=by
  refine Classical.byContradiction λz=>?_
  rw[ACN (by lia)]at h
  cases h
 rw[List.drop_eq_getElem_cons hl]at h
 injection h with h1 h2
 rw[au]at hl
 obtain⟨_,e⟩:=aM.mp (AA1 (show i<(dI 0 n).length by rw[au];exact hl))
 rw[AD]at e
 exact⟨h1.trans e,hl,h2⟩
theorem lJ{ms ns:List Str}{i:Nat}(hi:i<ns.length)(h:ms.Sublist (ns.take i)):(ms++[ns[i]]).Sublist (ns.take (i+1)):=by
 rw[List.take_add_one,AA1 hi]
 exact h.append (List.Sublist.refl _)
theorem lK{ms ns:List Str}{i:Nat}(h:ms.Sublist (ns.take i)):ms.Sublist (ns.take (i+1)):=by
 rw[List.take_add_one]
 exact h.trans (List.sublist_append_left _ _)
theorem uU(hm:c∈(AA2 "abcdefghijklmnopqrstuvwxyz").cps.toList):Low ⟨#[c]⟩:=by
 have hl:(AA2 "abcdefghijklmnopqrstuvwxyz").cps.toList=(AAb 26).map (· + 97):=by decide +kernel
 rw[hl]at hm
 obtain⟨k,hk,rfl⟩:=AAJ.mp hm
 have:=AB6.mp hk
 show (qC (k+97)&&true)=true
 unfold qC
 rw[Bool.and_true,AAG,decide_eq_true_eq,decide_eq_true_eq]
 lia
noncomputable def nu(i:Int):Nat:=97+(i % 26).toNat
noncomputable def gJ:Str:=AA2 "abcdefghijklmnopqrstuvwxyz"
theorem mv(i:Int):atI gJ.cps.toList (i % 26)=some (nu i):=by
 have hl:gJ.cps.toList=(AAb 26).map (· + 97):=by decide +kernel
 have h0:=AAS i (show (26:Int)≠0 by decide)
 have h1:=AAM i (show (0:Int)<26 by decide)
 have e:i % 26=(((i % 26).toNat:Nat):Int):=by lia
 rw[e]
 refine aG ?_
 rw[hl,AAP,ACl (by lia)]
 simp[nu,Nat.add_comm]
noncomputable def qR(c:Int)(spot:Int)(k j:Nat):Nat:=nu (c / (49+5*(j:Int))+(j:Int)*(c / 49 % 3)+if (j:Int)=spot then 3*(k:Int)else 0)
noncomputable def cK(c spot:Int)(k j:Nat):List Nat:=(AAb j).map (qR c spot k)
noncomputable def bA(c spot:Int)(long k:Nat):Str:=⟨(cK c spot k long).toArray⟩
noncomputable def bn(c spot:Int)(long m:Nat):List Str:=(AAb m).map (bA c spot long)
theorem bT:(bA c spot long k).length=long:=by
 rw[aE];simp[bA,cK]
theorem rN(h:nu i=nu j):i % 26=j % 26:=by
 have h0:=AAS i (show (26:Int)≠0 by decide)
 have h1:=AAS j (show (26:Int)≠0 by decide)
 unfold nu at h
 lia
theorem nC{c:Int}{spot long:Nat}{k k':Nat}(hs:spot<long)(hk:k<6)(hk':k' < 6)(e:bA c spot long k=bA c spot long k'):k=k':=by
 have e1:(cK c spot k long)[spot]?=(cK c spot k' long)[spot]?:=by
  have:(bA c spot long k).cps.toList=(bA c spot long k').cps.toList:=by rw[e]
  have h1:(bA c spot long k).cps.toList=cK c spot k long:=by simp[bA]
  have h2:(bA c spot long k').cps.toList=cK c spot k' long:=by simp[bA]
  rw[h1,h2]at this
  rw[this]
 unfold cK at e1
 rw[AAP,AAP,ACl hs]at e1
 have e2:=rN (AAN e1)
 simp only[↓reduceIte]at e2
 lia
theorem oR(i:Int):qC (nu i)=true:=by
 have h0:=AAS i (show (26:Int)≠0 by decide)
 have h1:=AAM i (show (0:Int)<26 by decide)
 unfold qC nu
 rw[AAG,decide_eq_true_eq,decide_eq_true_eq]
 lia
theorem de:Low (bA c spot long k):=by
 show ((AAb long).map (qR c spot k)).toArray.toList.all qC=true
 rw[AAc]
 intro x hx
 have hx':x∈(AAb long).map (qR c spot k):=hx
 obtain⟨j,_,rfl⟩:=AAJ.mp hx'
 exact oR _
def zk(ws:List Str):Prop:=ws.length=6/\ws.Nodup/\(∀x∈ws,1<=x.length/\x.length<=8)/\∀x∈ws,Low x
theorem eS{c:Int}{spot long:Nat}(hs:spot<long):(bn c spot long 6).Nodup:=by
 unfold bn
 rw[AAa,ABj]
 have:=List.nodup_range (n:=6)
 rw[AAa]at this
 refine this.imp_of_mem λ{a b} ha hb hne e=>hne (nC hs (AB6.mp ha) (AB6.mp hb) e)
def eO:DSp:=λds M R=>∃c:Int,ds=[.int c,.int 6]/\∀ws,zk ws->R (.ref M.length) (M++[.lst (ws.map .str)])
theorem oW:iJ eO kC:=by rintro ds M R ⟨c,rfl,_⟩;rfl
def dG:DTS:=cc (ad 5)
def iW:DTS:=aw (dIf (aB (dOp qEq (dOp ck (dOp aU (ad 0) (dC (.int 49))) (dC (.int 4))) (dC (.int 1)))) (wB (dOp ar (dOp qIx (ad 5) (dC (.int 0))) (dOp qIx (ad 2) (dOp ck (dOp aU (ad 0) (dC (.int 196))) (dC (.int 26))))) (sG (ad 5) (dC (.int 1)))) bd) (dG)
def iX:DTS:=jZ (dMl cA (ad 5) (aa (ad 7) am))
def eT:DTS:=aN (dOp ar (ad 7) (dOp qIx (ad 2) (dOp ck (ad 9) (dC (.int 26))))) 7
def iY:DTS:=aw (dIf (aB (dOp qEq (ad 8) (ad 4))) (aN (dOp ar (ad 9) (dOp eA (dC (.int 3)) (ad 6))) 9) bd) (eT)
def iZ:DTS:=aw (gk (aF (aa (ad 3) am)) (ao 8) (aw (aN (dOp ar (dOp aU (ad 0) (dOp ar (dC (.int 49)) (dOp eA (dC (.int 5)) (ad 8)))) (dOp eA (ad 8) (dOp ck (dOp aU (ad 0) (dC (.int 49))) (dC (.int 3))))) 9) (iY))) (iX)
def ja:DTS:=aw (gk (aF (aa (ad 1) am)) (ao 6) (aw (aN (dC (.str "")) 7) (iZ))) (iW)
def jb:DTS:=aw (aN (fP am) 5) (ja)
def jc:DTS:=aw (aN (dOp ck (dOp aU (ad 0) (dC (.int 7))) (ad 3)) 4) (jb)
def jd:DTS:=aw (aN (dOp ar (dC (.int 1)) (dOp ck (ad 0) (dC (.int 7)))) 3) (jc)
def nJ:DTS:=aw (aN (dC (.str "abcdefghijklmnopqrstuvwxyz")) 2) (jd)
theorem qH:WpT eO 10 nJ:=by
 rintro ds M R ⟨c,rfl,h⟩
 simp only[nJ,jd,jc,jb,ja]
 walk_at "dl"
 have c0:=AAS c (show (7:Int)≠0 by decide)
 have c1:=AAM c (show (0:Int)<7 by decide)
 obtain⟨long,hlong⟩:∃l:Nat,(l:Int)=1+c % 7:=⟨(1+c % 7).toNat,by lia⟩
 rw[<-hlong]
 have l1:1<=long:=by lia
 have l7:long<=7:=by lia
 have d0:=AAS (c / 7) (show (long:Int)≠0 by lia)
 have d1:=AAM (c / 7) (show (0:Int)<(long:Int) by lia)
 obtain⟨spot,hspot⟩:∃l:Nat,(l:Int)=c / 7 % (long:Int):=⟨(c / 7 % (long:Int)).toNat,by lia⟩
 rw[<-hspot]
 have hsl:spot<long:=by lia
 have hz:gJ.length<=sizeLine:=by decide +kernel
 refine⟨by decide,⟨by decide,by decide⟩,by lia,AAZ _,⟨by decide,by decide⟩,?_⟩
 refine aW (λi S M'=>∃a b d e,M'=M++.lst ((bn c spot long i).map .str)::[]/\S=[some (.int c),some (.int 6),some (.str gJ),some (.int long),some (.int spot),some (.ref M.length),a,b,d,e]) ?_ ?_ ⟨_,_,_,_,rfl,rfl⟩
 ·rintro S M' ⟨a,b,d,e,rfl,rfl⟩
  refine⟨trivial,?_⟩
  rw[au]
  simp only[iW]
  walk_at "dl"
  refine⟨⟨by decide,by decide⟩,by decide,⟨rfl,rfl⟩,?_⟩
  have wlen:∀x∈bn c spot long 6,1<=x.length/\x.length<=7:=λx hx=>by
   unfold bn at hx
   obtain⟨k,_,rfl⟩:=AAJ.mp hx
   rw[bT];exact⟨l1,l7⟩
  have w6:(bn c spot long 6).length=6:=by simp[bn]
  by_cases hq:eqD (M++[MO.lst (List.map D.str (bn c (↑spot) long (Int.toNat 6)))]) eqN (.int (c / 49 % 4)) (.int 1)=true
  ·rw[hq]
   refine gf ?_
   have nd:=eS (c:=c) hsl
   have ew:bn c spot long 6=bA c spot long 0::bA c spot long 1::(List.range' 2 4).map (bA c spot long):=rfl
   have ei:(Int.toNat 6)=6:=rfl
   rw[ei,ew]
   refine⟨_,.inl aK,?_⟩
   rw[AAQ,AAQ,at0]
   refine⟨⟨by decide,by decide⟩,by decide,hz,?_⟩
   rw[mv]
   refine⟨by rw[fB,bT];exact ae (by lia),_,1,aK,?_,?_⟩
   ·have:∀n:Nat,2<=n->ixN n 1=some 1:=λn hn=>by
     unfold ixN
     rw[if_pos (by decide),if_pos (by lia)]
     rfl
    exact this _ (by simp)
   ·rw[cU]
    simp only[dG]
    walk_at "dl"
    refine ba.lst (h (bA c spot long 0::(bA c spot long 0++⟨#[nu (c / 196)]⟩)::(List.range' 2 4).map (bA c spot long)) ?_) (AA8 _) aK (eK (bA c spot long 0::(bA c spot long 0++⟨#[nu (c / 196)]⟩)::(List.range' 2 4).map (bA c spot long)))
    rw[ew,AAi,AAi]at nd
    obtain⟨n1,n2,n3⟩:=nd
    have ln:(bA c spot long 0++⟨#[nu (c / 196)]⟩).length=long+1:=by rw[aY,fB,bT]
    have other:∀x∈(List.range' 2 4).map (bA c spot long),x.length=long:=λx hx=>by
     obtain⟨k,_,rfl⟩:=AAJ.mp hx
     exact bT
    refine⟨rfl,?_,λx hx=>?_,λx hx=>?_⟩
    ·rw[AAi,AAi]
     refine⟨λz=>?_,λz=>?_,n3⟩
     ·rcases AA9.mp z with z | z
      ·have:=congrArg Str.length z
       rw[ln,bT]at this
       lia
      ·exact n1 (AAA _ z)
     ·have:=other _ z
      lia
    ·rcases AA9.mp hx with rfl | hx
     ·rw[bT];lia
     ·rcases AA9.mp hx with rfl | hx
      ·rw[ln];lia
      ·rw[other x hx];lia
    ·rcases AA9.mp hx with rfl | hx
     ·exact de
     ·rcases AA9.mp hx with rfl | hx
      ·exact oS de (by show (qC _&&true)=true;rw[oR];rfl)
      ·obtain⟨k,_,rfl⟩:=AAJ.mp hx
       exact de
  ·rw[ABz.mpr hq]
   refine gg ?_
   simp only[dG]
   walk_at "dl"
   exact ba.lst (h _ ⟨w6,eS hsl,λx hx=>⟨(wlen x hx).1,by have:=(wlen x hx).2;lia⟩,λx hx=>by obtain⟨k,_,rfl⟩:=AAJ.mp hx;exact de⟩) (AA8 _) aK (eK _)
 ·rintro k y S M' hy ⟨a,b,d,e,rfl,rfl⟩ G hG
  obtain⟨hk,rfl⟩:=aM.mp hy
  have hk6:k<6:=hk
  refine⟨trivial,?_⟩
  simp only[iZ]
  walk_at "dl"
  refine⟨⟨by lia,by lia⟩,?_⟩
  refine aW (λj S M'=>∃a b,M'=M++.lst ((bn c spot long k).map .str)::[]/\S=[some (.int c),some (.int 6),some (.str gJ),some (.int long),some (.int spot),some (.ref M.length),some (.int (0+(k:Int))),some (.str ⟨(cK c spot k j).toArray⟩),a,b]) ?_ ?_ ⟨_,_,rfl,rfl⟩
  ·rintro S M' ⟨a,b,rfl,rfl⟩
   refine⟨trivial,?_⟩
   rw[au]
   simp only[iX]
   walk_at "dl"
   refine⟨⟨_,.inl aK⟩,_,aK,?_,Fgt.now (hG _ _ ⟨_,_,_,_,?_,rfl⟩)⟩
   ·rw[AA6,bn,AA6,List.length_range];exact ae (by lia)
   ·rw[cU]
    simp[bn,List.range_succ,bA]
  ·rintro j y S M' hy ⟨a,b,rfl,rfl⟩ G2 hG2
   obtain⟨hj,rfl⟩:=aM.mp hy
   have hj7:j<7:=by lia
   refine⟨trivial,?_⟩
   walk_at "dl"
   refine⟨.inl ⟨by decide,by decide⟩,⟨by lia,by lia⟩,⟨by decide,by decide⟩,by decide,.inl ⟨by lia,by lia⟩,?_⟩
   have fin:∀(bk:SD->Mem->Prop) (z:Int),z=c / (49+5*(j:Int))+(j:Int)*(c / 49 % 3)+(if (j:Int)=(spot:Int)then 3*(k:Int)else 0) ->
     eT ⟨Fgt (M++[MO.lst (List.map D.str (bn c (↑spot) long k))]) G2,ba M R,bk,Fgt (M++[MO.lst (List.map D.str (bn c (↑spot) long k))]) G2⟩ [some (.int c),some (.int 6),some (.str gJ),some (.int long),some (.int spot),some (.ref M.length),some (.int (0+(k:Int))),some (.str ⟨(cK c spot k j).toArray⟩),some (.int (0+(j:Int))),some (.int z)] (M++.lst ((bn c spot long k).map .str)::[]):=by
    intro bk z hz'
    simp only[eT]
    walk_at "dl"
    refine⟨by decide,hz,?_⟩
    rw[mv]
    have wl:(⟨(cK c spot k j).toArray⟩:Str).length=j:=by rw[aE];simp[cK]
    refine⟨by rw[fB,wl];exact ae (by lia),Fgt.now (hG2 _ _ ⟨some (.int (0+(j:Int))),some (.int z),rfl,?_⟩)⟩
    have:(⟨(cK c spot k (j+1)).toArray⟩:Str)=⟨(cK c spot k j).toArray⟩++⟨#[nu z]⟩:=by
     refine cT ?_
     rw[hz']
     show (cK c spot k (j+1)).toArray.toList=((cK c spot k j).toArray ++ #[_]).toList
     simp[cK,List.range_succ,qR]
    rw[this]
   simp only[iY]
   walk_at "dl"
   refine⟨⟨rfl,rfl⟩,?_⟩
   have z0:(0:Int)+(j:Int)=(j:Int):=by lia
   have z1:(0:Int)+(k:Int)=(k:Int):=by lia
   by_cases hjs:(j:Int)=(spot:Int)
   ·rw[show eqD (M++[MO.lst (List.map D.str (bn c (↑spot) long k))]) eqN (D.int (0 + ↑j)) (D.int ↑spot)=true by simp[eqD,z0,hjs]]
    refine gf ⟨.inl ⟨by decide,by decide⟩,fin _ _ ?_⟩
    rw[if_pos hjs,z0,z1]
   ·rw[show eqD (M++[MO.lst (List.map D.str (bn c (↑spot) long k))]) eqN (D.int (0 + ↑j)) (D.int ↑spot)=false by simp[eqD,z0,hjs]]
    refine gg (fin _ _ ?_)
    rw[if_neg hjs,z0,Int.add_zero]
theorem rB(T:Tops P w K mg base):Cal P w K mg base 1 "_law_words" kC eO :=
 Cal.byD (N:=["_law_cell","_law_many","_law_letters","_law_long","_law_spot","_law_words_here","_law_k","_law_word","_law_j","_law_sign"]) T.b T.f_words (by walk_at "sc") oW (by walk_at "dv") qH
def bZ:DSp:=λds M R=>∃(c:Int),ds=[.int c]/\∀(x:Str) (r:Int),1<=x.length->x.length<=8->Low x->R (.tup [.str x,.int r]) M
theorem kP:iJ bZ fy:=by rintro ds M R ⟨c,rfl,_⟩;rfl
def fb:DTS:=cc (iN (aa (ad 3) (aa (ad 0) am)))
def fc:DTS:=aN (dOp aU (ad 0) (dC (.int 26))) 0
def fe:DTS:=aw (gk (aF (aa (ad 2) am)) (ao 4) (aw (aN (dOp ar (ad 3) (dOp qIx (ad 1) (dOp ck (ad 0) (dC (.int 26))))) 3) (fc))) (fb)
def fg:DTS:=aw (aN (dC (.str "")) 3) (fe)
def fh:DTS:=aw (aN (dOp aU (ad 0) (dC (.int 8))) 0) (fg)
def fi:DTS:=aw (aN (dOp ar (dC (.int 1)) (dOp ck (ad 0) (dC (.int 8)))) 2) (fh)
def jk:DTS:=aw (aN (dC (.str "abcdefghijklmnopqrstuvwxyz")) 1) (fi)
theorem mz:WpT bZ 5 jk:=by
 rintro ds M R ⟨c,rfl,h⟩
 simp only[jk,fi,fh,fg,fe]
 walk_at "dl"
 have hm0:=AAS c (show (8:Int)≠0 by decide)
 have hm1:=AAM c (show (0:Int)<8 by decide)
 have hz:(AA2 "abcdefghijklmnopqrstuvwxyz").length<=sizeLine:=by decide +kernel
 have hl:(AA2 "abcdefghijklmnopqrstuvwxyz").cps.toList.length=26:=by decide +kernel
 refine⟨by decide,⟨by decide,by decide⟩,⟨by lia,by lia⟩,?_⟩
 refine aW (λi S M'=>M'=M/\∃(x:Str) (r:Int) (a:Option D),x.length=i/\Low x/\S=[some (.int r),some (.str (AA2 "abcdefghijklmnopqrstuvwxyz")),some (.int (1+c % 8)),some (.str x),a]) ?_ ?_ ⟨rfl,_,_,_,by decide +kernel,by unfold Low;decide +kernel,rfl⟩
 ·rintro S M' ⟨rfl,x,r,a,hx,hlow,rfl⟩
  rw[au]at hx
  refine⟨trivial,?_⟩
  simp only[fb]
  walk_at "dl"
  exact⟨ae (by lia),ba.now (h x r (by lia) (by lia) hlow)⟩
 ·rintro i y S M' hy ⟨rfl,x,r,a,hx,hlow,rfl⟩ G hG
  obtain⟨hi,rfl⟩:=aM.mp hy
  refine⟨trivial,?_⟩
  obtain⟨j,hj,e,_⟩:=iH (xs:=(AA2 "abcdefghijklmnopqrstuvwxyz").cps.toList) (r:=r) (by lia)
  rw[hl]at e
  simp only[fc]
  walk_at "dl"
  refine⟨by decide,hz,?_⟩
  have e':atI (AA2 "abcdefghijklmnopqrstuvwxyz").cps.toList (r % 26)=some _:=e
  rw[e']
  exact⟨by rw[fB];exact ae (by lia),⟨by decide,by decide⟩,Fgt.now (hG _ _ ⟨rfl,_,_,_,by rw[aY,fB,hx],oS hlow (uU (AB4 hj)),rfl⟩)⟩
theorem mM(T:Tops P w K mg base):Cal P w K mg base 1 "_law_name_in" fy bZ :=
 Cal.byD (N:=["_law_rest","_law_letters","_law_many","_law_name","_law_k"]) T.b T.f_name_in (by walk_at "sc") kP (by walk_at "dv") mz
structure HouseOk(ps:List (Str×Int))(rs:List (Str×List Str)):Prop where
 nd:(ps.map (·.1)).Nodup
 len:1<=ps.length/\ps.length<=4
 many:∀p∈ps,1<=p.2/\p.2<=3
 nm:∀p∈ps,1<=p.1.length/\p.1.length<=8
 rl:1<=rs.length/\rs.length<=4
 rn:∀r∈rs,1<=r.1.length/\r.1.length<=8
 low:∀p∈ps,Low p.1
 up:(ps.map (·.1)).Pairwise λa b=>bf a b=true
 rlow:∀r∈rs,Low r.1
 rup:(rs.map (·.1)).Pairwise λa b=>bf a b=true
 mem:∀r∈rs,r.2≠[]/\r.2.Sublist (ps.map (·.1))
def aJ:DSp:=λds M R=>∃c:Int,ds=[.int c]/\∀ps rs,HouseOk ps rs->R (aI ps rs) M
theorem cY:iJ aJ bg:=by rintro ds M R ⟨c,rfl,_⟩;rfl
theorem fL:Bel k (aI ps rs):=by
 refine .tup (.cons (.tup (Bels.of λd hd=>?_)) (.cons (.tup (Bels.of λd hd=>?_)) .nil))
 ·obtain⟨p,_,rfl⟩:=AAJ.mp hd
  exact .tup (.cons (.str _) (.cons (.int _) .nil))
 ·obtain⟨p,_,rfl⟩:=AAJ.mp hd
  exact .tup (.cons (.str _) (.cons (.tup (eK _)) .nil))
structure PplOk(kvs:List (Str×D)):Prop where
 nd:(kvs.map (·.1)).Nodup
 ok:∀p∈kvs,((1<=p.1.length/\p.1.length<=8)/\Low p.1)/\∃v:Int,p.2=.int v/\1<=v/\v<=3
structure RmsOk(ns:List Str)(kvs:List (Str×D)):Prop where
 nd:(kvs.map (·.1)).Nodup
 ok:∀p∈kvs,((1<=p.1.length/\p.1.length<=8)/\Low p.1)/\∃v:List Str,p.2=.tup (v.map .str)/\v≠[]/\v.Sublist ns
def aO:DTS:=cc (iN (aa (dCB cR (aa (dLC 1 [1] (eE (ad 5)) (ao 0) pY (iN (aa (ad 0) (aa (qg (ad 1) (ad 0)) am)))) am)) (aa (dCB cR (aa (dLC 1 [6] (eE (dCB aV (aa (ad 6) am))) (ao 0) pY (iN (aa (ad 0) (aa (qg (ad 1) (ad 0)) am)))) am)) am)))
def bu:DTS:=aN (dOp aU (ad 0) (dC (.int 16))) 0
def aP:DTS:=aw (qf (ad 6) (ad 7) (dCB cR (aa (ad 8) am))) (bu)
def bv:DTS:=aw (dIf (aB (dOp qEq (ad 8) (fP am))) (aN (dSl (ad 5) bc (dA (dC (.int 1)))) 8) bd) (aP)
def bw:DTS:=aw (fQ 1 [5,0] (aF (aa (dCB iM (aa (ad 5) am)) am)) (ao 0) (aB (dOp qEq (dOp ck (dOp aU (ad 2) (dOp qIx (fP (aa (dC (.int 1)) (aa (dC (.int 2)) (aa (dC (.int 4)) (aa (dC (.int 8)) am))))) (ad 0))) (dC (.int 2))) (dC (.int 1)))) (dOp qIx (ad 1) (ad 0)) 8) (bv)
def bx:DTS:=aw (gk (aF (aa (ad 2) am)) (ao 3) (aw (wB (dCB bZ (aa (ad 0) am)) (gh 2 (bp (ao 7) (bp (ao 0) gj)))) (bw))) (aO)
def bE:DTS:=aw (aN (dOp aU (ad 0) (dC (.int 4))) 0) (bx)
def bF:DTS:=aw (aN (dOp ar (dC (.int 1)) (dOp ck (ad 0) (dC (.int 4)))) 2) (bE)
def bG:DTS:=aw (aN (qc) 6) (bF)
def bH:DTS:=aw (aN (dCB aV (aa (ad 1) am)) 5) (bG)
def bI:DTS:=aN (dOp aU (ad 0) (dC (.int 3))) 0
def bJ:DTS:=aw (qf (ad 1) (ad 4) (dOp ar (dC (.int 1)) (dOp ck (ad 0) (dC (.int 3))))) (bI)
def bK:DTS:=aw (gk (aF (aa (ad 2) am)) (ao 3) (aw (wB (dCB bZ (aa (ad 0) am)) (gh 2 (bp (ao 4) (bp (ao 0) gj)))) (bJ))) (bH)
def bL:DTS:=aw (aN (dOp aU (ad 0) (dC (.int 4))) 0) (bK)
def bM:DTS:=aw (aN (dOp ar (dC (.int 1)) (dOp ck (ad 0) (dC (.int 4)))) 2) (bL)
def bU:DTS:=aw (aN (qc) 1) (bM)
theorem pD{M L:Mem}{R:DK}{kvs rkvs:List (Str×D)}{ns:List Str}{S:SD}{E:DEnds}(hE:E.rt=ba M R)(h:∀ps rs,HouseOk ps rs->R (aI ps rs) M)(hp:PplOk kvs)(hl:1<=kvs.length/\kvs.length<=4)(hn:ns.Perm (kvs.map (·.1)))(hup:ns.Pairwise λa b=>bf b a=false)(hr:RmsOk ns rkvs)(hrl:1<=rkvs.length/\rkvs.length<=4)
  {x0 x2 x3 x4 x7 x8:Option D} (hS:S=[x0,some (.ref M.length),x2,x3,x4,some (.ref (M.length+1)),some (.ref (M.length+2)),x7,x8]) :
  aO E S (M++.dct kvs::.lst (ns.map .str)::.dct rkvs::L):=by
 subst hS
 simp only[aO]
 walk_at "dl"
 have nl:ns.length=kvs.length:=by rw[hn.length_eq,AA6]
 have val:∀(kv:List (Str×D)) (M2:Mem) (x:Str),x∈kv.map (·.1)->∃d,(x,d)∈kv/\iL kv x=some d:=λkv M2 x hx=>by
  obtain⟨d,h1,h2⟩:=qL hx
  exact⟨d,h2,h1⟩
 refine⟨ns.map .str,.inl dy,λ_=>?_⟩
 refine bY (λd=>.tup [d,((iL kvs (unS d)).getD .non)]) (λS=>∃a,S=[a,some (.ref M.length)]) (.inl dy) _ _ _ (λd hd S hS=>?_) ⟨_,rfl⟩ ?_ ?_
 ·obtain⟨a,rfl⟩:=hS
  obtain⟨x,hx,rfl⟩:=AAJ.mp hd
  obtain⟨d,h1,h2⟩:=val kvs [] x (hn.mem_iff.mp hx)
  refine⟨[some (.str x),some (.ref M.length)],⟨_,rfl⟩,λY hY=>?_⟩
  walk_at "dl"
  refine⟨kvs,d,aK,h2,ae (by lia),?_⟩
  rw[show unS (.str x)=x from rfl,h2]at hY
  exact hY
 ·simp only[AAk,AA6]
  exact ae (by lia)
 refine⟨_,.inl av,?_⟩
 unfold aV
 refine⟨(rkvs.map (·.1)).map .str,.inr ⟨rkvs,?_,by rw[AAV];rfl⟩,dH (by rw[AA6];lia),λys hys hrise=>?_⟩
 ·rw[AAC (by simp)]
  exact ir
 obtain⟨ms,rfl,hms⟩:=fv hys
 walk_at "dl"
 refine⟨_,.inl av,λ_=>?_⟩
 have ml:ms.length=rkvs.length:=by rw[hms.length_eq,AA6]
 refine bY (λd=>.tup [d,((iL rkvs (unS d)).getD .non)]) (λS=>∃a,S=[a,some (.ref (M.length+2))]) (.inl av) _ _ _ (λd hd S hS=>?_) ⟨_,rfl⟩ ?_ ?_
 ·obtain⟨a,rfl⟩:=hS
  obtain⟨x,hx,rfl⟩:=AAJ.mp hd
  obtain⟨d,h1,h2⟩:=val rkvs [] x (hms.mem_iff.mp hx)
  refine⟨[some (.str x),some (.ref (M.length+2))],⟨_,rfl⟩,λY hY=>?_⟩
  walk_at "dl"
  refine⟨rkvs,d,?_,h2,ae (by lia),?_⟩
  ·rw[AAC (by simp),AAC (by simp)]
   exact ir
  ·rw[show unS (.str x)=x from rfl,h2]at hY
   exact hY
 ·simp only[AAk,AA6]
  exact ae (by lia)
 refine⟨_,.inl av,ae (by lia),?_⟩
 rw[hE]
 simp only[AB2,AAV]
 have e1:ns.map ((λd=>D.tup [d,(iL kvs (unS d)).getD .non]) ∘ D.str)=(ns.map λx=>(x,match iL kvs x with | some (.int v)=>v | _=>0)).map aX:=by
  rw[AAV]
  refine ABn λx hx=>?_
  obtain⟨d,h1,h2⟩:=val kvs [] x (hn.mem_iff.mp hx)
  obtain⟨_,v,e,_⟩:=hp.ok _ h1
  simp only[Function.comp,unS,h2,ACd,aX]
  have e':d=.int v:=e
  rw[e']
 have e2:ms.map ((λd=>D.tup [d,(iL rkvs (unS d)).getD .non]) ∘ D.str)=(ms.map λx=>(x,match iL rkvs x with | some (.tup v)=>v.map unS | _=>[])).map aZ:=by
  rw[AAV]
  refine ABn λx hx=>?_
  obtain⟨d,h1,h2⟩:=val rkvs [] x (hms.mem_iff.mp hx)
  obtain⟨_,v,e,_⟩:=hr.ok _ h1
  have e':d=.tup (v.map .str):=e
  simp only[Function.comp,unS,h2,ACd,aZ]
  rw[e']
  simp only[AAV]
  congr 2
 rw[e1,e2]
 have en:(ns.map λx=>(x,match iL kvs x with | some (.int v)=>v | _=>0)).map (·.1)=ns:=by
  rw[AAV]
  exact ACR ns
 have em:(ms.map λx=>(x,match iL rkvs x with | some (.tup v)=>v.map unS | _=>[])).map (·.1)=ms:=by
  rw[AAV]
  exact ACR ms
 refine ba.keep (h _ _ ⟨?_,?_,?_,?_,?_,?_,?_,?_,?_,?_,?_⟩) fL ?_
 ·rw[AAV]
  have:((λx:Str×Int=>x.1) ∘ λx=>(x,match iL kvs x with | some (.int v)=>v | _=>0))=id:=rfl
  rw[this,ACR]
  exact(hn.nodup_iff).mpr hp.nd
 ·rw[AA6];lia
 ·intro p hp'
  obtain⟨x,hx,rfl⟩:=AAJ.mp hp'
  obtain⟨d,h1,h2⟩:=val kvs [] x (hn.mem_iff.mp hx)
  obtain⟨_,v,e,v1,v2⟩:=hp.ok _ h1
  have e':d=.int v:=e
  simp only[h2,e']
  exact⟨v1,v2⟩
 ·intro p hp'
  obtain⟨x,hx,rfl⟩:=AAJ.mp hp'
  obtain⟨d,h1,h2⟩:=val kvs [] x (hn.mem_iff.mp hx)
  exact(hp.ok _ h1).1.1
 ·rw[AA6];lia
 ·intro p hp'
  obtain⟨x,hx,rfl⟩:=AAJ.mp hp'
  obtain⟨d,h1,h2⟩:=val rkvs [] x (hms.mem_iff.mp hx)
  exact(hr.ok _ h1).1.1
 ·intro p hp'
  obtain⟨x,hx,rfl⟩:=AAJ.mp hp'
  obtain⟨d,h1,h2⟩:=val kvs [] x (hn.mem_iff.mp hx)
  exact(hp.ok _ h1).1.2
 ·rw[en]
  exact dn hup (hn.nodup_iff.mpr hp.nd)
 ·intro p hp'
  obtain⟨x,hx,rfl⟩:=AAJ.mp hp'
  obtain⟨d,h1,h2⟩:=val rkvs [] x (hms.mem_iff.mp hx)
  exact(hr.ok _ h1).1.2
 ·rw[em]
  exact dn (fm hrise) (hms.nodup_iff.mpr hr.nd)
 ·intro p hp'
  rw[en]
  obtain⟨x,hx,rfl⟩:=AAJ.mp hp'
  obtain⟨d,h1,h2⟩:=val rkvs [] x (hms.mem_iff.mp hx)
  obtain⟨_,v,e,vn,vs⟩:=hr.ok _ h1
  have e':d=.tup (v.map .str):=e
  simp only[h2,e']
  have ev:(v.map D.str).map unS=v:=by rw[AAV];exact ACR v
  rw[ev]
  exact⟨vn,vs⟩
 ·simp only[AAT]
  exact AAu _ _
theorem dc:WpT aJ 9 bU:=by
 rintro ds M R ⟨c,rfl,h⟩
 simp only[bU,bM,bL,bK]
 walk_at "dl"
 have c0:=AAS c (show (4:Int)≠0 by decide)
 have c1:=AAM c (show (0:Int)<4 by decide)
 obtain⟨m,hm⟩:∃l:Nat,(l:Int)=1+c % 4:=⟨(1+c % 4).toNat,by lia⟩
 rw[<-hm]
 refine⟨by decide,⟨by decide,by decide⟩,⟨by lia,by lia⟩,?_⟩
 refine aW (λi S M'=>∃kvs r a b,PplOk kvs/\kvs.length<=i/\(1<=i->1<=kvs.length)/\M'=M++.dct kvs::[]/\S=[some (.int r),some (.ref M.length),some (.int m),a,b,none,none,none,none]) ?_ ?_ ⟨[],_,_,_,⟨List.nodup_nil,λ_ z=>nomatch z⟩,AA8 _,λz=>absurd z (by decide),rfl,rfl⟩
 ·rintro S M' ⟨kvs,r,a,b,hp,hl,hl1,rfl,rfl⟩
  rw[au]at hl hl1
  refine⟨trivial,?_⟩
  have hm4:kvs.length<=4:=by simp at hl;lia
  have hm1:1<=kvs.length:=hl1 (by simp;lia)
  simp only[bH,bG,bF,bE,bx]
  walk_at "dl"
  unfold aV
  refine⟨(kvs.map (·.1)).map .str,.inr ⟨kvs,aK,by rw[AAV];rfl⟩,dH (by rw[AA6];lia),λys hys hrise=>?_⟩
  obtain⟨ns,rfl,hns⟩:=fv hys
  simp only[AAT,ABT,AB2,AAL,AAW,AAk,Nat.add_assoc,Nat.reduceAdd]
  have d0:=AAS r (show (4:Int)≠0 by decide)
  have d1:=AAM r (show (0:Int)<4 by decide)
  obtain⟨m2,hm2⟩:∃l:Nat,(l:Int)=1+r % 4:=⟨(1+r % 4).toNat,by lia⟩
  rw[<-hm2]
  refine⟨by decide,⟨by decide,by decide⟩,⟨by lia,by lia⟩,?_⟩
  have nl:ns.length=kvs.length:=by rw[hns.length_eq,AA6]
  refine aW (λi S M'=>∃rkvs r x3 x4 x7 x8 L,RmsOk ns rkvs/\rkvs.length<=i/\(1<=i->1<=rkvs.length)/\M'=M++.dct kvs::.lst (ns.map .str)::.dct rkvs::L/\S=[some (.int r),some (.ref M.length),some (.int m2),x3,x4,some (.ref (M.length+1)),some (.ref (M.length+2)),x7,x8]) ?_ ?_ ⟨[],_,_,_,_,_,[],⟨List.nodup_nil,λ_ z=>nomatch z⟩,AA8 _,λz=>absurd z (by decide),rfl,rfl⟩
  ·rintro S M' ⟨rkvs,r,x3,x4,x7,x8,L,hr,hrl,hrl1,rfl,rfl⟩
   rw[au]at hrl hrl1
   refine⟨trivial,pD rfl h hp ⟨hm1,hm4⟩ hns (fm hrise) hr ⟨hrl1 (by simp;lia),by simp at hrl;lia⟩ rfl⟩
  ·rintro i y S M' hy ⟨rkvs,r,x3,x4,x7,x8,L,hr,hrl,hrl1,rfl,rfl⟩ G hG
   obtain⟨hi,rfl⟩:=aM.mp hy
   have him:i<m2:=by simpa using hi
   refine⟨trivial,?_⟩
   walk_at "dl"
   refine⟨r,rfl,λx r' x1 x8 xlow=>⟨rfl,?_⟩⟩
   have fin:∀(E:DEnds) (L:Mem) (S:SD) (ms:List Str) (n:Nat) (x3 x4:Option D),ms≠[]->ms.Sublist ns->E.nx=Fgt (M++[MO.dct kvs,MO.lst (ns.map .str),MO.dct []]) G->ah (M++.dct kvs::.lst (ns.map .str)::.dct rkvs::L) n (ms.map .str) ->
     S=[some (.int r'),some (.ref M.length),some (.int m2),x3,x4,some (.ref (M.length+1)),some (.ref (M.length+2)),some (.str x),some (.ref n)]->aP E S (M++.dct kvs::.lst (ns.map .str)::.dct rkvs::L):=by
    rintro E L S ms n x3 x4 msn mss hE hL rfl
    simp only[aP,bu]
    walk_at "dl"
    refine⟨_,hL,rkvs,ir,bV (by lia),⟨by decide,by decide⟩,?_⟩
    rw[hE,qS]
    refine Fgt.now (hG _ _ ⟨mI rkvs x (.tup (ms.map .str)),_,_,_,_,_,L,⟨jG hr.nd,lO hr.ok ⟨⟨⟨x1,x8⟩,xlow⟩,ms,rfl,msn,mss⟩⟩,?_,λ_=>eL.2,rfl,rfl⟩)
    have:=(eL (kvs:=rkvs) (k:=x) (d:=.tup (ms.map .str))).1
    lia
   simp only[bw]
   walk_at "dl"
   refine⟨ns.map .str,.inl dy,⟨by lia,by rw[AA6];lia⟩,?_⟩
   refine iD (λxs acc S M'=>∃i,xs=(dI 0 ns.length).drop i/\∃(ms:List Str) (L':Mem) (a:Option D),acc=ms.map .str/\ms.Sublist (ns.take i)/\ms.length+xs.length<=4/\M'=M++.dct kvs::.lst (ns.map .str)::.dct rkvs::L'/\S=[a,some (.ref (M.length+1)),some (.int r')]) ?_ ?_ _ _ _ _ ⟨0,?_,[],L,none,rfl,List.nil_sublist _,?_,rfl,rfl⟩
   ·rintro acc S M' ⟨_,_,ms,L',a,rfl,hsub0,_,rfl,rfl⟩
    have hsub:ms.Sublist ns:=hsub0.trans (ABy _ _)
    refine⟨trivial,?_⟩
    simp only[bv]
    walk_at "dl"
    have asB:∀X:Mem,(M++MO.dct kvs::MO.lst (ns.map .str)::MO.dct rkvs::L')++X=M++MO.dct kvs::MO.lst (ns.map .str)::MO.dct rkvs::(L'++X):=λX=>by simp
    have hm:ah ((M++MO.dct kvs::MO.lst (ns.map .str)::MO.dct rkvs::L')++[MO.lst (ms.map .str)]++[MO.lst []]) (M++MO.dct kvs::MO.lst (ns.map .str)::MO.dct rkvs::L').length (ms.map .str):=ak.more _
    have he:ah ((M++MO.dct kvs::MO.lst (ns.map .str)::MO.dct rkvs::L')++[MO.lst (ms.map .str)]++[MO.lst []]) ((M++MO.dct kvs::MO.lst (ns.map .str)::MO.dct rkvs::L')++[MO.lst (ms.map .str)]).length []:=ak
    refine⟨AAZ _,⟨fE (n:=29) hm (λx hx=>by obtain⟨z,_,rfl⟩:=AAJ.mp hx;exact bt),fE (n:=29) he (λ_ z=>nomatch z)⟩,?_⟩
    rw[show eqD _ eqN (.ref (M++MO.dct kvs::MO.lst (ns.map .str)::MO.dct rkvs::L').length) (.ref ((M++MO.dct kvs::MO.lst (ns.map .str)::MO.dct rkvs::L')++[MO.lst (ms.map .str)]).length)=(ms.map D.str).isEmpty from(iA (n:=29) hm he).trans pR]
    cases hms0:(ms.map D.str).isEmpty with
    | true =>
     refine gf ⟨ns.map .str,?_,?_⟩
     ·rw[AAT,asB];exact .inl dy
     ·have hks:cutD (ns.map D.str) none (some 1)=(ns.take 1).map D.str:=by
       rw[List.map_take];exact zc (k:=1)
      rw[hks]
      have kn:ns.take 1≠[]:=λz=>by
       have:=congrArg AD4 z
       rw[ABA,AAk]at this
       lia
      have kss:(ns.take 1).Sublist ns:=ABy _ _
      generalize ns.take 1=ks at kn kss
      have q:ah ((M++MO.dct kvs::MO.lst (ns.map .str)::MO.dct rkvs::L')++[MO.lst (ms.map .str)]++[MO.lst []]++[MO.lst (ks.map .str)]) ((M++MO.dct kvs::MO.lst (ns.map .str)::MO.dct rkvs::L')++[MO.lst (ms.map .str)]++[MO.lst []]).length (ks.map .str):=ak
      generalize ((M++MO.dct kvs::MO.lst (ns.map .str)::MO.dct rkvs::L')++[MO.lst (ms.map .str)]++[MO.lst []]).length=nn at q
      rw[AAT,AAT,asB]at q ⊢
      exact fin _ _ _ ks nn _ _ kn kss rfl q rfl
    | false =>
     refine gg ?_
     generalize (M++MO.dct kvs::MO.lst (ns.map .str)::MO.dct rkvs::L').length=nn at hm
     rw[AAT,asB]at hm ⊢
     exact fin _ _ _ ms nn _ _ (λz=>by rw[z]at hms0;cases hms0) hsub rfl hm rfl
   ·rintro y xs acc S M' ⟨j,hy,ms,L',a,rfl,hsub,hms,rfl,rfl⟩ K hK
    obtain⟨rfl,hj,az⟩:=me hy
    refine⟨trivial,?_⟩
    walk_at "dl"
    refine⟨ae (by lia),_,ak,?_⟩
    have asB:∀X:Mem,(M++MO.dct kvs::MO.lst (ns.map .str)::MO.dct rkvs::L')++X=M++MO.dct kvs::MO.lst (ns.map .str)::MO.dct rkvs::(L'++X):=λX=>by simp
    obtain⟨w,hw,w0,w8⟩:∃w:Int,atI [D.int 1,D.int 2,D.int 4,D.int 8] (j:Int)=some (.int w)/\0<w/\w<=8:=by
     have:j=0\/j=1\/j=2\/j=3:=by lia
     rcases this with rfl | rfl | rfl | rfl
     ·exact⟨1,aG (j:=0) rfl,by decide,by decide⟩
     ·exact⟨2,aG (j:=1) rfl,by decide,by decide⟩
     ·exact⟨4,aG (j:=2) rfl,by decide,by decide⟩
     ·exact⟨8,aG (j:=3) rfl,by decide,by decide⟩
    rw[hw]
    refine⟨⟨w0,by lia⟩,by decide,⟨rfl,rfl⟩,?_⟩
    rw[AAW]at hms
    cases eqD ((M++MO.dct kvs::MO.lst (ns.map .str)::MO.dct rkvs::L')++[MO.lst [D.int 1,D.int 2,D.int 4,D.int 8]]) eqN (.int (r' / w % 2)) (.int 1) with
    | true =>
     refine gf ⟨ns.map .str,by rw[asB];exact .inl dy,?_⟩
     rw[aG (j:=j) (v:=.str ns[j]) (by rw[AAP,AA1 hj];rfl)]
     refine⟨by rw[AA6];exact bV (by lia),hK _ _ _ ⟨j+1,az,ms++[ns[j]],_,_,by simp,lJ hj hsub,?_,asB _,rfl⟩⟩
     rw[AAL,ABH];lia
    | false=>exact gg (hK _ _ _ ⟨j+1,az,ms,_,_,rfl,lK hsub,by lia,asB _,rfl⟩)
   ·rw[ACT,AA6]
    congr 1
   ·rw[au];simp;lia
 ·rintro i y S M' hy ⟨kvs,r,a,b,hp,hl,hl1,rfl,rfl⟩ G hG
  obtain⟨hi,rfl⟩:=aM.mp hy
  have him:i<m:=by simpa using hi
  refine⟨trivial,?_⟩
  walk_at "dl"
  refine⟨r,rfl,λx r' x1 x8 xlow=>⟨rfl,?_⟩⟩
  simp only[bJ,bI]
  walk_at "dl"
  refine⟨by decide,kvs,aK,bV (by lia),⟨by decide,by decide⟩,Fgt.now (hG _ _ ⟨mI kvs x (.int (1+r' % 3)),_,_,_,⟨jG hp.nd,lO hp.ok ⟨⟨⟨x1,x8⟩,xlow⟩,_,rfl,?_,?_⟩⟩,?_,λ_=>eL.2,cU,rfl⟩)⟩
  ·have:=AAS r' (show (3:Int)≠0 by decide);lia
  ·have:=AAM r' (show (0:Int)<3 by decide);lia
  ·have:=(eL (kvs:=kvs) (k:=x) (d:=.int (1+r' % 3))).1;lia
theorem dw(T:Tops P w K mg base):Cal P w K mg base 2 "_law_house_by_digits" bg aJ :=
 Cal.byD (N:=["_law_rest","_law_people","_law_many","_law_k","_law_name","_law_names","_law_rooms","_law_room","_law_members"]) T.b T.f_house_by_digits (by walk_at "sc") cY (by have:=mM T;walk_at "dv") dc
def eQ:DSp:=λds M R=>∃c:Int,ds=[.int c]/\∀ps rs,HouseOk ps rs->R (aI ps rs) M
theorem oZ:iJ eQ kF:=by rintro ds M R ⟨c,rfl,_⟩;rfl
noncomputable def lz:D->Str×Int
 | .tup [.str x,.int v]=>(x,v)
 | _=>(ACW,0)
noncomputable def sV:D->Str×List Str
 | .tup [.str x,.tup ms]=>(x,ms.map unS)
 | _=>(ACW,[])
theorem nH(p:Str×Int):lz (aX p)=p:=rfl
theorem nG(p:Str×List Str):sV (aZ p)=p:=by
 show (p.1,(p.2.map D.str).map unS)=p
 rw[AAV]
 have:unS ∘ D.str=id:=rfl
 rw[this,ACR]
theorem oj{M:Mem}{ps:List (Str×Int)}(h:ps.length<64):SrtOk M (ps.map aX):=by
 refine⟨by rw[AA6];exact h,λx hx=>?_,λx hx y hy=>?_,.inr (.inr (.inl λx hx=>?_))⟩
 ·obtain⟨z,_,rfl⟩:=AAJ.mp hx;rfl
 ·obtain⟨z,_,rfl⟩:=AAJ.mp hx
  obtain⟨z',_,rfl⟩:=AAJ.mp hy
  show (if eqD M 29 (.str z.1) (.str z'.1)=true then(if eqD M 29 (.int z.2) (.int z'.2)=true then true else true)else true)=true
  split
  ·split<;>rfl
  ·rfl
 ·obtain⟨z,_,rfl⟩:=AAJ.mp hx;exact⟨_,_,rfl⟩
theorem oi{M:Mem}{ps:List (Str×List Str)}(h:ps.length<64):SrtOk M (ps.map aZ):=by
 refine⟨by rw[AA6];exact h,λx hx=>?_,λx hx y hy=>?_,.inr (.inr (.inl λx hx=>?_))⟩
 ·obtain⟨z,_,rfl⟩:=AAJ.mp hx
  show (true&&((z.2.map D.str).all (okP 28)&&true))=true
  rw[Bool.true_and,Bool.and_true,AAc]
  intro d hd
  obtain⟨w,_,rfl⟩:=AAJ.mp hd
  rfl
 ·obtain⟨z,_,rfl⟩:=AAJ.mp hx
  obtain⟨z',_,rfl⟩:=AAJ.mp hy
  show (if eqD M 29 (.str z.1) (.str z'.1)=true then(if eqD M 29 (.tup (z.2.map D.str)) (.tup (z'.2.map D.str))=true then true else nb (eqD M 28) (dE M 28) (z.2.map D.str) (z'.2.map D.str))else true)=true
  split
  ·split
   ·rfl
   ·exact mi _ _
  ·rfl
 ·obtain⟨z,_,rfl⟩:=AAJ.mp hx;exact⟨_,_,rfl⟩
theorem pP{M:Mem}{ps:List (Str×Int)}(nd:(ps.map (·.1)).Nodup)(h:nv M (ps.map aX)):(ps.map (·.1)).Pairwise λa b=>bf b a=false:=by
 unfold nv at h
 rw[ABj]at h ⊢
 rw[AAa,ABj]at nd
 refine(h.and nd).imp λ{a b} ⟨h1,h2⟩=>?_
 have h1':(if (b.1==a.1)=true then(if (b.2==a.2)=true then false else decide (b.2<a.2))else bf b.1 a.1)=false:=h1
 rwa [if_neg (by simpa using λz=>h2 z.symm)]at h1'
theorem qU{M:Mem}{rs:List (Str×List Str)}(nd:(rs.map (·.1)).Nodup)(h:nv M (rs.map aZ)):(rs.map (·.1)).Pairwise λa b=>bf b a=false:=by
 unfold nv at h
 rw[ABj]at h ⊢
 rw[AAa,ABj]at nd
 refine(h.and nd).imp λ{a b} ⟨h1,h2⟩=>?_
 have h1':(if (b.1==a.1)=true then kt (eqD M 29) (ltD M 29) [.tup (b.2.map .str)] [.tup (a.2.map .str)]else bf b.1 a.1)=false:=h1
 rwa [if_neg (by simpa using λz=>h2 z.symm)]at h1'
def gB:DTS:=cc (iN (aa (dCB cR (aa (dCB aV (aa (ad 3) am)) am)) (aa (dCB cR (aa (dCB aV (aa (ad 5) am)) am)) am)))
def dm:DTS:=jZ (dMl cA (ad 5) (aa (iN (aa (dOp qIx (ad 2) (dOp wy (dC (.int 5)) (ad 6))) (aa (dCB cR (aa (ad 8) am)) am))) am))
def jo:DTS:=aw (dIf (aB (dOp qEq (ad 8) (fP am))) (aN (fP (aa (dOp qIx (ad 4) (dOp ck (dOp aU (ad 7) (dC (.int 16))) (dCB iM (aa (ad 4) am)))) am)) 8) bd) (dm)
def jp:DTS:=aw (fQ 1 [4,7] (aF (aa (dCB iM (aa (ad 4) am)) am)) (ao 0) (aB (dOp qEq (dOp ck (dOp aU (ad 2) (dOp qIx (fP (aa (dC (.int 1)) (aa (dC (.int 2)) (aa (dC (.int 4)) (aa (dC (.int 8)) am))))) (ad 0))) (dC (.int 2))) (dC (.int 1)))) (dOp qIx (ad 1) (ad 0)) 8) (jo)
def jq:DTS:=aw (gk (aF (aa (dOp ar (dC (.int 1)) (dOp ck (dOp aU (dOp qIx (ad 1) (dC (.int 1))) (dC (.int 4))) (dC (.int 4)))) am)) (ao 6) (aw (aN (dOp qIx (ad 1) (dOp ar (dC (.int 6)) (ad 6))) 7) (jp))) (gB)
def jr:DTS:=aw (aN (fP am) 5) (jq)
def jt:DTS:=aw (aN (dCB aV (aa (dLC 2 [] (eE (ad 3)) (gh 2 (bp (ao 0) (bp (ao 1) gj))) pY (ad 0)) am)) 4) (jr)
def ju:DTS:=aw (fQ 1 [2,1] (aF (aa (dOp ar (dC (.int 1)) (dOp ck (dOp qIx (ad 1) (dC (.int 1))) (dC (.int 4)))) am)) (ao 0) pY (iN (aa (dOp qIx (ad 1) (ad 0)) (aa (dOp ar (dC (.int 1)) (dOp ck (dOp qIx (ad 2) (dOp ar (dC (.int 2)) (ad 0))) (dC (.int 3)))) am))) 3) (jt)
def jv:DTS:=aw (aN (dCB eO (aa (dOp qIx (ad 1) (dC (.int 0))) (aa (dC (.int 6)) am))) 2) (ju)
def jw:DTS:=aw (aN (dCB dB (aa (ad 0) (aa (dC (.int 12)) am))) 1) (jv)
def nW:DTS:=aw (dIf (aB (dOp qEq (dOp ck (ad 0) (dC (.int 2))) (dC (.int 0)))) (cc (dCB aJ (aa (dOp aU (ad 0) (dC (.int 2))) am))) bd) (jw)
theorem jL{B:Mem}{nN:Nat}{ns:List Str}{r':Int}{Q:DK}(hL:ah B nN (ns.map .str))(h4:ns.length<=4)(hQ:∀(ms:List Str) (L:Mem),ms.length<=4->ms.Sublist ns->Q (.ref (B++L).length) ((B++L)++[.lst (ms.map .str)])) :
  fR (λ_=>True) (ao 0) (aB (dOp qEq (dOp ck (dOp aU (ad 2) (dOp qIx (fP (aa (dC (.int 1)) (aa (dC (.int 2)) (aa (dC (.int 4)) (aa (dC (.int 8)) am))))) (ad 0))) (dC (.int 2))) (dC (.int 1)))) (dOp qIx (ad 1) (ad 0)) Q (dI 0 ns.length) [] [none,some (.ref nN),some (.int r')] B:=by
 refine iD (λxs acc S M'=>∃i,xs=(dI 0 ns.length).drop i/\∃(ms:List Str) (L':Mem) (a:Option D),acc=ms.map .str/\ms.Sublist (ns.take i)/\ms.length+xs.length<=4/\M'=B++L'/\S=[a,some (.ref nN),some (.int r')]) ?_ ?_ _ _ _ _ ⟨0,rfl,[],[],none,rfl,List.nil_sublist _,?_,by simp,rfl⟩
 ·rintro acc S M' ⟨_,_,ms,L',a,rfl,hsub,hl,rfl,rfl⟩
  exact⟨trivial,hQ ms L' (by simpa using hl) (hsub.trans (ABy _ _))⟩
 ·rintro y xs acc S M' ⟨j,hy,ms,L',a,rfl,hsub,hms,rfl,rfl⟩ K hK
  obtain⟨rfl,hj,az⟩:=me hy
  refine⟨trivial,?_⟩
  walk_at "dl"
  refine⟨ae (by lia),_,ak,?_⟩
  obtain⟨w,hw,w0,w8⟩:∃w:Int,atI [D.int 1,D.int 2,D.int 4,D.int 8] (j:Int)=some (.int w)/\0<w/\w<=8:=by
   have:j=0\/j=1\/j=2\/j=3:=by lia
   rcases this with rfl | rfl | rfl | rfl
   ·exact⟨1,aG (j:=0) rfl,by decide,by decide⟩
   ·exact⟨2,aG (j:=1) rfl,by decide,by decide⟩
   ·exact⟨4,aG (j:=2) rfl,by decide,by decide⟩
   ·exact⟨8,aG (j:=3) rfl,by decide,by decide⟩
  rw[hw]
  refine⟨⟨w0,by lia⟩,by decide,⟨rfl,rfl⟩,?_⟩
  rw[AAW]at hms
  cases eqD ((B++L')++[MO.lst [D.int 1,D.int 2,D.int 4,D.int 8]]) eqN (.int (r' / w % 2)) (.int 1) with
  | true =>
   refine gf ⟨ns.map .str,(hL.more _).more _,?_⟩
   rw[iI hj]
   refine⟨by rw[AA6];exact bV (by lia),hK _ _ _ ⟨j+1,az,ms++[ns[j]],L'++[MO.lst [D.int 1,D.int 2,D.int 4,D.int 8]],_,by simp,lJ hj hsub,?_,by rw[AAT],rfl⟩⟩
   rw[AAL,ABH];lia
  | false=>exact gg (hK _ _ _ ⟨j+1,az,ms,L'++[MO.lst [D.int 1,D.int 2,D.int 4,D.int 8]],_,rfl,lK hsub,by lia,by rw[AAT],rfl⟩)
 ·rw[au];simp;lia
theorem qK:WpT eQ 9 nW:=by
 rintro ds M R ⟨c,rfl,h⟩
 simp only[nW,jw]
 walk_at "dl"
 refine⟨by decide,⟨rfl,rfl⟩,?_⟩
 cases eqD M eqN (.int (c % 2)) (.int 0) with
 | true=>exact gf ⟨⟨by decide,by decide⟩,c / 2,rfl,λps rs ok=>ba.now (h ps rs ok)⟩
 | false =>
  refine gg ⟨c,12,rfl,by decide,λxs hx=>?_⟩
  have ax:∀(j:Nat) (i:Int) (hj:j<12),i=(j:Int)->atI (xs.map D.int) i=some (.int (xs[j]'(by lia))):=λj i hj e=>by
   subst e
   exact iI (by lia)
  simp only[jv]
  walk_at "dl"
  refine⟨_,ak,?_⟩
  rw[ax 0 0 (by decide) rfl]
  refine⟨_,rfl,λws hws=>?_⟩
  obtain⟨w6,wnd,wl,wlow⟩:=hws
  have hX:∀L:Mem,ah (M++[MO.lst (xs.map D.int)]++[MO.lst (ws.map D.str)]++L) M.length (xs.map D.int):=λL=>(ak.more _).more _
  have hW:∀L:Mem,ah (M++[MO.lst (xs.map D.int)]++[MO.lst (ws.map D.str)]++L) (M++[MO.lst (xs.map D.int)]).length (ws.map D.str):=λL=>ak.more _
  have hX0:=hX []
  have hW0:=hW []
  rw[AAw]at hX0 hW0
  generalize (M++[MO.lst (xs.map D.int)]).length=nw at hW hW0
  have hpre:M <+: M++[MO.lst (xs.map D.int)]++[MO.lst (ws.map D.str)]:=by rw[AAT];exact AAu _ _
  generalize M++[MO.lst (xs.map D.int)]++[MO.lst (ws.map D.str)]=B at hX hW hX0 hW0 hpre
  simp only[ju]
  walk_at "dl"
  refine⟨_,hX0,?_⟩
  obtain⟨x1,e1⟩:∃v:Int,atI (xs.map D.int) 1=some (.int v):=⟨_,ax 1 1 (by decide) rfl⟩
  rw[e1]
  have n0:=AAS x1 (show (4:Int)≠0 by decide)
  have n1:=AAM x1 (show (0:Int)<4 by decide)
  obtain⟨np,hnp⟩:∃l:Nat,(l:Int)=1+x1 % 4:=⟨(1+x1 % 4).toNat,by lia⟩
  dsimp only
  rw[<-hnp]
  refine⟨by decide,⟨by lia,by lia⟩,?_⟩
  obtain⟨ppl,hppl⟩:∃l:List (Str×Int),l=(AAb np).map λk=>(ws.getD k ACW,1+xs.getD (2+k) 0 % 3):=⟨_,rfl⟩
  have pl:ppl.length=np:=by rw[hppl];simp
  have pn:ppl.map (·.1)=ws.take np:=by
   rw[hppl,AAV]
   refine List.ext_getElem (by simp;lia) λi h1 h2=>?_
   simp only[AA6,List.length_range]at h1
   simp[AAE,AA1 (show i<ws.length by lia)]
  have pnd:(ppl.map (·.1)).Nodup:=by rw[pn];exact wnd.sublist (ABy _ _)
  have plow:∀p∈ppl,Low p.1:=λp hp=>wlow _ (List.mem_of_mem_take (by rw[<-pn];exact List.mem_map_of_mem hp))
  have pok:∀p∈ppl,(1<=p.1.length/\p.1.length<=8)/\1<=p.2/\p.2<=3:=λp hp=>by
   have hm:p.1∈ws:=List.mem_of_mem_take (by rw[<-pn];exact List.mem_map_of_mem hp)
   refine⟨wl _ hm,?_⟩
   rw[hppl]at hp
   obtain⟨k,_,rfl⟩:=AAJ.mp hp
   have:=AAS (xs.getD (2+k) 0) (show (3:Int)≠0 by decide)
   have:=AAM (xs.getD (2+k) 0) (show (0:Int)<3 by decide)
   dsimp only
   lia
  refine bY (λd=>match d with | .int k=>aX (ws.getD k.toNat ACW,1+xs.getD (2+k.toNat) 0 % 3) | _=>.non) (λS=>∃a,S=[a,some (.ref nw),some (.ref M.length)]) trivial _ _ _ (λd hd S hS=>?_) ⟨_,rfl⟩ ?_ ?_
  ·obtain⟨a,rfl⟩:=hS
   obtain⟨k,hk⟩:=ACe hd
   obtain⟨k1,rfl⟩:=aM.mp hk
   have k2:k<np:=by simpa using k1
   refine⟨[some (.int (0+(k:Int))),some (.ref nw),some (.ref M.length)],⟨_,rfl⟩,λY hY=>?_⟩
   walk_at "dl"
   refine⟨_,hW0,?_⟩
   rw[show (0:Int)+(k:Int)=(k:Int) by lia,iI (show k<ws.length by lia)]
   refine⟨_,hX0,?_⟩
   rw[ax (2+k) (2+(k:Int)) (by lia) (by lia)]
   refine⟨by decide,ae (by lia),?_⟩
   rw[show (0:Int)+(k:Int)=(k:Int) by lia]at hY
   simp only[AAz,aX,AAE,AA1 (show k<ws.length by lia),AA1 (show 2+k<xs.length by lia),ACd]at hY
   exact hY
  ·simp only[AAk,au]
   exact ae (by lia)
  have em:(dI 0 ((np:Int)).toNat).map (λd=>match d with | .int k=>aX (ws.getD k.toNat ACW,1+xs.getD (2+k.toNat) 0 % 3) | _=>.non)=ppl.map aX:=by
   rw[hppl]
   unfold dI
   rw[AAV,AAV,AAz]
   refine ABn λk _=>?_
   simp[Function.comp]
  rw[AB2,em]
  simp only[jt]
  walk_at "dl"
  refine⟨_,ak,λ_=>?_⟩
  refine bY (λd=>.str (lz d).1) (λS=>∃a b,S=[a,b]) ak _ _ _ (λd hd S hS=>?_) ⟨_,_,rfl⟩ ?_ ?_
  ·obtain⟨a,b,rfl⟩:=hS
   obtain⟨q,hq,rfl⟩:=AAJ.mp hd
   refine⟨[some (.str q.1),some (.int q.2)],⟨_,_,rfl⟩,λY hY=>?_⟩
   unfold aX
   walk_at "dl"
   exact⟨trivial,hY⟩
  ·simp only[AAk,AA6]
   exact ae (by lia)
  have en:(ppl.map aX).map (λd=>D.str (lz d).1)=(ppl.map (·.1)).map .str:=by rw[AAV,AAV];rfl
  rw[AB2,en]
  unfold aV
  refine⟨_,.inl ak,dH (by rw[AA6];lia),λys hys hrise=>?_⟩
  obtain⟨ns,rfl,hns⟩:=fv hys
  have nsu:=fm hrise
  clear hrise
  have nl:ns.length=np:=by rw[hns.length_eq,AA6,pl]
  have gP:∀L:Mem,ah (B++[MO.lst (ppl.map aX)]++[MO.lst ((ppl.map (·.1)).map D.str)]++[MO.lst (ns.map D.str)]++L) B.length (ppl.map aX):=λL=>((ak.more _).more _).more _
  have gN:∀L:Mem,ah (B++[MO.lst (ppl.map aX)]++[MO.lst ((ppl.map (·.1)).map D.str)]++[MO.lst (ns.map D.str)]++L) (B++[MO.lst (ppl.map aX)]++[MO.lst ((ppl.map (·.1)).map D.str)]).length (ns.map D.str):=λL=>ak.more _
  have gX:∀L:Mem,ah (B++[MO.lst (ppl.map aX)]++[MO.lst ((ppl.map (·.1)).map D.str)]++[MO.lst (ns.map D.str)]++L) M.length (xs.map D.int):=λL=>(((hX0.more _).more _).more _).more _
  have gW:∀L:Mem,ah (B++[MO.lst (ppl.map aX)]++[MO.lst ((ppl.map (·.1)).map D.str)]++[MO.lst (ns.map D.str)]++L) nw (ws.map D.str):=λL=>(((hW0.more _).more _).more _).more _
  have gpre:M <+: B++[MO.lst (ppl.map aX)]++[MO.lst ((ppl.map (·.1)).map D.str)]++[MO.lst (ns.map D.str)]:=by
   rw[AAT,AAT]
   exact hpre.trans (AAu _ _)
  generalize (B++[MO.lst (ppl.map aX)]++[MO.lst ((ppl.map (·.1)).map D.str)]).length=nN at gN
  generalize B++[MO.lst (ppl.map aX)]++[MO.lst ((ppl.map (·.1)).map D.str)]++[MO.lst (ns.map D.str)]=F at gP gN gX gW gpre
  generalize B.length=nP at gP
  simp only[jr,jq]
  walk_at "dl"
  have gX1:=gX [MO.lst []]
  refine⟨AAZ _,_,gX1,?_⟩
  rw[e1]
  have m0:=AAS (x1 / 4) (show (4:Int)≠0 by decide)
  have m1:=AAM (x1 / 4) (show (0:Int)<4 by decide)
  obtain⟨nr,hnr⟩:∃l:Nat,(l:Int)=1+x1 / 4 % 4:=⟨(1+x1 / 4 % 4).toNat,by lia⟩
  dsimp only
  rw[<-hnr]
  refine⟨⟨by decide,by decide⟩,by decide,⟨by lia,by lia⟩,?_⟩
  refine aW (λi S M'=>∃(rms:List (Str×List Str)) (L:Mem) (a b d:Option D),rms.length=i/\(∀r∈rms,1<=r.1.length/\r.1.length<=8)/\((∀r∈rms,Low r.1/\r.2≠[]/\r.2.Sublist ns)/\rms.map (·.1)=(AAb i).map λj=>ws.getD (5-j) ACW)/\M'=F++.lst (rms.map aZ)::L/\S=[some (.int c),some (.ref M.length),some (.ref nw),some (.ref nP),some (.ref nN),some (.ref F.length),a,b,d]) ?_ ?_ ⟨[],[],_,_,_,rfl,(λ_ z=>nomatch z),⟨(λ_ z=>nomatch z),rfl⟩,rfl,rfl⟩
  ·rintro S M' ⟨rms,L,a,b,d,hl,hrm,⟨hrm2,hrm3⟩,rfl,rfl⟩
   rw[au,AAz]at hl
   refine⟨trivial,?_⟩
   simp only[gB]
   walk_at "dl"
   unfold aV
   refine⟨_,.inl (gP _),oj (by lia),λys hys hr1=>?_⟩
   obtain⟨ps,rfl,hps⟩:=lP aX lz nH hys
   try walk_at "dl"
   refine⟨_,ak,_,.inl (ah.more (.inl aK) _),oi (by lia),λzs hzs hr2=>?_⟩
   obtain⟨rs,rfl,hrs⟩:=lP aZ sV nG hzs
   try walk_at "dl"
   have pnd2:(ps.map (·.1)).Nodup:=((hps.map _).nodup_iff).mpr pnd
   have pup:(ps.map (·.1)).Pairwise λa b=>bf b a=false:=pP pnd2 hr1
   have rnd:(rms.map (·.1)).Nodup:=by
    rw[au,AAz]at hrm3
    rw[hrm3]
    rw[AAa,ABj]
    have:=List.nodup_range (n:=nr)
    rw[AAa]at this
    refine this.imp_of_mem λ{a b} ha hb hne e=>hne ?_
    have ha:=AB6.mp ha
    have hb:=AB6.mp hb
    rw[AAE,AAE,AA1 (show 5-a<ws.length by lia),AA1 (show 5-b<ws.length by lia)]at e
    have e2:ws[5-a]'(by lia)=ws[5-b]'(by lia):=e
    have pw:=List.pairwise_iff_getElem.mp (AAa.mp wnd)
    rcases Nat.lt_trichotomy (5-a) (5-b)with q | q | q
    ·exact absurd e2 (pw _ _ (by lia) (by lia) q)
    ·lia
    ·exact absurd e2.symm (pw _ _ (by lia) (by lia) q)
   have rnd2:(rs.map (·.1)).Nodup:=((hrs.map _).nodup_iff).mpr rnd
   have rup:(rs.map (·.1)).Pairwise λa b=>bf b a=false:=qU rnd2 hr2
   have ens:ps.map (·.1)=ns:=jD pnd2 (hns.nodup_iff.mpr pnd) (λx=>by rw[hns.mem_iff];exact(hps.map _).mem_iff) pup nsu
   refine⟨_,ak,ae (by lia),ba.keep (h ps rs ⟨?_,?_,λp hp=>(pok p (hps.mem_iff.mp hp)).2,λp hp=>(pok p (hps.mem_iff.mp hp)).1,?_,λr hr=>hrm r (hrs.mem_iff.mp hr),λp hp=>plow p (hps.mem_iff.mp hp),dn pup pnd2,λr hr=>(hrm2 r (hrs.mem_iff.mp hr)).1,dn rup rnd2,λr hr=>by rw[ens];exact(hrm2 r (hrs.mem_iff.mp hr)).2⟩) fL ?_⟩
   ·exact((hps.map _).nodup_iff).mpr pnd
   ·rw[hps.length_eq];lia
   ·rw[hrs.length_eq];lia
   ·simp only[AAT]
    exact gpre.trans (AAu _ _)
  ·rintro i y S M' hy ⟨rms,L,a,b,d,hl,hrm,⟨hrm2,hrm3⟩,rfl,rfl⟩ G hG
   obtain⟨hi,rfl⟩:=aM.mp hy
   have him:i<nr:=by simpa using hi
   refine⟨trivial,?_⟩
   walk_at "dl"
   refine⟨_,gX _,?_⟩
   obtain⟨bits,eb⟩:∃v:Int,atI (xs.map D.int) (6+(0+(i:Int)))=some (.int v):=⟨_,ax (6+i) _ (by lia) (by lia)⟩
   rw[eb]
   simp only[jp]
   walk_at "dl"
   refine⟨_,gN _,⟨by lia,by rw[AA6];lia⟩,?_⟩
   rw[AA6,AAz]
   refine jL (gN _) (by lia) λms L2 hms hsub=>?_
   have fin:∀(E:DEnds) (L:Mem) (ms:List Str) (n:Nat),ms≠[]->ms.Sublist ns->E.nx=Fgt (F++[MO.lst []]) G->ah (F++.lst (rms.map aZ)::L) n (ms.map .str)->dm E [some (.int c),some (.ref M.length),some (.ref nw),some (.ref nP),some (.ref nN),some (.ref F.length),some (.int (0+(i:Int))),some (.int bits),some (.ref n)] (F++.lst (rms.map aZ)::L):=by
    intro E L ms n msn mss hE hL
    simp only[dm]
    walk_at "dl"
    refine⟨⟨_,.inl aK⟩,_,gW _,?_⟩
    have h5:5-i<ws.length:=by lia
    rw[show (5:Int)-(0+(i:Int))=((5-i:Nat):Int) by lia,iI h5]
    refine⟨_,hL,ae (by lia),rms.map aZ,aK,by rw[AA6];exact bV (by lia),?_⟩
    rw[hE,cU]
    refine Fgt.now (hG _ _ ⟨rms++[(ws[5-i],ms)],L,_,_,_,by simp[hl],λr hr=>?_,⟨λr hr=>?_,?_⟩,by simp[aZ],rfl⟩)
    rcases ABQ.mp hr with hr | hr
    ·exact hrm r hr
    ·rw[ABY.mp hr]
     exact wl _ (AB4 h5)
    ·rcases ABQ.mp hr with hr | hr
     ·exact hrm2 r hr
     ·rw[ABY.mp hr]
      exact⟨wlow _ (AB4 h5),msn,mss⟩
    ·rw[ABx,hrm3,List.range_succ,ABx]
     simp[AAE,AA1 h5]
   have asF:∀X:Mem,(F++MO.lst (rms.map aZ)::L)++X=F++MO.lst (rms.map aZ)::(L++X):=λX=>by simp
   simp only[jo]
   walk_at "dl"
   have hm:ah ((F++MO.lst (rms.map aZ)::L)++L2++[MO.lst (ms.map .str)]++[MO.lst []]) ((F++MO.lst (rms.map aZ)::L)++L2).length (ms.map .str):=ak.more _
   have he:ah ((F++MO.lst (rms.map aZ)::L)++L2++[MO.lst (ms.map .str)]++[MO.lst []]) ((F++MO.lst (rms.map aZ)::L)++L2++[MO.lst (ms.map .str)]).length []:=ak
   refine⟨AAZ _,⟨fE (n:=29) hm (λx hx=>by obtain⟨z,_,rfl⟩:=AAJ.mp hx;exact bt),fE (n:=29) he (λ_ z=>nomatch z)⟩,?_⟩
   rw[show eqD _ eqN (.ref ((F++MO.lst (rms.map aZ)::L)++L2).length) (.ref ((F++MO.lst (rms.map aZ)::L)++L2++[MO.lst (ms.map .str)]).length)=(ms.map D.str).isEmpty from(iA (n:=29) hm he).trans pR]
   cases hms0:(ms.map D.str).isEmpty with
   | true =>
    refine gf ?_
    have q1:ah ((F++MO.lst (rms.map aZ)::L)++L2++[MO.lst (ms.map .str)]++[MO.lst []]) nN (ns.map D.str):=by
     rw[AAT,AAT,asF];exact gN _
    refine⟨⟨by decide,by decide⟩,_,q1,by rw[AA6];lia,_,q1,?_⟩
    rw[AA6]
    obtain⟨j,hj,ej,_⟩:=iH (xs:=ns.map D.str) (r:=bits / 16) (by rw[AA6];lia)
    rw[AA6]at ej
    rw[ej,ACc]
    refine⟨ae (by lia),?_⟩
    rw[AA6]at hj
    have q:ah ((F++MO.lst (rms.map aZ)::L)++L2++[MO.lst (ms.map .str)]++[MO.lst []]++[MO.lst ([ns[j]].map .str)]) ((F++MO.lst (rms.map aZ)::L)++L2++[MO.lst (ms.map .str)]++[MO.lst []]).length ([ns[j]].map .str):=ak
    generalize ((F++MO.lst (rms.map aZ)::L)++L2++[MO.lst (ms.map .str)]++[MO.lst []]).length=nn at q
    have asF3:∀X1 X2 X3:Mem,(F++MO.lst (rms.map aZ)::L)++L2++X1++X2++X3=F++MO.lst (rms.map aZ)::(L++(L2++(X1++(X2++X3)))):=λX1 X2 X3=>by simp
    rw[asF3]at q
    show dm _ _ ((F++MO.lst (rms.map aZ)::L)++L2++[MO.lst (ms.map .str)]++[MO.lst []]++[MO.lst ([ns[j]].map .str)])
    rw[asF3]
    exact fin _ _ [ns[j]] nn (by simp) (List.singleton_sublist.mpr (AB4 hj)) rfl q
   | false =>
    refine gg ?_
    generalize ((F++MO.lst (rms.map aZ)::L)++L2).length=nn at hm
    have asF2:∀X1 X2:Mem,(F++MO.lst (rms.map aZ)::L)++L2++X1++X2=F++MO.lst (rms.map aZ)::(L++(L2++(X1++X2))):=λX1 X2=>by simp
    rw[asF2]at hm ⊢
    exact fin _ _ ms nn (λz=>by rw[z]at hms0;cases hms0) hsub rfl hm
theorem rE(T:Tops P w K mg base):Cal P w K mg base 3 "_law_house" kF eQ :=
 Cal.byD (N:=["_law_cell","_law_numbers","_law_words_here","_law_people","_law_names","_law_rooms","_law_k","_law_bits","_law_members"]) T.b T.f_house (by walk_at "sc") oZ (by have:=oK T;have:=rB T;have:=dw T;walk_at "dv") qK
noncomputable def okS:Nat->D->Bool
 | 0,_=>false
 | _+1,.non=>true
 | _+1,.int _=>true
 | _+1,.str _=>true
 | n+1,.tup xs=>xs.all (okS n)
 | _,_=>false
def zm(M:Mem)(n:Nat)(a b:D):Prop:=(a=b/\okS n a=true)\/∃(i j m:Nat) (xs:List D),n=m+1/\a=.ref i/\b=.ref j/\ah M i xs/\ah M j xs/\xs.all (okS m)=true
def cE:Nat->DSp:=λn ds M R=>∃a b,ds=[a,b]/\zm M n a b/\R (.bl true) M
theorem rP:∀n ds M R,cE n ds M R->ds.length=["_law_found","_law_due"].length:=by rintro n ds M R ⟨a,b,rfl,_⟩;rfl
theorem rH:∀ds M R,¬cE 0 ds M R:=by
 rintro ds M R ⟨a,b,rfl,h,_⟩
 rcases h with⟨rfl,h⟩|⟨i,j,m,xs,h,_⟩
 ·cases a<;>cases h
 ·cases h
def lG(n:Nat):DTS:=cc (dC (.bl true))
def gY(n:Nat):DTS:=aw (gk (dZip (aa (ad 0) (aa (ad 1) am))) (gh 2 (bp (ao 2) (bp (ao 3) gj))) (dIf (mY (aB (dCB (cE n) (aa (ad 2) (aa (ad 3) am))))) (cc (dC (.bl false))) bd)) (lG n)
def gZ(n:Nat):DTS:=aw (dIf (aB (dOp qNe (dCB iM (aa (ad 0) am)) (dCB iM (aa (ad 1) am)))) (cc (dC (.bl false))) bd) (gY n)
def hI(n:Nat):DTS:=aw (dIf (wC (aB (dCB kr (aa (ad 1) (aa (dC (.ty "tuple")) am)))) (mY (aB (dCB kr (aa (ad 0) (aa (dC (.ty "tuple")) am)))))) (cc (dC (.bl false))) bd) (gZ n)
def hR(n:Nat):DTS:=aw (dIf (wC (aB (dCB kr (aa (ad 1) (aa (dC (.ty "list")) am)))) (mY (aB (dCB kr (aa (ad 0) (aa (dC (.ty "list")) am)))))) (cc (dC (.bl false))) bd) (hI n)
def eJ(n:Nat):DTS:=aw (dIf (aB (dCB kr (aa (ad 1) (aa (dC (.ty "int")) am)))) (cc (ka (dCB kr (aa (ad 0) (aa (dC (.ty "int")) am))) (ka (pZ (dCB kr (aa (ad 0) (aa (dC (.ty "bool")) am)))) (dOp qEq (ad 0) (ad 1))))) bd) (hR n)
def dh(n:Nat):DTS:=aw (dIf (aB (dCB kr (aa (ad 1) (aa (dC (.ty "str")) am)))) (cc (ka (dCB kr (aa (ad 0) (aa (dC (.ty "str")) am))) (dOp qEq (ad 0) (ad 1)))) bd) (eJ n)
def dj(n:Nat):DTS:=aw (dIf (aB (dCB kr (aa (ad 1) (aa (dC (.ty "bool")) am)))) (cc (ka (dCB kr (aa (ad 0) (aa (dC (.ty "bool")) am))) (dOp qEq (ad 0) (ad 1)))) bd) (dh n)
def eX(n:Nat):DTS:=aw (dIf (aB (dOp qIs (ad 1) (dC .non))) (cc (dOp qIs (ad 0) (dC .non))) bd) (dj n)
theorem tW:∀n ds M R,cE (n+1) ds M R->eX n (EE M R) (bo ["_law_found","_law_due","_law_one","_law_other"] ds) M:=by
 rintro n ds M R ⟨a,b,rfl,hs,h⟩
 have loop:∀(a b:D) (xs:List D) (o1 o2:Mem->Prop),lh M a xs o1->lh M b xs o2->o1 M->o2 M->xs.all (okS n)=true->gY n (EE M R) [some a,some b,none,none] M:=by
  intro a b xs o1 o2 h1 h2 k1 k2 ok
  simp only[gY]
  walk_at "dl"
  refine⟨xs,xs,o1,o2,h1,h2,?_⟩
  refine aW (λi S M'=>M'=M/\∃c d,S=[some a,some b,c,d]) ?_ ?_ ⟨rfl,_,_,rfl⟩
  ·rintro S M' ⟨rfl,c,d,rfl⟩
   refine⟨⟨k1,k2⟩,?_⟩
   simp only[lG]
   walk_at "dl"
   exact ba.now h
  ·rintro i y S M' hy ⟨rfl,c,d,rfl⟩ G hG
   refine⟨⟨k1,k2⟩,?_⟩
   obtain⟨x,hx,rfl⟩:∃x,x∈xs/\y=.tup [x,x]:=by
    unfold L2.zipD at hy
    rw[AAP]at hy
    cases e:(xs.zip xs)[i]? with
    | none=>rw[e]at hy;cases hy
    | some p =>
     rw[e]at hy
     obtain⟨e1,e2⟩:=List.getElem?_zip_eq_some.mp e
     have:p.1=p.2:=AAN (e1.symm.trans e2)
     refine⟨p.1,ABd e1,?_⟩
     rw[<-AAN hy]
     show D.tup [p.1,p.2]=_
     rw[<-‹p.1=p.2›]
   walk_at "dl"
   refine⟨trivial,x,x,rfl,.inl ⟨rfl,AAc.mp ok x hx⟩,?_⟩
   simp only[Bool.not_true,AAU,↓reduceIte]
   exact Fgt.now (hG _ _ ⟨rfl,_,_,rfl⟩)
 rcases hs with⟨rfl,ok⟩|⟨i,j,m,xs,e,rfl,rfl,hi,hj,ok⟩
 ·cases a with
  | non =>
   simp only[eX]
   walk_at "dl"
   exact ba.now h
  | int k =>
   simp only[eX,dj,dh,eJ]
   walk_at "dl"
   simp(config:={ decide:=true }) only [and_self,true_and,↓reduceIte,eqD,okD,beq_self_eq_true]
   exact⟨rfl,ba.now h⟩
  | str k =>
   simp only[eX,dj,dh]
   walk_at "dl"
   simp(config:={ decide:=true }) only [and_self,true_and,↓reduceIte,eqD,okD,beq_self_eq_true]
   exact⟨rfl,ba.now h⟩
  | tup xs =>
   simp only[eX,dj,dh,eJ,hR,hI,gZ]
   walk_at "dl"
   simp(config:={ decide:=true }) only [and_self,true_and,↓reduceIte,okD,beq_self_eq_true,show ∀k:Int,eqD M eqN (.int k) (.int k)=true from λk=>by simp[eqD],Bool.not_true,AAU]
   exact⟨rfl,loop _ _ xs _ _ ⟨rfl,rfl⟩ ⟨rfl,rfl⟩ trivial trivial ok⟩
  | _=>cases ok
 ·simp only[eX,dj,dh,eJ,hR,hI,gZ]
  have e1:=hi.ty
  have e2:=hj.ty
  simp only[tyD]at e1 e2
  walk_at "dl"
  simp(config:={ decide:=true }) only [e1,e2,and_self,true_and,↓reduceIte]
  refine⟨xs,hi,xs,hj,⟨rfl,rfl⟩,?_⟩
  have:m=n:=by lia
  subst this
  rw[show eqD M eqN (.int (xs.length:Int)) (.int (xs.length:Int))=true by simp[eqD]]
  simp only[Bool.not_true,AAU,↓reduceIte]
  exact loop _ _ xs _ _ ⟨hi,rfl⟩ ⟨hj,rfl⟩ hi hj ok
theorem sH(T:Tops P w K mg base)(n:Nat)(C:Cal P w K mg base (0+n) "_law_same" oJ (cE n)):TopB mg B_ C_->List.Nodup (["_law_found","_law_due_here","_law_one","_law_other"]:List Str)->DerT P w K mg base (0+n) "_law_same" ["_law_found","_law_due_here","_law_one","_law_other"] (top 32) (eX n):=by walk_at "dv"
theorem kG(T:Tops P w K mg base):∀n,Cal P w K mg base (0+n) "_law_same" oJ (cE n)
 | 0=>Cal.never T.f_same rH
 | n+1=>Cal.byD (N:=["_law_found","_law_due_here","_law_one","_law_other"]) T.b T.f_same (by walk_at "sc") (rP (n+1)) (sH T n (kG T n)) (tW n)
noncomputable def kindN:List Str:=["NoHouse","NoRoom","NoMessage","NotYours","NoSaying","NoName","NoWhat","NoDeed","Strange","NoRow","Clash","Gap"]
noncomputable def rW(bs:List Bool):List Int:=((AAb 12).filter λk=>bs.getD k false).map λk:Nat=>(k:Int)
noncomputable def vq(bs:List Bool):D->Bool
 | .int k=>bs.getD k.toNat false
 | _=>false
def eP:DSp:=λds M R=>∃(q:Nat) (x:Str) (a:Addr) (bs:List Bool),ds=[.ref q]/\M[q]?=some (.exc x a)/\kindN.map (qB T_ x)=bs.map some/\R (.ref M.length) (M++[.lst ((rW bs).map .int)])
theorem oY:iJ eP kE:=by rintro ds M R ⟨q,x,a,bs,rfl,_⟩;rfl
theorem bi{B:Mem}{q:Nat}{x a:MO}(h:B[q]?=some x):(B++[a])[q]?=some x:=by
 rw[AAC (AA4.mp h).1];exact h
theorem apart:∀{bs:List Bool},(y::ys).map f=bs.map some->∃b cs,bs=b::cs/\f y=some b/\ys.map f=cs.map some
 | [],h=>nomatch h
 | b::cs,h=>by
  rw[AAQ,AAQ]at h
  injection h with h1 h2
  exact⟨b,cs,rfl,h1,h2⟩
def jl:DTS:=cc (dLCH 1 [1] (aa (dC (.int 12)) am) (ao 0) (aB (dOp qIx (ad 1) (ad 0))) (ad 0))
def jm:DTS:=aw (aN (dOp ar (ad 1) (fP (aa (mh T_ "Strange" (ad 0)) (aa (mh T_ "NoRow" (ad 0)) (aa (mh T_ "Clash" (ad 0)) (aa (mh T_ "Gap" (ad 0)) am)))))) 1) (jl)
def jn:DTS:=aw (aN (dOp ar (ad 1) (fP (aa (mh T_ "NoSaying" (ad 0)) (aa (mh T_ "NoName" (ad 0)) (aa (mh T_ "NoWhat" (ad 0)) (aa (mh T_ "NoDeed" (ad 0)) am)))))) 1) (jm)
def nV:DTS:=aw (aN (fP (aa (mh T_ "NoHouse" (ad 0)) (aa (mh T_ "NoRoom" (ad 0)) (aa (mh T_ "NoMessage" (ad 0)) (aa (mh T_ "NotYours" (ad 0)) am))))) 1) (jn)
theorem qJ:WpT eP 2 nV:=by
 rintro ds M R ⟨q,x,a,bs,rfl,g,hb,h⟩
 obtain⟨b0,bs,rfl,e0,hb⟩:=apart hb
 obtain⟨b1,bs,rfl,e1,hb⟩:=apart hb
 obtain⟨b2,bs,rfl,e2,hb⟩:=apart hb
 obtain⟨b3,bs,rfl,e3,hb⟩:=apart hb
 obtain⟨b4,bs,rfl,e4,hb⟩:=apart hb
 obtain⟨b5,bs,rfl,e5,hb⟩:=apart hb
 obtain⟨b6,bs,rfl,e6,hb⟩:=apart hb
 obtain⟨b7,bs,rfl,e7,hb⟩:=apart hb
 obtain⟨b8,bs,rfl,e8,hb⟩:=apart hb
 obtain⟨b9,bs,rfl,e9,hb⟩:=apart hb
 obtain⟨b10,bs,rfl,e10,hb⟩:=apart hb
 obtain⟨b11,bs,rfl,e11,hb⟩:=apart hb
 simp only[nV]
 walk_at "dl"
 simp only[g,e0,e1,e2,e3]
 refine⟨ae (by decide),?_⟩
 have g2:=bi (a:=MO.lst [.bl b0,.bl b1,.bl b2,.bl b3]) g
 have l2:(M++[MO.lst [.bl b0,.bl b1,.bl b2,.bl b3]])[M.length]?=some (.lst [.bl b0,.bl b1,.bl b2,.bl b3]):=av
 have p2:M <+: M++[MO.lst [.bl b0,.bl b1,.bl b2,.bl b3]]:=kB
 generalize M++[MO.lst [.bl b0,.bl b1,.bl b2,.bl b3]]=B2 at g2 l2 p2
 generalize M.length=q2 at l2
 simp only[jn]
 walk_at "dl"
 simp only[g2,e4,e5,e6,e7]
 refine⟨ae (by decide),_,_,bi l2,av,ae (by simp),?_⟩
 simp only[ABT,AB2]
 have g3:=bi (a:=MO.lst [.bl b0,.bl b1,.bl b2,.bl b3,.bl b4,.bl b5,.bl b6,.bl b7]) (bi (a:=MO.lst [.bl b4,.bl b5,.bl b6,.bl b7]) g2)
 have l3:=av (M:=B2++[MO.lst [.bl b4,.bl b5,.bl b6,.bl b7]]) (mo:=MO.lst [.bl b0,.bl b1,.bl b2,.bl b3,.bl b4,.bl b5,.bl b6,.bl b7])
 have p3:=(p2.trans (kB (mo:=MO.lst [.bl b4,.bl b5,.bl b6,.bl b7]))).trans (kB (mo:=MO.lst [.bl b0,.bl b1,.bl b2,.bl b3,.bl b4,.bl b5,.bl b6,.bl b7]))
 generalize B2++[MO.lst [.bl b4,.bl b5,.bl b6,.bl b7]]++[MO.lst [.bl b0,.bl b1,.bl b2,.bl b3,.bl b4,.bl b5,.bl b6,.bl b7]]=B3 at g3 l3 p3
 generalize (B2++[MO.lst [.bl b4,.bl b5,.bl b6,.bl b7]]).length=q3 at l3
 simp only[jm]
 walk_at "dl"
 simp only[g3,e8,e9,e10,e11]
 refine⟨ae (by decide),_,_,bi l3,av,ae (by simp),?_⟩
 simp only[ABT,AB2]
 have l4:=av (M:=B3++[MO.lst [.bl b8,.bl b9,.bl b10,.bl b11]]) (mo:=MO.lst [.bl b0,.bl b1,.bl b2,.bl b3,.bl b4,.bl b5,.bl b6,.bl b7,.bl b8,.bl b9,.bl b10,.bl b11])
 have p4:=(p3.trans (kB (mo:=MO.lst [.bl b8,.bl b9,.bl b10,.bl b11]))).trans (kB (mo:=MO.lst [.bl b0,.bl b1,.bl b2,.bl b3,.bl b4,.bl b5,.bl b6,.bl b7,.bl b8,.bl b9,.bl b10,.bl b11]))
 generalize B3++[MO.lst [.bl b8,.bl b9,.bl b10,.bl b11]]++[MO.lst [.bl b0,.bl b1,.bl b2,.bl b3,.bl b4,.bl b5,.bl b6,.bl b7,.bl b8,.bl b9,.bl b10,.bl b11]]=B4 at l4 p4
 generalize (B3++[MO.lst [.bl b8,.bl b9,.bl b10,.bl b11]]).length=q4 at l4
 simp only[jl]
 walk_at "dl"
 refine⟨⟨by decide,by decide⟩,?_⟩
 obtain rfl:bs=[]:=by cases bs with | nil=>rfl | cons _ _=>cases hb
 generalize hbs:[b0,b1,b2,b3,b4,b5,b6,b7,b8,b9,b10,b11]=bs at h
 have eb:[D.bl b0,.bl b1,.bl b2,.bl b3,.bl b4,.bl b5,.bl b6,.bl b7,.bl b8,.bl b9,.bl b10,.bl b11]=bs.map .bl:=by rw[<-hbs];rfl
 have lb:bs.length=12:=by rw[<-hbs];rfl
 rw[eb]at l4
 refine cI (vq bs) (λd=>d) (λS=>∃c,S=[c,some (.ref q4)]) trivial _ _ _ ?_ ⟨_,rfl⟩ (by rw[AAk,au];exact ae (by decide)) ?_
 ·rintro d hd S ⟨c,rfl⟩
  obtain⟨i,hi⟩:=ACe hd
  obtain⟨h12,rfl⟩:=aM.mp hi
  have h12:i<12:=h12
  refine⟨[some (.int (0+(i:Int))),some (.ref q4)],⟨_,rfl⟩,λY Z hYZ=>?_⟩
  walk_at "dl"
  have ei:atI (bs.map D.bl) (0+(i:Int))=some (.bl (bs.getD i false)):=by
   rw[AD]
   refine aG ?_
   rw[AAP,AAE,AA1 (by lia)]
   rfl
  refine⟨_,.inl l4,?_⟩
  rw[ei]
  have ek:vq bs (.int (0+(i:Int)))=bs.getD i false:=by
   show bs.getD (0+(i:Int)).toNat false=_
   rw[AD,AAz]
  rw[ek]at hYZ
  exact hYZ
 ·rw[AB2,List.map_id']
  refine ba.chgL (xs:=(rW bs).map .int) .refl h p4.length_le ?_ (p4.trans kB) (Bels.of λd hd=>?_)
  ·rw[av]
   congr 2
   unfold rW dI
   rw[List.filter_map,AAV]
   have e1:(λi:Nat=>D.int (0+(i:Int)))=D.int ∘ λk:Nat=>(k:Int):=by funext k;show D.int (0+(k:Int))=.int (k:Int);rw[AD]
   have e2:(vq bs ∘ λi:Nat=>D.int (0+(i:Int)))=λk:Nat=>bs.getD k false:=by
    funext k
    show bs.getD ((0:Int)+(k:Int)).toNat false=_
    rw[AD,AAz]
   rw[e1,<-e1,e2,e1]
   rfl
  ·obtain⟨k,_,rfl⟩:=AAJ.mp hd
   exact .int _
theorem rD(T:Tops P w K mg base):zp P w K mg base 1 "_law_kinds" kE eP :=
 zp.by (N:=["_law_e","_law_some"]) T.b T.f_kinds (by walk_at "sc") oY (by have:=T.cl;walk_at "dvh") qJ
def fV:DSp:=λds M R=>∃c:Int,ds=[.int c]/\∀x:Str,x.length<=16->R (.str x) M
theorem rO:iJ fV oH:=by rintro ds M R ⟨c,rfl,_⟩;rfl
def lB:DTS:=cc (ad 2)
def lC:DTS:=aN (dOp aU (ad 0) (dCB iM (aa (ad 1) am))) 0
def lD:DTS:=aw (gk (aF (aa (dOp ck (ad 0) (dC (.int 16))) am)) (ao 3) (aw (aN (dOp ar (ad 2) (dOp qIx (ad 1) (dOp ck (dOp aU (ad 0) (dC (.int 16))) (dCB iM (aa (ad 1) am))))) 2) (lC))) (lB)
def lE:DTS:=aw (aN (dC (.str "")) 2) (lD)
def sX:DTS:=aw (aN (dOp ar (dOp ar (dOp ar (dC (.str "0123456789")) (dC (.str "0123456789"))) (dC (.str "abcdefghijklmnopqrstuvwxyz"))) (dC (.str " -A"))) 1) (lE)
theorem tV:WpT fV 4 sX:=by
 rintro ds M R ⟨c,rfl,h⟩
 simp only[sX]
 walk_at "dl"
 refine⟨ae (by decide +kernel),ae (by decide +kernel),ae (by decide +kernel),?_⟩
 have sl:(AA2 "0123456789" ++ AA2 "0123456789" ++ AA2 "abcdefghijklmnopqrstuvwxyz" ++ AA2 " -A").length=49:=by decide +kernel
 generalize AA2 "0123456789" ++ AA2 "0123456789" ++ AA2 "abcdefghijklmnopqrstuvwxyz" ++ AA2 " -A" = sg at sl
 simp only[lE,lD]
 walk_at "dl"
 have c16:=AAS c (b:=16) (by decide)
 have c17:=AAM c (b:=16) (by decide)
 refine⟨by decide,⟨by lia,by lia⟩,?_⟩
 refine aW (λi S M'=>M'=M/\∃(r:Int) (tx:Str) (k:Option D),tx.length<=i/\S=[some (.int r),some (.str sg),some (.str tx),k]) ?_ ?_ ⟨rfl,c,_,none,by decide +kernel,rfl⟩
 ·rintro S M' ⟨rfl,r,tx,k,tl,rfl⟩
  rw[au]at tl
  refine⟨trivial,?_⟩
  simp only[lB]
  walk_at "dl"
  exact ba.now (h tx (by lia))
 ·rintro i y S M' hy ⟨rfl,r,tx,k,tl,rfl⟩ G hG
  obtain⟨hi,rfl⟩:=aM.mp hy
  refine⟨trivial,?_⟩
  walk_at "dl"
  have cl:sg.length=sg.cps.toList.length:=aE
  obtain⟨j,hj,e,_⟩:=iH (xs:=sg.cps.toList) (r:=r / 16) (by lia)
  refine⟨⟨by decide,by decide⟩,ae (by lia),by lia,ae (by lia),?_⟩
  rw[cl,e]
  have l1:∀c:Nat,(Str.mk #[c]).length=1:=λ_=>rfl
  refine⟨ae (by rw[l1];lia),?_⟩
  simp only[lC]
  walk_at "dl"
  refine⟨ae (by lia),⟨by lia,by lia⟩,Fgt.now (hG _ _ ⟨rfl,_,_,_,?_,rfl⟩)⟩
  rw[aY,l1]
  lia
theorem uL(T:Tops P w K mg base):Cal P w K mg base 1 "_law_text" oH fV :=
 Cal.byD (N:=["_law_rest","_law_signs","_law_text_here","_law_k"]) T.b T.f_text (by walk_at "sc") rO (by walk_at "dv") tV
def cJ:DSp:=λds M R=>∃(t:Str) (r:Int) (ps:List (Str×Int)) (rs:List (Str×List Str)),ds=[.str t,.int r,aI ps rs]/\t.length<=100/\1<=ps.length/\(∀p∈ps,1<=p.1.length/\p.1.length<=8)/\∀x:Str,x.length<=201->R (.str x) M
theorem kO:iJ cJ fx:=by rintro ds M R ⟨t,r,ps,rs,rfl,_⟩;rfl
def eU:DTS:=cc (dOp qIx (fP (aa (dOp ar (dOp ar (dSl (ad 0) bc (dA (ad 3))) (ad 4)) (dSl (ad 0) (dA (ad 3)) bc)) (aa (dOp ar (dSl (ad 0) bc (dA (ad 3))) (dSl (ad 0) (dA (dOp ar (ad 3) (dC (.int 1)))) bc)) (aa (dOp ar (dOp ar (dSl (ad 0) bc (dA (ad 3))) (ad 4)) (dSl (ad 0) (dA (dOp ar (ad 3) (dC (.int 1)))) bc)) (aa (ad 0) am))))) (dOp ck (ad 1) (dC (.int 4))))
def eV:DTS:=aw (aN (dOp qIx (dOp ar (dC (.str "0123456789 z-")) (dOp qIx (dOp qIx (dOp qIx (ad 2) (dC (.int 0))) (dC (.int 0))) (dC (.int 0)))) (dOp ck (dOp aU (ad 1) (dC (.int 100))) (dC (.int 14)))) 4) (eU)
def je:DTS:=aw (aN (dOp ck (dOp aU (ad 1) (dC (.int 4))) (dOp ar (dCB iM (aa (ad 0) am)) (dC (.int 1)))) 3) (eV)
theorem my:WpT cJ 5 je:=by
 rintro ds M R ⟨t,r,ps,rs,rfl,tl,p1,p8,h⟩
 simp only[je]
 walk_at "dl"
 refine⟨⟨by decide,by decide⟩,ae (by lia),by lia,?_⟩
 have a0:=AAS (r / 4) (b:=(t.length:Int)+1) (by lia)
 have a1:=AAM (r / 4) (b:=(t.length:Int)+1) (by lia)
 generalize r / 4 % ((t.length:Int)+1)=a at a0 a1
 obtain⟨p,qs,rfl⟩:∃p qs,ps=p::qs:=by cases ps with | nil=>exact absurd p1 (by decide) | cons p qs=>exact⟨p,qs,rfl⟩
 obtain⟨n1,n8⟩:=p8 p (by simp)
 simp only[eV,aI,AAQ,aX]
 walk_at "dl"
 have zl:(AA2 "0123456789 z-").length=13:=by decide +kernel
 have wl:(AA2 "0123456789 z-" ++ p.1).length=13+p.1.length:=by rw[aY,zl]
 have b0:=AAS (r / 100) (b:=14) (by decide)
 have b1:=AAM (r / 100) (b:=14) (by decide)
 obtain⟨j,hj,e,_⟩:=qw (xs:=(AA2 "0123456789 z-" ++ p.1).cps.toList) (i:=r / 100 % 14) b0 (by rw[<-aE,wl];lia)
 refine⟨ae (by lia),⟨by decide,by decide⟩,by decide,ae (by lia),?_⟩
 rw[e]
 dsimp only
 have l1:(Str.mk #[(AA2 "0123456789 z-" ++ p.1).cps.toList[j]]).length=1:=rfl
 generalize Str.mk #[(AA2 "0123456789 z-" ++ p.1).cps.toList[j]]=s at l1 ⊢
 have sl:∀l u,(AB9 t l u).length<=t.length:=λl u=>Txt.slice_le t l u
 simp only[eU]
 walk_at "dl"
 have s1:=sl none (some a)
 have s2:=sl (some a) none
 have s3:=sl (some (a+1)) none
 have a1:(AB9 t none (some a)++s).length=(AB9 t none (some a)).length+1:=by rw[aY,l1]
 refine⟨ae (by lia),ae (by lia),ae (by lia),ae (by lia),ae (by lia),ae (by lia),ae (by lia),ae (by lia),ae (by lia),ae (by lia),ae (by lia),ae (by decide),by decide,_,ak,?_⟩
 obtain⟨os,hos,ol,o4⟩:∃os:List Str,os.map D.str=[D.str (AB9 t none (some a)++s++AB9 t (some a) none),D.str (AB9 t none (some a)++AB9 t (some (a+1)) none),D.str (AB9 t none (some a)++s++AB9 t (some (a+1)) none),D.str t]/\(∀o∈os,o.length<=201)/\os.length=4:=by
  refine⟨[_,_,_,_],rfl,λo ho=>?_,rfl⟩
  simp only[AA9,AAd,or_false]at ho
  rcases ho with rfl | rfl | rfl | rfl
  ·rw[aY];lia
  ·rw[aY];lia
  ·rw[aY];lia
  ·lia
 rw[<-hos]
 obtain⟨j,hj,e,_⟩:=qw (xs:=os.map D.str) (i:=r % 4) (AAS _ (by decide)) (by rw[AA6,o4];exact AAM _ (by decide))
 rw[e,ACc]
 exact ba.str (h _ (ol _ (AB4 _))) kB
theorem mL(T:Tops P w K mg base):Cal P w K mg base 1 "_law_spoiled" fx cJ :=
 Cal.byD (N:=["_law_text_here","_law_rest","_law_house_here","_law_at","_law_sign"]) T.b T.f_spoiled (by walk_at "sc") kO (by walk_at "dv") my
def mw:DSp:=λds M R=>∃(ps:List (Str×Int)) (rs:List (Str×List Str)) (x:Str),ds=[aI ps rs,.str x]/\Few ps/\(∀p∈ps,p.1.length<=8)/\x.length<=1000/\R ((jF ps x).getD .non) M
theorem uY:iJ mw uH:=by rintro ds M R ⟨ps,rs,x,rfl,_⟩;rfl
theorem tZ:∀{l:List Nat}{a:Nat},a<(l.takeWhile p).length->∃c,l[a]?=some c/\p c=true
 | [],a,h=>absurd h (ACE _)
 | b::l,a,h=>by
  rw[ABS]at h
  split at h
  ·rename_i hb
   cases a with
   | zero=>exact⟨b,rfl,hb⟩
   | succ a=>exact tZ (l:=l) (a:=a) (by simpa using h)
  ·exact absurd h (ACE _)
theorem sW:∀{l:List Nat}{c:Nat},l[(l.takeWhile p).length]?=some c->p c=false
 | [],c,h=>nomatch h
 | b::l,c,h=>by
  rw[ABS]at h
  split at h
  ·exact sW (l:=l) (by simpa using h)
  ·rename_i hb
   have:b=c:=by simpa using h
   subst this
   simpa using hb
theorem lQ:bf ⟨#[c]⟩ ⟨#[d]⟩=decide (c<d):=by
 unfold bf
 rw[decide_eq_decide]
 show [c] < [d]↔c<d
 constructor
 ·intro h
  cases h with
  | rel h=>exact h
  | cons h=>exact nomatch h
 ·exact .rel
def nX:DTS:=cc (dC .non)
def kz:DTS:=aw (gk (eE (dOp qIx (ad 0) (dC (.int 0)))) (gh 2 (bp (ao 3) (bp (ao 4) gj))) (gk (aF (aa (ad 4) am)) (ao 5) (dIf (aB (dOp qEq (dSl (ad 1) (dA (ad 2)) bc) (dOp ar (ad 3) (dCB hZ (aa (ad 5) am))))) (cc (iN (aa (dCB mH (aa (dSl (ad 1) bc (dA (ad 2))) am)) (aa (iN (aa (ad 3) (aa (ad 5) am))) am)))) bd))) (nX)
def kA:DTS:=aw (dIf (dOr (mY (aB (fS qLe qLe (dC (.int 1)) (ad 2) (dC (.int 12))))) (aB (dOp qEq (dOp qIx (ad 1) (dC (.int 0))) (dC (.str "0"))))) (cc (dC .non)) bd) (kz)
def nY:DTS:=aw (mf (wC (aB (dOp qLt (ad 2) (dCB iM (aa (ad 1) am)))) (aB (fS qLe qLe (dC (.str "0")) (dOp qIx (ad 1) (ad 2)) (dC (.str "9"))))) (aN (dOp ar (ad 2) (dC (.int 1))) 2)) (kA)
def wM:DTS:=aw (aN (dC (.int 0)) 2) (nY)
theorem due_3{M:Mem}{R:DK}{ps:List (Str×Int)}{rs:List (Str×List Str)}{x:Str}(few:Few ps)(h8:∀p∈ps,p.1.length<=8)(hl:x.length<=1000)(h1:1<=bN x)(h2:bN x<=12)
  (h:R ((((ap ps).find? λd=>ci d==bhS x).map λd=>D.tup [.int ((AAr (x.cps.toList.takeWhile eD):Nat):Int),d]).getD .non) M):kz (EE M R) [some (aI ps rs),some (.str x),some (.int ((bN x:Nat):Int)),none,none,none] M:=by
 simp only[kz,aI]
 walk_at "dl"
 intro _
 refine cu (λys S M'=>∃qs a b c,ys=qs.map aX/\(∀p∈qs,p∈ps)/\M'=M/\S=[some (aI ps rs),some (.str x),some (.int ((bN x:Nat):Int)),a,b,c]/\(ap ps).find? (λd=>ci d==bhS x)=(ap qs).find? λd=>ci d==bhS x) ?_ ?_ _ _ _ ⟨ps,_,_,_,rfl,λ_ z=>z,rfl,rfl,rfl⟩
 ·rintro S M' ⟨qs,a,b,c,hq,_,rfl,rfl,e⟩
  have:qs=[]:=by cases qs with | nil=>rfl | cons _ _=>cases hq
  subst this
  refine⟨trivial,?_⟩
  simp only[nX]
  walk_at "dl"
  rw[e]at h
  exact ba.now h
 ·rintro y ys S M' ⟨qs,a,b,c,hq,hm,rfl,rfl,e⟩ L hL
  cases qs with
  | nil=>cases hq
  | cons p qs =>
   rw[AAQ]at hq
   injection hq with q1 q2
   subst q1
   refine⟨trivial,?_⟩
   obtain⟨m0,m3⟩:=few.2 p (hm p (by simp))
   have p8:=h8 p (hm p (by simp))
   unfold aX
   walk_at "dl"
   refine⟨trivial,⟨by lia,by lia⟩,?_⟩
   have e':(ap ps).find? (λd=>ci d==bhS x)=((dI 0 p.2.toNat).map (λk=>D.tup [.str p.1,k])++ap qs).find? λd=>ci d==bhS x:=e
   refine cu (λzs S M2=>∃c,(∀z∈zs,∃i:Int,z=.int i/\0<=i/\i<3)/\M2=M'/\S=[some (aI ps rs),some (.str x),some (.int ((bN x:Nat):Int)),some (.str p.1),some (.int p.2),c]/\(ap ps).find? (λd=>ci d==bhS x)=(zs.map (λk=>D.tup [.str p.1,k])++ap qs).find? λd=>ci d==bhS x) ?_ ?_ _ _ _ ⟨_,λz hz=>?_,rfl,rfl,e'⟩
   ·rintro S M2 ⟨c,_,rfl,rfl,e⟩
    exact⟨trivial,Fgt.now (hL _ _ ⟨qs,_,_,_,q2,λp hp=>hm p (AAA _ hp),rfl,rfl,e⟩)⟩
   ·rintro z zs S M2 ⟨c,hz,rfl,rfl,e⟩ G hG
    obtain⟨i,rfl,i0,i3⟩:=hz z (by simp)
    refine⟨trivial,?_⟩
    walk_at "dl"
    have nl:=fF i0 (by lia)
    refine⟨ae hl,bW i0 (by lia),ae (by lia),⟨bt,bt⟩,?_⟩
    rw[fN,sM]
    have es:ci (.tup [.str p.1,.int i])=p.1++AA2 (toString i):=rfl
    rw[AAQ,ABT,AB8,es]at e
    by_cases hc:p.1++AA2 (toString i)=bhS x
    ·rw[beq_iff_eq.mpr hc]at e
     rw[beq_iff_eq.mpr hc.symm]
     rw[e]at h
     refine gf ⟨ae hl,_,PySem.intText_digits (pK x) ?_ ?_,?_,ae (by decide),ae (by decide),?_⟩
     ·intro z
      have z:(hdS x).cps.toList=[]:=z
      have:=jU x
      rw[aE,z]at this
      exact absurd (this ▸ h1) (by decide)
     ·have:=jU x
      show (hdS x).length<=4300
      lia
     ·have:=jU x
      show (hdS x).length<=640
      lia
     ·have eh:(AB9 x none (some ((bN x:Nat):Int))).cps.toList=x.cps.toList.takeWhile eD:=fM x
      rw[eh]
      exact ba.now h
    ·rw[beq_eq_false_iff_ne.mpr hc]at e
     rw[beq_eq_false_iff_ne.mpr (AAm hc)]
     exact gg (Fgt.now (hG _ _ ⟨_,λz hz'=>hz z (AAA _ hz'),rfl,rfl,e⟩))
   ·obtain⟨j,hj⟩:=ACe hz
    obtain⟨hlt,rfl⟩:=aM.mp hj
    exact⟨_,rfl,by lia,by lia⟩
theorem due_2(few:Few ps)(h8:∀p∈ps,p.1.length<=8)(hl:x.length<=1000)(h:R ((jF ps x).getD .non) M):kA (EE M R) [some (aI ps rs),some (.str x),some (.int ((bN x:Nat):Int)),none,none,none] M:=by
 have fl:=iz x
 unfold jF at h
 have e0:AA2 "0" = ⟨#[48]⟩:=by decide +kernel
 simp only[kA]
 walk_at "dl"
 by_cases h1:1<=bN x
 ·rw[dT_ (show (1:Int)<=((bN x:Nat):Int) by lia)]
  walk_at "ifs"
  by_cases h2:bN x<=12
  ·rw[dT_ (show ((bN x:Nat):Int)<=12 by lia)]
   walk_at "ifs"
   refine⟨ae hl,?_⟩
   obtain⟨c,hc,hd⟩:=tZ (show 0<(x.cps.toList.takeWhile eD).length from h1)
   have hh:x.cps.toList.head?=some c:=by rw[<-hc];cases x.cps.toList<;>rfl
   rw[show atI x.cps.toList 0=some c from aG (j:=0) hc]
   refine⟨⟨bt,bt⟩,?_⟩
   rw[fN,e0]
   by_cases h3:c=48
   ·subst h3
    rw[if_neg λz=>z.2.2 hh]at h
    rw[beq_self_eq_true]
    exact gf (ba.now h)
   ·rw[if_pos ⟨h1,h2,λz=>h3 (by rw[hh]at z;injection z)⟩]at h
    rw[beq_eq_false_iff_ne.mpr λz=>h3 (by injection z with z;injection z with z;injection z)]
    exact gg (due_3 few h8 hl h1 h2 h)
  ·rw[if_neg λz=>h2 z.2.1]at h
   rw[dF_ (show ¬((bN x:Nat):Int)<=12 by lia)]
   walk_at "ifs"
   exact ba.now h
 ·rw[if_neg λz=>h1 z.1]at h
  rw[dF_ (show ¬(1:Int)<=((bN x:Nat):Int) by lia)]
  walk_at "ifs"
  exact ba.now h
theorem wG:WpT mw 6 wM:=by
 rintro ds M R ⟨ps,rs,x,rfl,few,h8,hl,h⟩
 simp only[wM,nY]
 walk_at "dl"
 have fl:=iz x
 have e0:AA2 "0" = ⟨#[48]⟩:=by decide +kernel
 have e9:AA2 "9" = ⟨#[57]⟩:=by decide +kernel
 refine⟨λm S M'=>M'=M/\∃a:Nat,S=[some (aI ps rs),some (.str x),some (.int (a:Int)),none,none,none]/\a<=bN x/\m=x.length-a,⟨_,rfl,0,rfl,AAZ _,rfl⟩,?_⟩
 rintro m S M' ⟨rfl,a,rfl,ha,rfl⟩
 walk_at "dl"
 refine⟨ae hl,?_⟩
 by_cases h1:a<bN x
 ·obtain⟨c,hc,hd⟩:=tZ h1
  have hlt:a<x.length:=by lia
  rw[dT_ (show (a:Int)<(x.length:Int) by lia)]
  walk_at "ifs"
  refine⟨ae hl,?_⟩
  rw[aG hc]
  unfold eD at hd
  rw[AAG,decide_eq_true_iff,decide_eq_true_iff]at hd
  rw[e0,e9]
  dsimp only
  rw[lQ,lQ,dF_ (by lia),dF_ (by lia)]
  walk_at "ifs"
  exact⟨_,by lia,trivial,a+1,by push_cast;rfl,by lia,rfl⟩
 ·have ea:a=bN x:=by lia
  subst ea
  have fin:=due_2 (M:=M') (R:=R) (rs:=rs) few h8 hl h
  by_cases h2:bN x<x.length
  ·rw[dT_ (show ((bN x:Nat):Int)<(x.length:Int) by lia)]
   walk_at "ifs"
   refine⟨ae hl,?_⟩
   have hx:x.cps.toList[bN x]?=some (x.cps.toList[bN x]'(by rw[<-aE];exact h2)):=AA1 _
   have hd:=sW hx
   rw[aG hx]
   dsimp only
   generalize x.cps.toList[bN x]'(by rw[<-aE];exact h2)=c at hd
   rw[e0,e9,lQ,lQ]
   unfold eD at hd
   rw[Bool.and_eq_false_iff,decide_eq_false_iff_not,decide_eq_false_iff_not]at hd
   by_cases h3:c<48
   ·rw[dT_ h3]
    walk_at "ifs"
    exact fin
   ·rw[dF_ h3,dT_ (show 57<c by lia)]
    walk_at "ifs"
    exact fin
  ·rw[dF_ (show ¬((bN x:Nat):Int)<(x.length:Int) by lia)]
   walk_at "ifs"
   exact fin
theorem xD(T:Tops P w K mg base):Cal P w K mg base 1 "_law_due" uH mw :=
 Cal.byD (N:=["_law_house_here","_law_text_here","_law_at","_law_name","_law_many","_law_k"]) T.b T.f_due (by walk_at "sc") uY (by walk_at "dv") wG
def dD:DSp:=λds M R=>∃(ps:List (Str×Int)) (rs:List (Str×List Str)) (x:Str),ds=[aI ps rs,.str x]/\Few ps/\(∀p∈ps,p.1.length<=8)/\x.length<=1000/\R (.bl true) M
theorem oX:iJ dD kD:=by rintro ds M R ⟨ps,rs,x,rfl,_⟩;rfl
theorem md:∀{xs:List D},(∀x∈xs,f x x=true)->eqL f xs xs=true
 | [],_=>rfl
 | x::xs,h=>by
  show (f x x&&eqL f xs xs)=true
  rw[h x (by simp),md λy hy=>h y (AAA _ hy)];rfl
theorem qN(hi:ah M i xs)(hj:ah M j xs)(h:∀x∈xs,okD M 28 x=true/\eqD M 28 x x=true):(okD M eqN (.tup [.ref i,.bl b])=true/\okD M eqN (.tup [.ref j,.bl b])=true)/\eqD M eqN (.tup [.ref i,.bl b]) (.tup [.ref j,.bl b])=true:=by
 have o:∀{i:Nat},ah M i xs->okD M eqN (.tup [.ref i,.bl b])=true:=λhi=>uM (n:=29) λx hx=>by
  rcases AA9.mp hx with rfl | hx
  ·exact fE (n:=28) hi λx hx=>(h x hx).1
  ·rw[ABY.mp hx];exact xF
 refine⟨⟨o hi,o hj⟩,?_⟩
 show (eqD M 29 (.ref i) (.ref j)&&(eqD M 29 (.bl b) (.bl b)&&true))=true
 rw[iA (n:=28) hi hj,md λx hx=>(h x hx).2,yE,beq_self_eq_true]
 rfl
theorem uj(few:Few ps)(h8:∀p∈ps,p.1.length<=8)(h:jF ps x=some d):okS 5 d=true/\∃a b,d=.tup [a,b]:=by
 unfold jF at h
 split at h
 ·obtain⟨b,hb,rfl⟩:=ACM.mp h
  obtain⟨a,i,rfl,_⟩:=kU few h8 b (List.mem_of_find?_eq_some hb)
  exact⟨rfl,_,_,rfl⟩
 ·cases h
def jf:DTS:=cc (ka (dOp qIs (ad 4) (dC .non)) (dCB (cE 5) (aa (ad 3) (aa (ad 2) am))))
def eY:DTS:=aw (dIf (aB (dOp qIs (ad 2) (dC .non))) (cc (dOp qEq (ad 4) (iN (aa (fP (aa (dC (.int 9)) am)) (aa (dC (.bl true)) am))))) bd) (jf)
def jg:DTS:=aw (dTry T_ "TalkError" 5 (xSet (xCB bC (aa (ad 0) (aa (ad 1) am))) 3) (λa_=>aN (iN (aa (dCBH a_ eP (aa (ad 5) am)) (aa (dIsV T_ (ad 5)) am))) 4)) (eY)
def jh:DTS:=aw (aN (dC .non) 4) (jg)
def ji:DTS:=aw (aN (dC .non) 3) (jh)
def nK:DTS:=aw (aN (dCB mw (aa (ad 0) (aa (ad 1) am))) 2) (ji)
theorem qI:WpT dD 6 nK:=by
 rintro ds M R ⟨ps,rs,x,rfl,few,h8,hl,h⟩
 simp only[nK]
 walk_at "dl"
 refine⟨ps,rs,x,rfl,few,h8,hl,?_⟩
 simp only[ji,jh,jg]
 walk_at "dl"
 refine⟨ps,rs,x,rfl,few,h8,hl,λd hd=>?_,λhd=>⟨by decide +kernel,λa=>?_⟩⟩
 ·rw[hd]
  obtain⟨ok,a,b,rfl⟩:=uj few h8 hd
  simp only[eY,ACd]
  walk_at "dl"
  simp only[jf]
  walk_at "dl"
  refine⟨_,_,rfl,.inl ⟨rfl,ok⟩,ba.now h⟩
 ·rw[hd,Option.getD_none]
  have g:(M++[MO.exc (AA2 "NoRow") a])[M.length]?=some (.exc (AA2 "NoRow") a):=av
  have p:M <+: M++[MO.exc (AA2 "NoRow") a]:=kB
  generalize M++[MO.exc (AA2 "NoRow") a]=B at g p
  generalize M.length=q0 at g
  refine⟨⟨_,_,g⟩,q0,_,a,[false,false,false,false,false,false,false,false,false,true,false,false],rfl,g,by decide +kernel,?_⟩
  have e2:(List.lookup (AA2 "NoRow") T_).isSome=true:=by decide +kernel
  have ek:rW [false,false,false,false,false,false,false,false,false,true,false,false]=[9]:=by decide
  rw[ek]
  simp only[bi g,e2]
  refine⟨trivial,ae (by decide),?_⟩
  simp only[eY]
  walk_at "dl"
  have l1:(B++[MO.lst [.int 9]])[B.length]?=some (.lst [.int 9]):=av
  have ts:=qN (M:=B++[MO.lst [.int 9]]++[MO.lst [.int 9]]) (i:=B.length) (j:=(B++[MO.lst [.int 9]]).length) (xs:=[.int 9]) (b:=true) (.inl (bi l1)) ak λx hx=>by
   rw[ABY.mp hx];exact⟨rfl,rfl⟩
  refine⟨ae (by decide),ae (by decide),ts.1,?_⟩
  rw[ts.2]
  exact ba.bl h ((p.trans kB).trans kB)
theorem rC(T:Tops P w K mg base):Cal P w K mg base 6 "_law_right" kD dD :=
 Cal.byD (N:=["_law_house_here","_law_text_here","_law_due_here","_law_found","_law_kinds_here","_law_e"]) T.b T.f_right (by walk_at "sc") oX (by have:=ij T;have:=kG T 5;have:=rD T;have:=xD T;have:=T.cl;walk_at "dv") qI
theorem uX:iJ va uG:=by rintro ds M R ⟨ns,mo,_,_,rfl,_⟩;rfl
def lH:DTS:=cc (dC (.bl true))
def lI:DTS:=gk (eE (dOp ar (ad 10) (fP (aa (dCB fV (aa (dOp aU (ad 9) (dC (.int 3))) am)) (aa (dOp ar (dOp ar (ad 4) (dOp qIx (ad 6) (dC (.int 0)))) (dCB hZ (aa (dOp qIx (ad 6) (dC (.int 1))) am))) am))))) (ao 11) (dIf (mY (aB (dCB dD (aa (ad 1) (aa (ad 11) am))))) (cc (dC (.bl false))) bd)
def nL:DTS:=aw (aN (dOp eA (dC (.str "7")) (dOp ar (dC (.int 10)) (dOp ck (ad 9) (dC (.int 5))))) 4) (lI)
def nM:DTS:=aw (aN (fP (aa (dCB fV (aa (ad 9) am)) (aa (dCB cJ (aa (ad 8) (aa (ad 9) (aa (ad 1) am)))) (aa (dOp ar (dC (.str "0")) (ad 8)) (aa (dOp ar (ad 8) (dC (.str "0"))) (aa (dC (.str "")) am)))))) 10) (nL)
def nO:DTS:=aw (aN (dOp aU (ad 5) (dC (.int 16))) 9) (nM)
def nQ:DTS:=aw (dIf (dOr (mY (aB (dCB (cE 5) (aa (dCB bB (aa (ad 7) am)) (aa (ad 8) am))))) (mY (aB (dCB dD (aa (ad 1) (aa (ad 8) am)))))) (cc (dC (.bl false))) bd) (nO)
def nR:DTS:=aw (aN (dOp ar (dOp ar (dCB hZ (aa (dOp qIx (ad 7) (dC (.int 0))) am)) (dOp qIx (ad 6) (dC (.int 0)))) (dCB hZ (aa (dOp qIx (ad 6) (dC (.int 1))) am))) 8) (nQ)
def kw:DTS:=aw (aN (iN (aa (dOp ar (dC (.int 1)) (dOp ck (dOp aU (ad 5) (dC (.int 16))) (dOp qIx (fP (aa (dC (.int 999)) (aa (dOp wW (dC (.int 10)) (dC (.int 9))) am))) (dOp ck (dOp aU (ad 5) (dC (.int 8))) (dC (.int 2)))))) (aa (ad 6) am))) 7) (nR)
def ky:DTS:=aw (gk (eE (dOp ar (dSl (ad 0) (dA (dC (.int 1))) bc) (fP (aa (dCB cb (aa (ad 0) (aa (dC (.int 0)) am))) am)))) (ao 5) (aw (aN (dOp qIx (ad 2) (dOp ck (ad 5) (dCB iM (aa (ad 2) am)))) 6) (kw))) (lH)
def nS:DTS:=aw (gk (eE (dOp qIx (ad 1) (dC (.int 0)))) (gh 2 (bp (ao 3) (bp (ao 4) gj))) (aN (dOp ar (ad 2) (dLC 1 [3] (aF (aa (ad 4) am)) (ao 0) pY (iN (aa (ad 1) (aa (ad 0) am))))) 2)) (ky)
def nU:DTS:=aw (aN (fP am) 2) (nS)
def wL:DTS:=aw (aN (dCB eQ (aa (dCB cb (aa (ad 0) (aa (dC (.int 0)) am))) am)) 1) (nU)
theorem law_4{E:DEnds}{B:Mem}{ps:List (Str×Int)}{rs:List (Str×List Str)}{c:Int}{hand:D}{y0 y2 y3 y4 y7 y8 y9 y10 y11:Option D}(ok:HouseOk ps rs)(few:Few ps)(h8:∀p∈ps,p.1.length<=8)(hh:hand∈ap ps)
  (h:∀S' B',B <+: B'->(∃x3 x4 x5 x6 x7 x8 x9 x10 x11,S'=[y0,some (aI ps rs),y2,x3,x4,x5,x6,x7,x8,x9,x10,x11])->E.nx S' B') :
  kw E [y0,some (aI ps rs),y2,y3,y4,some (.int c),some hand,y7,y8,y9,y10,y11] B:=by
 have hs:=kU few h8 hand hh
 simp only[kw]
 walk_at "dl"
 have m0:=AAS (c / 8) (b:=2) (by decide)
 have m1:=AAM (c / 8) (b:=2) (by decide)
 refine⟨⟨by decide,by decide⟩,⟨by decide,by decide,by decide⟩,ae (by decide),⟨by decide,by decide⟩,by decide,_,ak,?_⟩
 obtain⟨m,e,m1,m9⟩:∃m:Int,atI [D.int 999,D.int (10 ^ Int.toNat 9)] (c / 8 % 2)=some (.int m)/\0<m/\m<=10 ^ 9:=by
  have:c / 8 % 2=0\/c / 8 % 2=1:=by lia
  rcases this with e | e<;>rw[e]
  ·exact⟨999,rfl,by decide,by decide⟩
  ·exact⟨10 ^ 9,rfl,by decide,by decide⟩
 rw[e]
 refine⟨m1,ae (by decide),?_⟩
 have t0:=AAS (c / 16) (b:=m) (by lia)
 have t1:=AAM (c / 16) m1
 have p1:B <+: B++[MO.lst [D.int 999,D.int (10 ^ Int.toNat 9)]]:=kB
 generalize B++[MO.lst [D.int 999,D.int (10 ^ Int.toNat 9)]]=B1 at p1
 obtain⟨tm,htm,tm1,tm9⟩:∃tm:Int,tm=1+c / 16 % m/\1<=tm/\tm<=10 ^ 9:=⟨_,rfl,by lia,by lia⟩
 rw[<-htm]
 obtain⟨a,i,rfl,a8,i0,i9⟩:=id hs
 have tl:=fF (i:=tm) (by lia) (by lia)
 have il:=fF (i:=i) (by lia) (by lia)
 simp only[nR]
 walk_at "dl"
 have al:(AA2 (toString tm)++a).length=(AA2 (toString tm)).length+a.length:=aY
 refine⟨bW (by lia) (by lia),ae (by lia),bW i0 (by lia),ae (by lia),?_⟩
 have xe:AA2 (toString tm)++a++AA2 (toString i)=AA2 (toString tm)++ci (.tup [.str a,.int i]):=by
  refine cT ?_
  show _=(AA2 (toString tm)++(a++AA2 (toString i))).cps.toList
  rw[dS,dS,dS,dS,AAT]
 have xl:(AA2 (toString tm)++a++AA2 (toString i)).length<=28:=by rw[aY];lia
 generalize AA2 (toString tm)++a++AA2 (toString i)=x at xe xl
 simp only[nQ]
 walk_at "dl"
 refine⟨tm,_,rfl,hs,by lia,by lia,_,_,rfl,.inl ⟨by rw[xe],rfl⟩,?_⟩
 walk_at "ifs"
 refine⟨ps,rs,x,rfl,few,h8,by lia,?_⟩
 walk_at "ifs"
 simp only[nO]
 walk_at "dl"
 refine⟨⟨by decide,by decide⟩,?_⟩
 simp only[nM]
 walk_at "dl"
 have z1:(AA2 "0").length=1:=by decide +kernel
 refine⟨_,rfl,λx1 l1=>?_⟩
 refine⟨x,_,ps,rs,rfl,by lia,ok.len.1,ok.nm,λx2 l2=>⟨ae (by lia),ae (by lia),ae (by decide),?_⟩⟩
 obtain⟨os,hos,ol⟩:∃os:List Str,os.map D.str=[D.str x1,D.str x2,D.str (AA2 "0" ++ x),D.str (x++AA2 "0"),D.str (AA2 "")]/\∀o∈os,o.length<=1000:=by
  refine⟨[_,_,_,_,_],rfl,λo ho=>?_⟩
  simp only[AA9,AAd,or_false]at ho
  rcases ho with rfl | rfl | rfl | rfl | rfl
  ·lia
  ·lia
  ·rw[aY];lia
  ·rw[aY];lia
  ·decide +kernel
 have o5:os.length=5:=by have:=congrArg AD4 hos;simpa using this
 rw[<-hos]
 have g1:(B1++[MO.lst (os.map D.str)])[B1.length]?=some (.lst (os.map D.str)):=av
 have p2:B <+: B1++[MO.lst (os.map D.str)]:=p1.trans kB
 generalize B1++[MO.lst (os.map D.str)]=B2 at g1 p2
 generalize B1.length=q1 at g1
 simp only[nL]
 walk_at "dl"
 have r0:=AAS (c / 16) (b:=5) (by decide)
 have r1:=AAM (c / 16) (b:=5) (by decide)
 have z7:(AA2 "7").length=1:=by decide +kernel
 refine⟨by decide,⟨by lia,by lia,ae (by rw[z7];lia)⟩,?_⟩
 have ml:(Txt.mul (AA2 "7") (10+c / 16 % 5)).length<=20:=by
  have:=PyProof.Rows.len_mul (AA2 "7") (10+c / 16 % 5)
  rw[z7,dF_ (by lia),if_neg (by decide)]at this
  lia
 generalize Txt.mul (AA2 "7") (10+c / 16 % 5)=mu at ml
 simp only[lI]
 walk_at "dl"
 have mal:(mu++a).length=mu.length+a.length:=aY
 refine⟨⟨by decide,by decide⟩,_,rfl,λx3 l3=>⟨ae (by lia),bW i0 (by lia),ae (by lia),ae (by decide),_,_,bi g1,av,ae (by simp;lia),_,ak,λ_=>?_⟩⟩
 obtain⟨os2,hos2,ol2⟩:∃os2:List Str,os2.map D.str=os.map D.str++[D.str x3,D.str (mu++a++AA2 (toString i))]/\∀o∈os2,o.length<=1000:=by
  refine⟨os++[x3,mu++a++AA2 (toString i)],by rw[ABx];rfl,λo ho=>?_⟩
  rcases ABQ.mp ho with ho | ho
  ·exact ol o ho
  ·simp only[AA9,AAd,or_false]at ho
   rcases ho with rfl | rfl
   ·lia
   ·rw[aY];lia
 rw[<-hos2]
 have g2:ah (B2++[MO.lst [D.str x3,D.str (mu++a++AA2 (toString i))]]++[MO.lst (os2.map D.str)]) (B2++[MO.lst [D.str x3,D.str (mu++a++AA2 (toString i))]]).length (os2.map D.str):=ak
 have p3:B <+: B2++[MO.lst [D.str x3,D.str (mu++a++AA2 (toString i))]]++[MO.lst (os2.map D.str)]:=(p2.trans kB).trans kB
 generalize B2++[MO.lst [D.str x3,D.str (mu++a++AA2 (toString i))]]++[MO.lst (os2.map D.str)]=B3 at g2 p3
 generalize (B2++[MO.lst [D.str x3,D.str (mu++a++AA2 (toString i))]]).length=q2 at g2
 refine aW (λj S M'=>M'=B3/\∃x11,S=[y0,some (aI ps rs),y2,y3,some (D.str mu),some (D.int c),some (D.tup [D.str a,D.int i]),some (D.tup [D.int tm,D.tup [D.str a,D.int i]]),some (D.str x),some (D.int (c / 16)),some (D.ref q1),x11]) ?_ ?_ ⟨rfl,_,rfl⟩
 ·rintro S M' ⟨rfl,x11,rfl⟩
  exact⟨g2,h _ _ p3 ⟨_,_,_,_,_,_,_,_,_,rfl⟩⟩
 ·rintro j y S M' hy ⟨rfl,x11,rfl⟩ G hG
  obtain⟨o,ho,rfl⟩:=AAJ.mp (ABd hy)
  refine⟨g2,?_⟩
  walk_at "dl"
  refine⟨ps,rs,o,rfl,few,h8,ol2 o ho,?_⟩
  walk_at "ifs"
  exact Fgt.now (hG _ _ ⟨rfl,_,rfl⟩)
theorem law_3{E:DEnds}{B:Mem}{ns:List Int}{ps:List (Str×Int)}{rs:List (Str×List Str)}{q:Nat}{a b:Option D}(ok:HouseOk ps rs)(few:Few ps)(h8:∀p∈ps,p.1.length<=8)(hL0:ah B 0 (ns.map D.int))(h63:ns.length<=63)(gL:ah B q (ap ps))
  (h:∀M',E.rt (.bl true) M'):ky E [some (.ref 0),some (aI ps rs),some (.ref q),a,b,none,none,none,none,none,none,none] B:=by
 simp only[ky]
 walk_at "dl"
 obtain⟨cs,hcs,cl⟩:∃l:List Int,cutD (ns.map D.int) (some 1) none=l.map D.int/\l.length<=63:=by
  unfold cutD
  rw[<-List.map_drop,<-List.map_take]
  exact⟨_,rfl,by rw[ABA,ABL];lia⟩
 refine⟨_,hL0,?_⟩
 rw[hcs]
 refine⟨0,ns,0,rfl,hL0.more _,ae (by decide),_,_,bi av,av,ae (by simp;lia),_,ak,λ_=>?_⟩
 have hall:∀y∈cs.map D.int++[D.int (bP ns 0)],∃i,y=.int i:=λy hy=>by
  rcases ABQ.mp hy with hy | hy
  ·obtain⟨i,_,rfl⟩:=AAJ.mp hy;exact⟨i,rfl⟩
  ·exact⟨_,ABY.mp hy⟩
 have g2:ah (B++[MO.lst (cs.map D.int)]++[MO.lst [D.int (bP ns 0)]]++[MO.lst (cs.map D.int++[D.int (bP ns 0)])]) (B++[MO.lst (cs.map D.int)]++[MO.lst [D.int (bP ns 0)]]).length (cs.map D.int++[D.int (bP ns 0)]):=ak
 have g1:=((gL.more [MO.lst (cs.map D.int)]).more [MO.lst [D.int (bP ns 0)]]).more [MO.lst (cs.map D.int++[D.int (bP ns 0)])]
 have b1:0<(B++[MO.lst (cs.map D.int)]++[MO.lst [D.int (bP ns 0)]]++[MO.lst (cs.map D.int++[D.int (bP ns 0)])]).length:=by simp
 generalize B++[MO.lst (cs.map D.int)]++[MO.lst [D.int (bP ns 0)]]++[MO.lst (cs.map D.int++[D.int (bP ns 0)])]=B2 at g1 g2 b1
 generalize (B++[MO.lst (cs.map D.int)]++[MO.lst [D.int (bP ns 0)]]).length=q2 at g2
 have ql:q<B2.length:=by rcases g1 with g | g | g<;>exact(AA4.mp g).1
 have l12:=dR (ps:=ps) few.2
 have l1:0<(ap ps).length:=by
  cases ps with
  | nil=>exact absurd ok.len.1 (by decide)
  | cons p ps =>
   have:=ok.many p (by simp)
   rw[ap,List.flatMap_cons,AAL,cZ]
   lia
 refine aW (λi S M'=>M'=B2/\∃x3 x4 x5 x6 x7 x8 x9 x10 x11,S=[some (.ref 0),some (aI ps rs),some (.ref q),x3,x4,x5,x6,x7,x8,x9,x10,x11]) ?_ ?_ ⟨rfl,_,_,_,_,_,_,_,_,_,rfl⟩
 ·rintro S M' ⟨rfl,x3,x4,x5,x6,x7,x8,x9,x10,x11,rfl⟩
  refine⟨g2,?_⟩
  simp only[lH]
  walk_at "dl"
  exact h _
 ·rintro i y S M' hy ⟨rfl,x3,x4,x5,x6,x7,x8,x9,x10,x11,rfl⟩ G hG
  obtain⟨c,rfl⟩:=hall y (ABd hy)
  refine⟨g2,?_⟩
  walk_at "dl"
  obtain⟨j,hj,e,_⟩:=iH (xs:=ap ps) (r:=c) l1
  refine⟨_,g1,by lia,_,g1,?_⟩
  rw[e]
  refine law_4 ok few h8 (AB4 hj) λS' B' pB hS=>?_
  obtain⟨x3,x4,x5,x6,x7,x8,x9,x10,x11,rfl⟩:=hS
  exact Fgt.back (.keep (.ref b1) (.keep fL (.keep (.ref ql) (.drop (.drop (.drop (.drop (.drop (.drop (.drop (.drop (.drop .nil)))))))))))) pB (hG _ _ ⟨rfl,_,_,_,_,_,_,_,_,_,rfl⟩)
theorem wF:WpT va 12 wL:=by
 rintro ds M R ⟨ns,mo,h63,⟨hmo,hml⟩,rfl,rfl,h⟩
 have hL0:∀L:Mem,ah ([mo]++L) 0 (ns.map D.int):=λL=>by
  have:=jM (M:=[mo]++L) (n:=0) (mo:=mo) rfl hml
  rw[hmo]at this
  exact this
 simp only[wL]
 walk_at "dl"
 refine⟨0,ns,0,rfl,hL0 [],_,rfl,λps rs ok=>?_⟩
 have few:Few ps:=⟨ok.len.2,λp hp=>⟨by have:=ok.many p hp;lia,(ok.many p hp).2⟩⟩
 have h8:∀p∈ps,p.1.length<=8:=λp hp=>(ok.nm p hp).2
 simp only[nU,nS,aI]
 walk_at "dl"
 refine⟨AAZ _,λ_=>?_⟩
 have hlen:∀qs az,ps=qs++az->(ap qs).length<=12:=λqs az e=>by
  have l:=dR (ps:=qs) λp hp=>few.2 p (by rw[e];simp[hp])
  have l0:ps.length=qs.length+az.length:=by rw[e];simp
  have:=few.1
  lia
 refine cu (λys S M'=>∃qs az a b q L,ps=qs++az/\ys=az.map aX/\M'=[mo]++L/\M'[q]?=some (.lst (ap qs))/\S=[some (.ref 0),some (aI ps rs),some (.ref q),a,b,none,none,none,none,none,none,none]) ?_ ?_ _ _ _ ⟨[],ps,_,_,1,[.lst []],rfl,rfl,rfl,rfl,rfl⟩
 ·rintro S M' ⟨qs,az,a,b,q,L,e,hq,rfl,gL,rfl⟩
  have:az=[]:=by cases az with | nil=>rfl | cons _ _=>cases hq
  subst this
  rw[AAw]at e
  subst e
  exact⟨trivial,law_3 ok few h8 (hL0 L) h63 (.inl gL) (λM'=>.inl (h M'))⟩
 ·rintro y ys S M' ⟨qs,az,a,b,q,L,e,hq,rfl,gL,rfl⟩ G hG
  cases az with
  | nil=>cases hq
  | cons p az =>
   rw[AAQ]at hq
   injection hq with q1 q2
   subst q1
   refine⟨trivial,?_⟩
   obtain⟨m0,m3⟩:=few.2 p (by rw[e];simp)
   have l12:=hlen qs (p::az) e
   unfold aX
   walk_at "dl"
   refine⟨trivial,⟨by lia,by lia⟩,?_⟩
   refine bY (λk=>.tup [.str p.1,k]) (λS=>∃a,S=[a,some (.str p.1)]) trivial _ _ _ ?_ ⟨_,rfl⟩ (by rw[AAk,au];exact ae (by lia)) ?_
   ·rintro d hd S ⟨a,rfl⟩
    refine⟨[some d,some (.str p.1)],⟨_,rfl⟩,λY hY=>?_⟩
    walk_at "dl"
    exact⟨ae (by decide),hY⟩
   rw[AB2]
   have el:((dI 0 p.2.toNat).map λk=>D.tup [.str p.1,k]).length<=3:=by rw[AA6,au];lia
   refine⟨_,_,bi gL,av,ae (by lia),Fgt.now (hG _ _ ⟨qs++[p],az,_,_,_,L++[_]++[_],by rw[e];simp,q2,rfl,?_,rfl⟩)⟩
   show ((mo::L)++[_]++[MO.lst _])[((mo::L)++[_]).length]?=_
   rw[av]
   unfold ap
   rw[List.flatMap_append]
   simp[bR]
theorem ok_law(T:Tops P w K mg base)(F:Fun K "law" "law" (top 38) f fd):FnOk P w K mg base CX0 7 f fd uG (spL K va) :=
 su (N:=["_law_script","_law_house_here","_law_hands","_law_name","_law_many","_law_cell","_law_hand","_law_stamp","_law_text_here","_law_rest","_law_some","_law_other"]) T.b F (by walk_at "sc") uX (by have:=ii T;have:=mO T;have:=rE T;have:=kG T 5;have:=uL T;have:=mL T;have:=rC T;walk_at "dv") wF
end
end LW
namespace PySem.W.Fast
def tw10078466434460422752:=Nat
def tw10104630246703335254:=Nat
def tw10148989683355858841:=Nat
def tw10315795781550905906:=Nat
def tw10366166357917898060:=Nat
def tw10400232452171948243:=Nat
def tw10441675034578566474:=Nat
def tw104459990772508598:=Nat
def tw10594170299867770626:=Nat
def tw10709243711254522909:=Nat
def tw1075206409833919725:=Nat
def tw10805676301488249422:=Nat
def tw10816219379366290902:=Nat
def tw10847770873200675016:=Nat
def tw10931261507896493496:=Nat
def tw10984121542329628685:=Nat
def tw10988670079420869529:=Nat
def tw11034085343594609732:=Nat
def tw11036826266205319428:=Nat
def tw11137874105875823798:=Nat
def tw11162286584310127336:=Nat
def tw11173483148799383095:=Nat
def tw11181934934741016377:=Nat
def tw11316155885957397671:=Nat
def tw11552025843291541709:=Nat
def tw11592683970373424388:=Nat
def tw1163437988367506902:=Nat
def tw11811873203620537322:=Nat
def tw11854949524660310438:=Nat
def tw11863560558425571995:=Nat
def tw11928305596706146789:=Nat
def tw11948621540691498349:=Nat
def tw11969417103890385529:=Nat
def tw12105861017121939138:=Nat
def tw12125096838189614509:=Nat
def tw12126762832402895875:=Nat
def tw12232382468394351248:=Nat
def tw12244116828864837480:=Nat
def tw12282547006275971489:=Nat
def tw12383272736187177914:=Nat
def tw12566380994063717274:=Nat
def tw12598197160644882813:=Nat
def tw12652600407898944294:=Nat
def tw12689721338996042102:=Nat
def tw12786948049219940133:=Nat
def tw12814044858848450792:=Nat
def tw12862777277631950700:=Nat
def tw13069216164169321991:=Nat
def tw13112027285251861300:=Nat
def tw13152814874762174601:=Nat
def tw13178920798549050811:=Nat
def tw13196841905188834841:=Nat
def tw13222088038071795973:=Nat
def tw13245945518362375043:=Nat
def tw13261665958680469960:=Nat
def tw13279836981875151790:=Nat
def tw13312476589149046967:=Nat
def tw13314668967028834614:=Nat
def tw13324669053369125854:=Nat
def tw13427461533597985755:=Nat
def tw13456473931526873113:=Nat
def tw13533592457133271122:=Nat
def tw13599855765601005483:=Nat
def tw13609760503280140654:=Nat
def tw13707659146799859580:=Nat
def tw13717428291856689445:=Nat
def tw137800857721928027:=Nat
def tw13840585991212997733:=Nat
def tw13881578779001290637:=Nat
def tw14075584075191333698:=Nat
def tw1416572011637391949:=Nat
def tw14186858238269710924:=Nat
def tw14314287827263353235:=Nat
def tw14393091673328772329:=Nat
def tw14466331546839956445:=Nat
def tw14601125058290253282:=Nat
def tw14671965741451956056:=Nat
def tw14676823102011190076:=Nat
def tw14707025163901095145:=Nat
def tw14820461690863538351:=Nat
def tw14866188164163470691:=Nat
def tw14879536671992071931:=Nat
def tw1494352105444045204:=Nat
def tw15156523091945796076:=Nat
def tw15167670527377348750:=Nat
def tw15268668547064756513:=Nat
def tw15294846842180531744:=Nat
def tw15295218249097226525:=Nat
def tw15322433697291382352:=Nat
def tw15347812713035240178:=Nat
def tw15422584291768431593:=Nat
def tw1548240872173600205:=Nat
def tw15563360738955102821:=Nat
def tw15578746575466371517:=Nat
def tw15735686001789509709:=Nat
def tw15751179488374190440:=Nat
def tw15835287948531662242:=Nat
def tw15871165330265194603:=Nat
def tw15938010008652987727:=Nat
def tw16095942676484738714:=Nat
def tw16164421339860950541:=Nat
def tw16181071974827420468:=Nat
def tw16202839571936572058:=Nat
def tw1631474090833373527:=Nat
def tw16411765612984102760:=Nat
def tw16497208515481860904:=Nat
def tw16510999054757111474:=Nat
def tw16517764361101414372:=Nat
def tw16527213801238106322:=Nat
def tw16588838217047197594:=Nat
def tw165938130742243608:=Nat
def tw1660333374803670764:=Nat
def tw16720926780699226518:=Nat
def tw16732035918309954393:=Nat
def tw16814744392493987413:=Nat
def tw16896239100217413035:=Nat
def tw17099018080483642792:=Nat
def tw17191274890615714219:=Nat
def tw17200826383926031043:=Nat
def tw17298458121084680510:=Nat
def tw17412529139750920615:=Nat
def tw17467679616929555900:=Nat
def tw17568142628833264607:=Nat
def tw1774314018403261523:=Nat
def tw1780681927909984845:=Nat
def tw17852595382471142722:=Nat
def tw17883107636584700321:=Nat
def tw18001364705959444543:=Nat
def tw18143019567033546839:=Nat
def tw18147447761183625691:=Nat
def tw18442522013073630916:=Nat
def tw1880932811459366368:=Nat
def tw2226467870094810186:=Nat
def tw2227201176500438350:=Nat
def tw2244438759910921949:=Nat
def tw2297692117178137893:=Nat
def tw2299080368698589682:=Nat
def tw2381754159352996730:=Nat
def tw2534212913380746915:=Nat
def tw2544468328624361141:=Nat
def tw2562130750002733562:=Nat
def tw2564221542211074749:=Nat
def tw2564370993763522610:=Nat
def tw2674647877890254197:=Nat
def tw2697831510814413410:=Nat
def tw2940976968331441902:=Nat
def tw2994742801408709402:=Nat
def tw3014685315235221163:=Nat
def tw3183289116765511168:=Nat
def tw3201855585969009383:=Nat
def tw3210475270592835728:=Nat
def tw338506389089566553:=Nat
def tw3627599411047903160:=Nat
def tw3639932840045319328:=Nat
def tw3665974384192589314:=Nat
def tw3756015230014441352:=Nat
def tw3789545765290215283:=Nat
def tw3793240243178162983:=Nat
def tw3801672663796092263:=Nat
def tw3948376416793000335:=Nat
def tw4220035008322967289:=Nat
def tw4272789669084292860:=Nat
def tw4334545389763140233:=Nat
def tw4485417891326738105:=Nat
def tw4603437559655333647:=Nat
def tw4639395506011874908:=Nat
def tw4704485577980957158:=Nat
def tw4785818587164448678:=Nat
def tw4835800627753210184:=Nat
def tw4880958990482028239:=Nat
def tw4940258133973913077:=Nat
def tw5067119660789327655:=Nat
def tw5144111236602454413:=Nat
def tw5243074987413709902:=Nat
def tw5304645740008267758:=Nat
def tw5369344199219260:=Nat
def tw5500919714725311262:=Nat
def tw5558212754714562824:=Nat
def tw5786380811913309549:=Nat
def tw5860462751597640214:=Nat
def tw5913902801725381768:=Nat
def tw5951877104461587419:=Nat
def tw5953099673010224802:=Nat
def tw5978108462760762044:=Nat
def tw6161412776004779784:=Nat
def tw6327327048158487301:=Nat
def tw6350503343168097014:=Nat
def tw6399477115152848652:=Nat
def tw6446808954462714433:=Nat
def tw6632447988785249249:=Nat
def tw6639682662854336803:=Nat
def tw664427410005436710:=Nat
def tw6661444884074306472:=Nat
def tw6770183936298838470:=Nat
def tw6803282883145863579:=Nat
def tw6803411629068739896:=Nat
def tw68149144575483742:=Nat
def tw6866241405326577467:=Nat
def tw7006679542413133120:=Nat
def tw7024278984308972637:=Nat
def tw7024861712773828821:=Nat
def tw7033794042551315785:=Nat
def tw7055979388928638953:=Nat
def tw7056417431644679628:=Nat
def tw7071112754326813454:=Nat
def tw7246253966692215781:=Nat
def tw7314374491378512659:=Nat
def tw7648190755726694747:=Nat
def tw7657456168253373761:=Nat
def tw771016278332775375:=Nat
def tw7788280295698342353:=Nat
def tw781267302733236109:=Nat
def tw7858360373266886846:=Nat
def tw7920325840446089495:=Nat
def tw7962434793757111831:=Nat
def tw8085834226364887194:=Nat
def tw8113265890537362377:=Nat
def tw8185554257118534243:=Nat
def tw8192933588477618346:=Nat
def tw8260080667941319363:=Nat
def tw8266578534770010881:=Nat
def tw8363002315333567846:=Nat
def tw8407997622621381581:=Nat
def tw8439400101757586326:=Nat
def tw8451681738143114763:=Nat
def tw8479589981965949936:=Nat
def tw8501995896811456332:=Nat
def tw8537660642863046477:=Nat
def tw8627140338354670083:=Nat
def tw864267871151293371:=Nat
def tw86454969999956884:=Nat
def tw8666900155120684848:=Nat
def tw8670127327751279576:=Nat
def tw876227697501262622:=Nat
def tw8782654787830569429:=Nat
def tw8869880523626360898:=Nat
def tw8957657275150300147:=Nat
def tw8995770346138755899:=Nat
def tw9098140644693849146:=Nat
def tw9110647630595614481:=Nat
def tw9136974125467529427:=Nat
def tw9245836828161177078:=Nat
def tw9318933973653479330:=Nat
def tw956819963514998539:=Nat
def tw9736210878654504124:=Nat
def tw982923890956892497:=Nat
def tw9904407603864643505:=Nat
def tw9907830489429357034:=Nat
def tw9916844846708406490:=Nat
def tw9920186868893591239:=Nat
end PySem.W.Fast
theorem L2.us1{P:List ACo->Prop}(h:∀a0,P [a0]):∀us:List ACo,us.length=1->P us
 | [a0],_=>h a0
theorem L2.us2{P:List ACo->Prop}(h:∀a0 a1,P [a0,a1]):∀us:List ACo,us.length=2->P us
 | [a0,a1],_=>h a0 a1
theorem L2.us3{P:List ACo->Prop}(h:∀a0 a1 a2,P [a0,a1,a2]):∀us:List ACo,us.length=3->P us
 | [a0,a1,a2],_=>h a0 a1 a2
local macro_rules | `(tactic| walk_at "fk")=>`(tactic| ((case a=>k_is);(case l=>k_is);(case c=>k_is);(case k=>k_is)))
local macro_rules | `(tactic| walk_at "f1")=>`(tactic| (refine' L2.fnat_mk (by assumption) (by assumption) ?a ?l ?c ?k (λ_ _ _ _ _ _=>L2.us1 (λ_=>rfl));walk_at "fk"))
local macro_rules | `(tactic| walk_at "f2")=>`(tactic| (refine' L2.fnat_mk (by assumption) (by assumption) ?a ?l ?c ?k (λ_ _ _ _ _ _=>L2.us2 (λ_ _=>rfl));walk_at "fk"))
local macro_rules | `(tactic| walk_at "f3")=>`(tactic| (refine' L2.fnat_mk (by assumption) (by assumption) ?a ?l ?c ?k (λ_ _ _ _ _ _=>L2.us3 (λ_ _ _=>rfl));walk_at "fk"))
open PySem PySem.W PyProof.Rows
set_option maxRecDepth 100000 in
set_option maxHeartbeats 0 in
theorem PySem.Challenge.cw_talkmarks_k80_stamps_written_and_read_holds : PySem.Challenge.rw_talkmarks_k80_stamps_written_and_read.Holds := by
 w_on; o_law; k_head; (case hw=>w_witness2)
 k_fill
 refine L2.law_walk (l:=PySem.Challenge.rw_talkmarks_k80_stamps_written_and_read) (k:=7) (st:=LW.top 38) (x:="_law_script") rfl rfl rfl ⟨rfl,by decide,by decide⟩ (fun w h Y=>PySem.W.kIn_of Y) ?F (fun _ _ _ _ _ _ _=>rfl)
 case F =>
  intro w mg h KX G
  have T:∀ P base,LW.Tops P w (L2.KOf KX) mg base:=by
   intro P base
   dsimp only [L2.KOf]
   constructor
   ·walk_at "f1"
   ·walk_at "f1"
   ·walk_at "f1"
   ·walk_at "f2"
   ·walk_at "f1"
   ·walk_at "f1"
   ·walk_at "f2"
   ·walk_at "f2"
   ·walk_at "f2"
   ·walk_at "f2"
   ·walk_at "f1"
   ·walk_at "f1"
   ·walk_at "f1"
   ·walk_at "f2"
   ·walk_at "f1"
   ·walk_at "f1"
   ·walk_at "f3"
   ·walk_at "f2"
   ·walk_at "f2"
   ·walk_at "f1"
   ·refine' L2.globS_mk KX G ?tr ?ts; (case tr=>k_is); (case ts=>exact ⟨_,rfl⟩)
   ·unfold LW.B_ LW.C_
    iterate 11 (refine' L2.TopB.b ?tq ?_; (case tq=>refine' PySem.W.mg_none_of KX G ?tr; (case tr=>k_is)))
    iterate 1 (refine' L2.TopB.c ?tq ?_; (case tq=>refine' L2.glob_mk KX G ?tr ?ts; (case tr=>k_is); (case ts=>exact ⟨_,rfl⟩)))
    exact .nil
   ·kernel_rfl
  exact ⟨(T PySem.Challenge.pw_talkmarks_k80_stamps_written_and_read {}).f_law,fun base f fd F=>LW.ok_law (T _ base) F⟩
