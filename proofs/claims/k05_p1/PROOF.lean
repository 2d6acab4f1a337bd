import PyProof.Rows.All
import Wide.All
import OpenK.AllK
import Wide.FinOn
import Lean
import PyProof.EqAt
import PyProof.EqKinds
import PyProof.TupleCall
import PyProof.CompFree
import PyProof.NeKinds
import KE.KSortTup
import KE.KRevSl
import KE.KDictSum
import KE.KEqDict
import PyProof.Conv_int_bool
import PyProof.AttrMissHeap
import KE.KLam
import KE.KRevIter
import KE.KTryMore
import PyProof.ExcArgsOwn
import PySem.Challenge.RW_talkmarks_k05_houses_made
open PySem renaming wpAny_bind->t4,wpAny_pure->u5,Spec->AA8,wpAny_newObj_type->KJ,wpAny_mono->D3,wpAny_field->F6,wpAny_callSpecial?_slot->LZ,wpAny_call_entry->K6,wpAny_holding->J6,wpAny_setState_of->LS,wpAny_setField->Lr,sizeLine_eq->KW,mem_of_lookup->MT,wpAny_seqItems->LG,wpAny_Call_Name_kw->MR,wpAny_ite_split->Mu,wpAny_truthy_bool->Nl,codeAny_builtin->MM,wpAny_attempt->Ms,wpAny_askSetting->NG,codeAny_mono->Mq,wpAny_newList->MK,wpAny_setField_rec->Oh,wpAny_setEntries_of->OV,wpAny_forIn_list->N9,wpAny_isInstance->N8,wpAny_execs_nil->N7,wpAny_loadPart'->QS,wpAny_typeOf->Nb,wpAny_specialOf->N6,wpAny_pyIter_list->OQ,wpAny_newFunctionEnv_cells->QE,wpAny_comprehension_free->Qz,wpAny_passesOwn->OL,wpAny_pyIter_tuple->Pv,codeAny_compStart_list->Qw,wpAny_rule->M9,eqIsQuiet_byValue->Po,wpAny_newTuple->OI,wpAny_execs_cons->Pm,wpAny_onRaise->OE,plainId_quiet->OD,Value->AEL
open PySem.Heap renaming get?_push_of_some->w5,get?_push_size->B6,lt_size->z8,get?_update_self->Lu,size_push->KG,get?_update_other->MB,get?_update_ne->My,SameBut->NB,size_update->Pl,MadeExcOf->Pd
open PySem.W renaming Frag->u6,hideAll->KZ,kitOne->Ll,nsIn->LF,keepIn->Mt,kas_desc->KC,findIn->ML,fnOf->Mf,cellsFrom_some->PJ,of_hideAll->OT,excIn->NC,kas_rev->Lb,kas_place->Mc,hideAll_get->Px,kas_sort->LP,kas_asc->Lp,codeIn->OJ,kas_descPart->N0,hideAll_none->Qq,mg_of->OF,callWith_K->Qh,exmOne->Pc,methodObj->Qe
open List renaming getElem?_eq_getElem->A1,length_map->v5,getElem?_eq_some_iff->B5,all_eq_true->z5,size_toArray->A5,mem_cons->z7,mem_cons_self->A9,mem_cons_of_mem->C4,mem_map->w9,mem_append_right->E3,getD_eq_getElem?_getD->G8,getElem?_append_left->G4,length_append->E2,length_cons->D4,map_cons->B9,append_assoc->F0,getElem?_map->F5,map_map->B8,nil_append->E9,mem_of_getElem?->Kw,prefix_append->Kv,getElem?_set_ne->KO,range->B7,mem_singleton->Ky,mem_range->G1,length_nil->Ix,getElem?_set_self->Lj,getElem?_append_right->LK,mem_append->J7,nodup_iff_pairwise_ne->L5,replicate->J0,getElem_mem->KI,pairwise_map->K0,nodup_cons->KN,getElem?_cons_zero->LY,cons_lt_cons_iff->LX,length_take->Li,length_set->Ld,prefix_rfl->Lc,getElem?_of_mem->LV,all_cons->KL,getElem?_cons_succ->MC,append_nil->Lh,map_congr_left->LU,all_map->KD,not_mem_nil->Ls,cons_append->LH,getElem?_eq_none->MU,filterMap_cons->MA,replicate_succ->Mz,map_id->KU,getElem?_take_of_lt->NM,lookup_cons->Mx,take_length->Mw,replicate_zero->Nm,map_append->Mv,mem_append_left->NK,length_drop->MQ,toArray->LC,length->Lq,length_singleton->Oj,zip_cons_cons->NI,pairwise_singleton->OX,map_nil->Me,mem_filter->Nk,find?_cons->Nj,pairwise_iff_getElem->PL,take_sublist->Of,flatten_cons->Oe,length_range->Ob,getElem?_replicate->PK,mem_filterMap->OS,pairwise_cons->OR,length_replicate->PC,mem_of_mem_take->Py,lt_irrefl->N5,getElem_map->OP,any_eq_true->OO,nodup_range->ON,of_mem_zip->OK,getElem?_drop->Pu,take_of_length_le->Qv,drop_of_length_le->Qu,nodup_append->Pq,nodup_nil->OH,getElem?_toArray->Qt,take_append_drop->Qr,mem_of_mem_drop->Qp,set_append_left->Qo,any_cons->OG,forIn_cons->Pj,getElem?_range->Qn,toList_toArray->Qm,mem_map_of_mem->Ql
open Bool renaming and_eq_true->A2,false_eq_true->C8,eq_false_iff->Mi,not_true->Mg,false_ne_true->NJ,eq_iff_iff->NF,true_and->Nf,or_eq_true->Pi,false_and->Pf
open Nat renaming le_refl->v7,ne_of_lt->A4,lt_of_lt_of_le->E5,zero_le->B0,lt_irrefl->E8,lt_succ_self->K5,le_trans->KY,lt_succ_of_lt->Mj,sub_self->LD,not_lt_zero->MP,lt_or_ge->LQ,le_of_lt->Mr,lt_trichotomy->Oc,le_add_right->Oa,ne_of_gt->Nc,not_lt->Mp,le_of_ble_eq_true->Qs,le_succ->NY
open PySem.Str renaming ofString->x9,empty->M8
open Option.some renaming inj->C1
open Array renaming length_toList->G7,getElem?_eq_some_iff->Ln,getElem?_toList->K2,getElem?_eq_getElem->Lm,getD_eq_getD_getElem?->No,getD->LB,forIn_toList->Og,getElem?_eq_none->PF,append_assoc->Qi
open PySem.SetTable renaming below->G0,runEnd->KM,bits->Mh,leap->MI,Probe->Nh,grown->ND,turns->N4,fits->N1,insertAt->Pp,sizeAbove->Qf,fill->O8
open Int renaming emod_lt_of_pos->K1,emod_nonneg->KH,toNat_natCast->LJ,zero_add->NZ
open PyProof.Rows renaming slot_tuple_getitem->MV,callWith_type1->Ol,get?_update_seq->MN,listUpdate_at->MJ,envOfC->OU,listItems_at->NA,seqEpoch_at->Nz,entry_list_sort->Ph
open Classical renaming byContradiction->MD
open Ne renaming symm->A8
open PySem.Obj renaming mapSeq->F9,data_mapFields->Oi,mapFields->Nd,isFreed_of_fields->PB,putSet->NV
open PySem.Value renaming none->G6,ref->F8,type->MH,builtin->OC,bool->NX
open False renaming elim->H9
open PySem.Builtin.SmallTypes renaming nextOf->Nn,ownedTupleIsFree->PU,ownedTupleHandOut->QR
open PySem.NameKind renaming free->Lg,cell->Ng
open Option renaming join_some->LR,map_eq_some_iff->PH,getD_some->OM,isSome_iff_exists->QC
open PySem.Builtin.Slice renaming slicePlaces->NN,sliceApplied->PQ,sliceAdjust->QD,sliceFields->QP
open PySem.Builtin.Tuple renaming tupleExact->NL,tupleItemsOf->PN,tupleHashOf->PM
open PySem.Heap.SameBut renaming update->MS
open Sum renaming inr->AC6
open PySem.SetTable.below renaming go->NH
open PySem.Builtin.List renaming listExtendWith->PR,listFitsIndex->ADF,listTooLong->QA,listLengthHint->QQ
open List.Perm renaming refl->Ni,cons->Pe
open PySem.Around renaming under_plainId->OW
open List.Pairwise renaming nil->Od
open List.cons renaming injEq->NE,inj->O9
open PySem.SeqAt renaming EqAt->Md
open PySem.SetTable.layClean renaming free->PD
open PySem.F renaming args_tuple_add_2->QB,entry_tuple_add->Qy,slot_tuple_add->Qx
open PySem.Calls renaming spliced_cons->Pw
open True renaming intro->Na
open ForInStep renaming yield->Pk
open StateT renaming run_pure->Pg
open PySem.SeqAt.EqAt renaming int_str->Qk,str_int->Qj
open PySem.Heap.IsSliceOf renaming new->Qg
open PyProof.Rows.SortSt renaming mk'->NW
open PySem.W.UpdF renaming head->Ny
open PySem.SetTable.probe renaming go->Qd
open And renaming intro->Nx
open PySem.Paired renaming length->Pb
open Option renaming some->a7,none->a8
open Bool renaming true->a9,false->c5
open PySem renaming Value->c6,Str->c8,World->c9,Program->d5,Addr->d6,Obj->d7,Heap->d8,sysModules->d9,mainGlobals->f6,bootBuiltins->f7,Around->f8,Shared->f9,Env->g7,Scope->g8,wpAny->i0,Expr->i3,model->i4,Pos->i5,backTo->i6,starEach->i7,Stmt->i8,holding->i9,swapsWith->j0,assign->j2,assignEach->j3,pyNext->j4,letOwnedTupleGo->j5,pyIter->j6,rawInt->j7,foldedSetIterable->j8,binaryOp->j9,compareOp->k4,behindInMarks->k6,cLine->k7,FuncData->k8,codeAny->k9,wpAny_call->l5,NameKind->l6,leaving->l8,IsPart->l9,getItem->m5,sliceBounds->m6,noteFrame->m7,compEnvC->m9,firstArgMember->n6,IsPair->n9,pickOrder->o0,SetTable->o5,codeAmong->o7
open PyProof.Rows renaming envOfC->c7,AllBare->g9,seqObj->n4
open PySem.W renaming kas_ask->n5,kla_obj->o6
set_option autoImplicit true
set_option relaxedAutoImplicit true
set_option compiler.extract_closed false
set_option Elab.async false
set_option linter.all false
set_option maxRecDepth 100000
theorem b0{p:Prop}(h:p:=by decide):p:=h
theorem b7{p:Prop}(h:p:=by lia):p:=h
theorem b8{p:Prop}(h:p:=by k_dflt assumption):p:=h
theorem b9{p:Prop}(h:p:=by simp):p:=h
theorem cP{p:Prop}(h:p:=by walk_at"gm"):p:=h
theorem c4{p:Prop}(h:p:=by simp;lia):p:=h
theorem dz{p:Prop}(h:p:=by walk_at"sc"):p:=h
theorem dO{p:Prop}(h:p:=by decide +kernel):p:=h
theorem dV{p:Prop}(h:p:=by walk_at"tb"):p:=h
theorem d4{p:Prop}(h:p:=by walk_at"dv"):p:=h
theorem ee{p:Prop}(h:p:=by walk_at"pp"):p:=h
theorem eh{p:Prop}(h:p:=by simpa using f):p:=h
theorem el{p:Prop}(h:p:=by rw[v5];lia):p:=h
def o8:=@if_pos
def p0:=@if_neg
def p5:=@absurd
def p6:=@decide_eq_true_eq
def p7:=@beq_iff_eq
def p8:=@if_false
def p9:=@if_true
def q9:=@congrArg
def r9:=@beq_self_eq_true
-- CHANGE: your row's module here,as the last of these rows
def dF_{p:Prop}[Decidable p](h:¬p):decide p=c5:=decide_eq_false h
def dT_{p:Prop}[Decidable p](h:p):decide p=a9:=decide_eq_true h
namespace L2
open PySem PySem.Spec PyProof.Rows
noncomputable abbrev E1:=Sum Int c8
noncomputable def vD:E1->c6->Bool
 |.inl k,v=>Value.isInt k v
 |.inr x,v=>Value.isStrOf x v
noncomputable def keyH(w:c9):E1->Int
 |.inl k=>hashInt k
 |.inr x=>hashStr w x
def bo:∀{k:E1}{v:c6},vD k v=a9->(∃i t,k=Sum.inl i/\v=Value.int i t)\/(∃x t,k=AC6 x/\v=Value.str x t)
 |.inl i,v,h=>by obtain⟨t,e⟩:=Value.isInt_shape (k:=i) (v:=v) h;exact .inl ⟨i,t,rfl,e⟩
 |.inr x,v,h=>by obtain⟨t,e⟩:=Value.isStrOf_shape (x:=x) (v:=v) h;exact .inr ⟨x,t,rfl,e⟩
def Ax(i:Int)(t:Tok):vD (.inl i) (.int i t)=a9:=by simp[vD,Value.isInt]
def Aw(x:c8)(t:Tok):vD (.inr x) (.str x t)=a9:=by simp[vD,Value.isStrOf]
def Ja(a b:Int):decide ((Sum.inl a:E1)=Sum.inl b)=(a==b):=by by_cases e:a=b;subst e;simp;have h:¬(Sum.inl a:E1)=Sum.inl b:=λq=>e<|Sum.inl.inj q;rw[dF_ h];exact(beq_eq_false_iff_ne.mpr e).symm
def Em(a b:c8):decide ((AC6 a:E1)=AC6 b)=decide (a=b):=by by_cases e:a=b;subst e;simp;have h:¬(AC6 a:E1)=AC6 b:=λq=>e<|Sum.inr.inj q;rw[dF_ h,dF_ e]
def IZ(a:Int)(b:c8):decide ((Sum.inl a:E1)=AC6 b)=c5:=dF_<|λq=>nomatch q
def IY(a:c8)(b:Int):decide ((AC6 a:E1)=Sum.inl b)=c5:=dF_<|λq=>nomatch q
noncomputable def cx(prog:d5)(w:c9):PySem.KeyKind prog w E1 where
 is:=vD
 hash:=keyH w
 inj:=λv a b f d=>by
  rcases bo f with⟨i,t,rfl,rfl⟩|⟨x,t,rfl,rfl⟩
  rcases bo d with⟨j,u,rfl,e⟩|⟨y,u,rfl,e⟩
  injection e with e1 _;rw[e1];exact nomatch e
  rcases bo d with⟨j,u,rfl,e⟩|⟨y,u,rfl,e⟩
  exact nomatch e
  injection e with e1 _;rw[e1]
 byValue:=λk v h=>by rcases bo h with⟨i,t,rfl,rfl⟩|⟨x,t,rfl,rfl⟩<;>rfl
 pyHash:=λc h=>by
  rcases bo c with⟨i,t,rfl,rfl⟩|⟨x,t,rfl,rfl⟩
  exact wpAny_pyHash_int h;exact wpAny_pyHash_str h
 eqBool:=λg c h=>by
  rcases bo g with⟨i,t,rfl,rfl⟩|⟨x,t,rfl,rfl⟩
  rcases bo c with⟨j,u,rfl,rfl⟩|⟨y,u,rfl,rfl⟩
  rw[Ja]at h;exact wpAny_eqBool_int h;rw[IZ]at h;exact Qk i t y u _ _ _ _ h;rcases bo c with⟨j,u,rfl,rfl⟩|⟨y,u,rfl,rfl⟩
  rw[IY]at h;exact Qj x t j u _ _ _ _ h;rw[Em]at h;exact wpAny_eqBool_str h
 «strs»:=λk x t v h=>by
  rcases bo h with⟨i,u,rfl,e⟩|⟨y,u,rfl,e⟩
  exact nomatch e
  injection e with e1 _;subst e1;cases v<;>rfl
def vj(prog:d5)(w:c9)(i:Int)(t:Tok):(cx prog w).is (.inl i) (.int i t)=a9:=Ax i t
def vh(prog:d5)(w:c9)(x:c8)(t:Tok):(cx prog w).is (.inr x) (.str x t)=a9:=Aw x t
inductive V where
 |non|bl (b:Bool)|int (i:Int)|str (x:c8)|byt (b:Array UInt8)|flt (b:UInt64)|ref (a:d6)|ty (n:String)
 deriving DecidableEq
def aR:V->c6->Prop
 |.non,u=>u=G6
 |.bl b,u=>u=NX b
 |.int i,u=>∃t,u=Value.int i t
 |.str x,u=>∃t,u=Value.str x t
 |.byt b,u=>∃t,u=Value.bytes b t
 |.flt b,u=>∃t,u=Value.float b t
 |.ref a,u=>u=F8 a
 |.ty n,u=>u=MH n
abbrev az:List V->List c6->Prop:=Paired aR
def az.length(r:az xs us):xs.length=us.length:=Pb r
def az.get:∀{xs:List V}{us:List c6}{i:Nat}{x:V},az xs us->xs[i]?=a7 x->∃u,us[i]?=a7 u/\aR x u
 |_,_,_,_,.nil,e=>by simp at e
 |_,_,0,_,.cons r _,e=>by simp at e;subst e;exact⟨_,rfl,r⟩
 |_,_,i+1,x,.cons _ t,e=>by obtain⟨u,h1,h2⟩:=az.get (i:=i) (x:=x) t (by simpa using e);exact⟨u,by simpa using h1,h2⟩
def az.set(r:aR x u):∀{xs:List V}{us:List c6} (i:Nat),az xs us->az (xs.set i x) (us.set i u)
 |_,_,_,.nil=>.nil
 |_,_,0,.cons _ t=>.cons r t
 |_,_,i+1,.cons q t=>.cons q<|az.set r i t
def az.append(h:az xs us)(s:az ys ws):az (xs++ys) (us++ws):=by
 induction h with
 |nil=>exact s
 |cons r t i=>exact .cons r i
def az.take:∀{xs:List V}{us:List c6} (n:Nat),az xs us->az (xs.take n) (us.take n)
 |_,_,0,_=>.nil
 |_,_,_+1,.nil=>.nil
 |_,_,n+1,.cons r t=>.cons r<|az.take n t
def az.drop:∀{xs:List V}{us:List c6} (n:Nat),az xs us->az (xs.drop n) (us.drop n)
 |_,_,0,r=>r
 |_,_,_+1,.nil=>.nil
 |_,_,n+1,.cons _ t=>az.drop n t
def yE:Option V->Option c6->Prop
 |some v,a7 u=>aR v u
 |none,a8=>True
 |_,_=>False
def KV{κ:Type}:List (κ×V)->List (κ×c6)->Prop:=Paired λ(p:κ×V) (q:κ×c6)=>p.1=q.1/\aR p.2 q.2
noncomputable def kV:E1->V
 |.inl i=>.int i
 |.inr x=>.str x
inductive HO where
 |lst (xs:List V)
 |tup (xs:List V)
 |dK (kvs:List (E1×V))|dT (kvs:List (List E1×V))
 |set (S:Int->Bool) (n:Nat)
 |ins (C dx:d6) (fs:List (c8×V))
 |own (x:d6)
 |xd (fs:List (c8×V))
 |met (f x:d6)
 |rng (lo hi:Int)
 |frz (o:d7) (u:HO)
 |tbl (ps:Array c6)
 |ext (φ:d5->c9->d8->Prop)
abbrev Hp:=d6->Option HO
noncomputable def v8(H:Hp)(a:d6)(o:HO):Hp:=λb=>if b=a then a7 o else H b
def aI:v8 H a o a=a7 o:=by unfold v8;rw[o8 rfl]
def am(h:b≠a):v8 H a o b=H b:=by unfold v8;rw[p0 h]
def ne_of{H:Hp}{a b:d6}{o u:HO}(h:H a=a7 o)(h':H b=a7 u)(d:o≠u):a≠b:=by intro e;subst e;rw[h]at h';exact d<|C1 h'
def ad{H:Hp}{a b:d6}{o:HO}(h:H a=a7 o)(h':H b=a8):a≠b:=by intro e;subst e;rw[h]at h';cases h'
section
variable(P:d5)(w:c9)
def DM(h:d8)(a:d6)(s:Array c6):Prop:=∃o,h.get? a=a7 o/\o.cls=.type "tuple"/\(∃n,o.data=.seq s n)/\o.dict=a8
def DM.tup:DM h a items->IsTup h a items:=λ⟨o,e,c,⟨n,d⟩,_⟩=>⟨o,e,c,n,d⟩
def DM.new(h:d8)(s:Array c6):DM (h.push { cls:=.type "tuple",data:=.seq s }) h.objs.size s:=⟨_,B6 _ rfl,rfl,⟨_,rfl⟩,rfl⟩
def cB(H:Hp)(h:d8)(a:d6):HO->Prop
 |.lst xs=>xs.length<=sizeLine/\∃(its:List c6) (n:Nat),az xs its/\h.get? a=a7 { cls:=.type "list",data:=.seq its.toArray n }
 |.tup xs=>xs.length<=sizeLine/\∃its:List c6,az xs its/\DM h a its.toArray
 |.dK kvs=>kvs.length<=sizeLine/\(a==d9)=c5/\∃vs,KV kvs vs/\h.DictOf (cx P w) a vs
 |.dT kvs=>kvs.length<=sizeLine/\(a==d9)=c5/\∃xs:List (List E1×d6×c6),Paired (λ(p:List E1×V) (q:List E1×d6×c6)=>p.1=q.1/\H q.2.1=a7 (.tup<|p.1.map kV)/\aR p.2 q.2.2) kvs xs /\∃o es ep,h.get? a=a7 o/\o.ExactDict/\o.data=.dict es ep/\es.toList=xs.map (entryOfKey<|tupleKind<|cx P w)/\(xs.map (·.1)).Nodup
 |.set S n=>h.SetOf (intKind P w) a S n
 |.ins C dx fs=>H dx=a7 (.own a)/\fs.length<=1000/\dx≠a/\h.get? a=a7 (PySem.W.instObj C dx) /\∃mA,h.Ns1 dx mA/\(∀f,yE (fs.lookup f)<|mA f)/\PySem.Within mA (fs.map (·.1))
 |.own _=>∃o,h.get? a=a7 o
 |.xd fs=>∃mA,h.Ns1 a mA/\∀f,yE (fs.lookup f)<|mA f
 |.rng lo hi=>∃t u v,h.get? a=a7 { cls:=.type "range",data:=.fields #[.int lo t,.int hi u,.int 1 v] }
 |.frz o u=>h.get? a=a7 o/\cB H h a u
 |.tbl ps=>h.get? a=a7 { cls:=.none,data:=.fields ps }
 |.met f x=>h.get? a=a7 (Qe (.ref f)<|.ref x)
 |.ext φ=>φ P w h/\(∃o,h.get? a=a7 o)/\∀h1 h2:d8,φ P w h1->(∀o,h1.get? a=a7 o->h2.get? a=a7 o)->φ P w h2
def C6(H:Hp)(h:d8):Prop:=∀a o,H a=a7 o->cB P w H h a o
end
def cB.lt(x:cB P w H h a o):a<h.objs.size:=by
 cases o with
 |lst xs=>obtain⟨_,_,_,_,e⟩:=x;exact z8 e
 |tup xs=>obtain⟨_,_,_,p⟩:=x;exact p.tup.lt
 |dK s=>obtain⟨_,_,_,_,o,_,_,e,_⟩:=x;exact z8 e
 |dT s=>obtain⟨_,_,_,_,o,_,_,e,_⟩:=x;exact z8 e
 |set S n=>obtain⟨o,_,_,_,e,_⟩:=x;exact z8 e
 |ins C dx b=>obtain⟨_,_,_,e,_⟩:=x;exact z8 e
 |own y=>obtain⟨_,e⟩:=x;exact z8 e
 |xd b=>obtain⟨_,⟨_,_,_,e,_⟩,_⟩:=x;exact z8 e
 |rng l hi=>obtain⟨_,_,_,e⟩:=x;exact z8 e
 |frz c u=>obtain⟨e,_⟩:=x;exact z8 e
 |tbl ps=>exact z8<|show h.get? a=a7 _ from x
 |met f y=>exact z8<|show h.get? a=a7 _ from x
 |ext φ=>obtain⟨_,⟨_,e⟩,_⟩:=x;exact z8 e
def Paired.mapP{α β:Type}{F G:α->β->Prop}:∀{l₁:List α}{l₂:List β},Paired F l₁ l₂->(∀a b,F a b->G a b)->Paired G l₁ l₂
 |_,_,.nil,_=>.nil
 |_,_,.cons r t,f=>.cons (f _ _ r)<|Paired.mapP t f
def cB.stay(x:cB P w H h a o)(k:∀b u,(b=a\/H b=a7 (.own a))->h.get? b=a7 u->h'.get? b=a7 u)(B:∀b,H b=a7 (.own a)->H' b=a7 (.own a)) (D:∀b xs,H b=a7 (.tup xs)->H' b=a7 (.tup xs)):cB P w H' h' a o:=by
 induction o with
 |lst xs=>obtain⟨z,its,n,r,e⟩:=x;exact⟨z,its,n,r,k _ _ (.inl rfl) e⟩
 |tup xs=>obtain⟨z,its,r,g,e,c⟩:=x;exact⟨z,its,r,g,k _ _ (.inl rfl) e,c⟩
 |dK s=>obtain⟨z,y,vs,r,g,es,i,e,c⟩:=x;exact⟨z,y,vs,r,g,es,i,k _ _ (.inl rfl) e,c⟩
 |dT s=>obtain⟨z,y,xs,r,g,es,i,e,c⟩:=x;exact⟨z,y,xs,Paired.mapP r λp q z=>⟨z.1,D _ _ z.2.1,z.2.2⟩,g,es,i,k _ _ (.inl rfl) e,c⟩
 |set S n=>obtain⟨g,es,i,t,e,c⟩:=x;exact⟨g,es,i,t,k _ _ (.inl rfl) e,c⟩
 |ins C dx m=>obtain⟨d,z,F,e,A,⟨j,es,i,l,c⟩,r⟩:=x;exact⟨B _ d,z,F,k _ _ (.inl rfl) e,A,⟨j,es,i,k _ _ (.inr d) l,c⟩,r⟩
 |own y=>obtain⟨g,e⟩:=x;exact⟨g,k _ _ (.inl rfl) e⟩
 |xd m=>obtain⟨A,⟨j,es,i,e,c⟩,r⟩:=x;exact⟨A,⟨j,es,i,k _ _ (.inl rfl) e,c⟩,r⟩
 |rng G hi=>obtain⟨t,u,v,e⟩:=x;exact⟨t,u,v,k _ _ (.inl rfl) e⟩
 |frz g u E=>obtain⟨e,q⟩:=x;exact⟨k _ _ (.inl rfl) e,E q⟩
 |tbl ps=>have e:h.get? a=a7 { cls:=.none,data:=.fields ps }:=x;show h'.get? a=a7 { cls:=.none,data:=.fields ps };exact k a _ (.inl rfl) e
 |met f y=>have e:h.get? a=a7 (Qe (.ref f)<|.ref y):=x;show h'.get? a=a7 (Qe (.ref f)<|.ref y);exact k a _ (.inl rfl) e
 |ext φ=>obtain⟨p,⟨o,e⟩,st⟩:=x;exact⟨st _ _ p λo q=>k _ _ (.inl rfl) q,⟨o,k _ _ (.inl rfl) e⟩,st⟩
def C6.lt(x:C6 P w H h)(e:H a=a7 o):a<h.objs.size:=(x a o e).lt
def C6.fresh(x:C6 P w H h)(e:h.objs.size<=a):H a=a8:=by
 cases q:H a with
 |none=>rfl
 |some u=>exact p5 (E5 (x.lt q) e)<|E8 _
def C6.kept(x:C6 P w H h)(k:∀b u,h.get? b=a7 u->h'.get? b=a7 u):C6 P w H h':=λa o e =>
 (x a o e).stay (λb u _ q=>k b u q) (λ_ q=>q) λ_ _ q=>q
def C6.laid(x:C6 P w H h)(k:∀b u,h.get? b=a7 u->h'.get? b=a7 u)(p:h.objs.size<=a)(n:cB P w (v8 H a o) h' a o):C6 P w (v8 H a o) h':=λb u e=>by have f:=x.fresh p;by_cases d:b=a;subst d;rw[aI]at e;cases e;exact n;rw[am d]at e;exact(x b u e).stay (λc v _ q=>k c v q) (λc q=>by rw[am<|ad q f];exact q) λc xs q=>by rw[am<|ad q f];exact q
def Rd(H:Hp)(a:d6)(u:HO):Prop:=H a=a7 u\/∃o,H a=a7 (.frz o u)
def Rd.ok(r:Rd H a u)(x:C6 P w H h):cB P w H h a u:=by
 rcases r with r|⟨o,r⟩
 exact x a u r;obtain⟨_,q⟩:=x a _ r;exact q
def Oy:Option HO->Prop
 |some (.lst _)=>True
 |some (.dK _)=>True
 |some (.dT _)=>True
 |some (.set _ _)=>True
 |some (.ins _ _ _)=>True
 |some (.ext _)=>True
 |_=>False
def C6.write(ok:C6 P w H h)(m:Oy (H x))(i:e=x\/H e=a7 (.own x))(k:∀b u,b≠e->h.get? b=a7 u->h'.get? b=a7 u)(o:∃u,h'.get? e=a7 u)(g:cB P w (v8 H x o') h' x o'):C6 P w (v8 H x o') h':=λb u q=>by
 have n:∀c y,H c=a7 (.own y)->c≠x:=λc y r z=>by subst z;rw[r]at m;exact m
 have p:∀c xs,H c=a7 (.tup xs)->c≠x:=λc xs r z=>by subst z;rw[r]at m;exact m
 by_cases d:b=x;subst d;rw[aI]at q;cases q;exact g;rw[am d]at q;by_cases a:b=e;have j:H b=a7 (.own x):=by rcases i with z|z;exact p5 (a.trans z) d;rw[a];exact z
 rw[q]at j;cases j;obtain⟨v,l⟩:=o;exact⟨v,by rw[a];exact l⟩;refine(ok b u q).stay (λc v f r=>k c v ?_ r) (λc r=>by rw[am<|n c b r];exact r) λc xs r=>by rw[am<|p c xs r];exact r
 rcases f with rfl|f;exact a;rintro rfl;rcases i with z|z;exact n c b f z;rw[f]at z;cases z;exact d rfl
structure Un(fs ex:List d6)(H H':Hp)(h h':d8):Prop where
 keep:∀b o,h.get? b=a7 o->H b=a8->b∉fs->b∉ex->h'.get? b=a7 o
 slot:∀b o,h.get? b=a7 o->H b=a8->b∈fs->b∉ex->∃sl,h'.get? b=a7 { o with slots:=sl }
 free:∀b o,h.get? b=a7 o->H b=a8->b∉ex->H' b=a8
 there:∀b o,h.get? b=a7 o->b∉ex->∃o',h'.get? b=a7 o'
 tups:∀b xs,H b=a7 (.tup xs)->H' b=a7 (.tup xs)
 frzs:∀b o u,H b=a7 (.frz o u)->H' b=a7 (.frz o u)
 tbls:∀b ps,H b=a7 (.tbl ps)->∃more,H' b=a7 (.tbl<|ps++more)
def Un.any(u:Un fs ex H H1 h h1)(q:h.get? b=a7 ob)(n:H b=a8)(x:b∉ex):∃sl,h1.get? b=a7 { ob with slots:=sl }:=by by_cases d:b∈fs;exact u.slot b ob q n d x;exact⟨ob.slots,u.keep b ob q n d x⟩
def Un.kept(k:∀b u,h.get? b=a7 u->h'.get? b=a7 u):Un fs ex H H h h':=⟨λb c q _ _ _=>k b c q,λb c q _ _ _=>⟨c.slots,k b c q⟩,λ_ _ _ n _=>n,λb c q _=>⟨c,k b c q⟩,λ_ _ q=>q,λ_ _ _ q=>q,λ_ ps q=>⟨#[],by rw[q];simp⟩⟩
def Un.refl:Un fs ex H H h h:=Un.kept λ_ _ q=>q
def Un.laid(k:∀b u,h.get? b=a7 u->h'.get? b=a7 u)(p:h.objs.size<=a)(f:H a=a8):Un fs ex H (v8 H a o) h h' where
 keep:=λb u q _ _ _=>k b u q
 slot:=λb u q _ _ _=>⟨u.slots,k b u q⟩
 free:=λb u q n _=>by rw[am<|A4<|E5 (z8 q) p];exact n
 there:=λb u q _=>⟨u,k b u q⟩
 tups:=λb xs q=>by rw[am<|ad q f];exact q
 frzs:=λb u xs q=>by rw[am<|ad q f];exact q
 tbls:=λb ps q=>⟨#[],by rw[am<|ad q f,q];simp⟩
def Un.write(m:Oy (H x))(i:e=x\/H e=a7 (.own x))(k:∀b u,b≠e->h.get? b=a7 u->h'.get? b=a7 u)(c:∃u,h'.get? e=a7 u):Un fs ex H (v8 H x o) h h':=by
 have g:∀b,H b=a8->b≠x:=λb n z=>by subst z;rw[n]at m;exact m
 have f:∀b,H b=a8->b≠e:=λb n z=>by subst z;rcases i with r|r;exact g b n r;rw[n]at r;cases r
 have d:∀b u,H b=a7 u->¬Oy (a7 u)->b≠x:=λb u q j z=>by subst z;rw[q]at m;exact j m
 refine⟨λb u q n _ _=>k b u (f b n) q,λb u q n _ _=>⟨u.slots,k b u (f b n) q⟩,λb u q n _=>by rw[am<|g b n];exact n,λb u q _=>?_,λb xs q=>by rw[am<|d b _ q λz=>z];exact q,λb u xs q=>by rw[am<|d b _ q λz=>z];exact q,λb ps q=>⟨#[],by rw[am<|d b _ q λz=>z,q];simp⟩⟩;by_cases a:b=e;subst a;exact c;exact⟨u,k b u a q⟩
noncomputable def trk(h:d8)(H:Hp):List d6:=(B7 h.objs.size).filter λa=>(H a).isSome
noncomputable def BD(h:d8)(H:Hp):d8:=KZ h<|trk h H
def AH(h:d8)(H:Hp):(BD h H).objs.size=h.objs.size:=PySem.W.hideAll_size _ _
def Dg(e:h.get? b=a7 o)(n:H b=a8):(BD h H).get? b=a7 o:=Px _ e λd=>by have q:(H b).isSome=a9:=(Nk.mp d).2;rw[n]at q;simp at q
def Fv(e:(BD h H).get? b=a7 o):h.get? b=a7 o/\H b=a8:=by
 have a:h.get? b=a7 o:=OT (trk h H) e;refine⟨a,?_⟩;cases q:H b with
 |none=>rfl
 |some x=>have d:b∈trk h H:=List.mem_filter.mpr ⟨G1.mpr<|z8 a,by simp[q]⟩;have z:(BD h H).get? b=a8:=Qq (trk h H) d;rw[z]at e;cases e
noncomputable def GY(g h:d8)(L:d6):List (d6×d7):=(B7 h.objs.size).filterMap λa=>if a=L\/(g.get? a).isSome=a9 then a8 else(h.get? a).map λo=>(a,o)
noncomputable def aO(g h:d8)(L d:d6):List (d6×d7):=(GY g h L).filter λp=>decide<|p.1≠d
structure Mod(K:u6)(mg:c8->Option c6)(base:d8):Prop where
 kin:K.In base
 glob:base.Ns f6 mg
 blt:∃mb,base.Ns builtinsNs mb/\∀x:c8,x≠"__name__"->mb x=f7 x
 nolimit:base.NoLimit
/-- the context: a def's body (or a comprehension's block) running. base: fixed through the whole law;s₀,H₀: the entry;outer: the frames whose slots others may change (a def's callers);stack: all frames that run;
  ex: iterators that were made gk of the entry and are walked here (a comprehension's);fn: the names whose cells were made at the entry (a def: all;a comprehension's block: its own);calm: not within an except suite;pn: pins that every state bears;xe: what is wanted of an exception that leaves the code -/
structure Cx where
 prog:d5
 w:c9
 K:u6
 mg:c8->Option c6
 base:d8
 A:f8
 N:List c8
 s₀:f9
 H₀:Hp
 env:g7
 outer:List g7
 stack:List g7
 ex:List d6
 fn:c8->Bool
 calm:Bool
 pn:List (d6×d7)
 xe:c6->f9->Prop
noncomputable def frs(l:List g7):List d6:=l.filterMap (·.frame)
noncomputable abbrev Cx.fs(X:Cx):List d6:=frs X.outer
def Nt(c:g8)(x:c8):Prop:=c.names.lookup x=a7 .local\/c.names.lookup x=a7 .cell\/c.names.lookup x=a7 .free
def MZ(c:g8)(x:c8):Prop:=c.names.lookup x=a7 .local\/c.names.lookup x=a7 .cell
def Look(env:g7)(h:d8)(m:c8->Option c6)(x:c8)(u:c6):Prop:=(env.kindOf x=a7 .local/\m x=a7 u)\/((env.kindOf x=a7 .cell\/env.kindOf x=a7 .free)/\∃c,env.cells.lookup x=a7 c/\h.IsCell c (a7 u))
structure Cx.Ok(X:Cx):Prop where
 mod:Mod X.K X.mg X.base
 kind:X.env.scope.kind=.function
 glob:X.env.globals=f6
 blt:X.env.builtins=builtinsNs
 above:X.s₀.heap.objs.size<=X.env.locals
 inj:∀x y c,X.env.cells.lookup x=a7 c->X.env.cells.lookup y=a7 c->x=y
 has:∀x,(X.env.kindOf x=a7 .cell\/X.env.kindOf x=a7 .free)->∃c,X.env.cells.lookup x=a7 c
 cab:∀x c,X.fn x=a9->X.env.cells.lookup x=a7 c->X.s₀.heap.objs.size<=c
 hd:X.calm=a9->X.A.handled=a8
 frames:X.A.frames=a7 X.stack
 stk:X.stack=X.outer\/(X.stack=X.env::X.outer/\X.env.frame=a7 X.env.locals)
 exf:∀b∈X.ex,b≠X.env.locals/\∀x c,X.env.cells.lookup x=a7 c->c≠b
 bs:∀b o,X.base.get? b=a7 o->X.s₀.heap.get? b=a7 o/\X.H₀ b=a8
 bsz:X.base.objs.size<=X.s₀.heap.objs.size
 noex:∀b o,X.base.get? b=a7 o->b∉X.ex
 exfs:∀b∈X.ex,b∉X.fs
 funs:X.s₀.heap.FunFrames X.base X.outer
 frf:∀b∈X.fs,X.H₀ b=a8
structure t5(X:Cx)(pins:List (d6×d7))(σ:List (Option V))(H:Hp)(s:f9):Prop where
 ok:X.Ok
 os:s.os=X.s₀.os
 bare:g9 s.gens
 base:Un X.fs X.ex X.H₀ H X.s₀.heap s.heap
 loc:∃m,s.heap.Ns X.env.locals m/\∀(i:Nat) (x:c8) (v:V),X.N[i]?=a7 x->σ[i]?=a7 (a7 v)->Nt X.env.scope x->∃u,aR v u/\Look X.env s.heap m x u
 cell:∀x c,X.env.cells.lookup x=a7 c->∃v,s.heap.IsCell c v
 free:H X.env.locals=a8
 freeC:∀x c,X.env.cells.lookup x=a7 c->H c=a8
 pin:∀p∈X.pn++pins,s.heap.get? p.1=a7 p.2/\H p.1=a8/\p.1≠X.env.locals/\p.1∉X.fs/\∀v,p.2.data≠.cell v
 hok:C6 X.prog X.w H s.heap
 len:σ.length=X.N.length
def Cx.Ok.nofr{X:Cx}(ok:X.Ok)(e:X.base.get? b=a7 o):b∉X.fs:=λd=>by have:=(ok.funs.mem d).1;rw[e]at this;cases this
def t5.bs{X:Cx}{pins:List (d6×d7)}{σ:List (Option V)}{H:Hp}{s:f9}(I:t5 X pins σ H s):∀b o,X.base.get? b=a7 o->s.heap.get? b=a7 o/\H b=a8:=λb o e =>
 ⟨I.base.keep b o (I.ok.bs b o e).1 (I.ok.bs b o e).2 (I.ok.nofr e)<|I.ok.noex b o e,I.base.free b o (I.ok.bs b o e).1 (I.ok.bs b o e).2<|I.ok.noex b o e⟩
def t5.bk(I:t5 X pins σ H s):∀b o,X.base.get? b=a7 o->s.heap.get? b=a7 o:=λb o e=>(I.bs b o e).1
def t5.mod(I:t5 X pins σ H s):Mod X.K X.mg X.base:=I.ok.mod
def t5.kIn(I:t5 X pins σ H s):X.K.In s.heap:=I.ok.mod.kin.keeps I.bk
def t5.lt(I:t5 X pins σ H s):X.env.locals<s.heap.objs.size:=let ⟨_,hn,_⟩:=I.loc;hn.lt
def t5.sz(I:t5 X pins σ H s):X.s₀.heap.objs.size<=s.heap.objs.size:=KY I.ok.above<|Mr I.lt
def t5.nofs(I:t5 X pins σ H s)(h:s.heap.objs.size<=a):a∉X.fs:=λd=>by obtain⟨_,o,B,_⟩:=I.ok.funs.mem d;exact p5 (E5 (z8 B)<|KY I.sz h)<|E8 _
def t5.cne(I:t5 X pins σ H s):∀x c,X.env.cells.lookup x=a7 c->c≠X.env.locals:=λx c e z=>by obtain⟨v,o,B,d⟩:=I.cell x c e;obtain⟨m,⟨o',es,i,a,h,_⟩,_⟩:=I.loc;rw[z,a]at B;cases B;rw[h]at d;cases d
def t5.funs(I:t5 X pins σ H s):s.heap.FunFrames X.base X.outer:=by
 have a:∀(l:List g7),(∀b∈frs l,b∈X.fs)->X.s₀.heap.FunFrames X.base l->s.heap.FunFrames X.base l:=by
  intro l;induction l with
  |nil=>intro _ _;trivial
  |cons env r j=>intro hs g;obtain⟨k,⟨L,o,f,n,B,c⟩,i⟩:=g;have h:L∈X.fs:=hs L (by unfold frs;rw[MA,f];exact A9);obtain⟨m,e⟩:=I.base.slot L o B (I.ok.frf L h) h λz=>I.ok.exfs L z h;exact⟨k,⟨L,_,f,n,e,c⟩,j (λb d=>hs b<|by unfold frs;rw[MA,f];exact C4 _ d) i⟩
 exact a X.outer (λ_ d=>d) I.ok.funs
def t5.stack(I:t5 X pins σ H s):s.heap.FunFrames X.base X.stack:=by
 rcases I.ok.stk with e|⟨e,f⟩
 rw[e];exact I.funs;rw[e];obtain⟨m,n,_⟩:=I.loc;refine .cons (by rw[I.ok.kind];decide) f n ?_ I.funs;exact Heap.get?_none_of_le<|KY I.ok.bsz I.ok.above
def t5.stkSub(I:t5 X pins σ H s):∀b∈frs X.stack,b∈X.env.locals::X.fs:=λb d=>by
 rcases I.ok.stk with e|⟨e,f⟩
 rw[e]at d;exact C4 _ d;rw[e]at d;unfold frs at d;rw[MA,f]at d;exact d
def t5.stkFree(I:t5 X pins σ H s):∀b∈frs X.stack,H b=a8:=λb d=>by rcases z7.mp (I.stkSub b d)with e|d;rw[e];exact I.free;obtain⟨_,o,B,_⟩:=I.ok.funs.mem d;exact I.base.free b o B (I.ok.frf b d) λz=>I.ok.exfs b z d
def t5.step{g':Array GenState}{t':Nat}{d':Drawn}{ch:List d6}(I:t5 X pins σ H s)(a:∀b∈ch,(b∈X.ex\/X.s₀.heap.objs.size<=b)/\b≠X.env.locals/\(∀x c,X.env.cells.lookup x=a7 c->c≠b)/\∀p∈X.pn++pins,p.1≠b)(g:∀b o,b≠X.env.locals->b∉X.fs->b∉ch->s.heap.get? b=a7 o->H b=a8->h'.get? b=a7 o)(slot:∀b o,b≠X.env.locals->b∈X.fs->b∉ch->s.heap.get? b=a7 o->H b=a8->∃sl,h'.get? b=a7 { o with slots:=sl }) (f:∀b o,b∉ch->s.heap.get? b=a7 o->H b=a8->H' b=a8)(A:∀b o,b∉ch->s.heap.get? b=a7 o->∃o',h'.get? b=a7 o')(G:∀b xs,H b=a7 (.tup xs)->H' b=a7 (.tup xs)) (E:∀b o u,H b=a7 (.frz o u)->H' b=a7 (.frz o u)) (F:∀b ps,H b=a7 (.tbl ps)->∃more,H' b=a7 (.tbl<|ps++more))(ns:∀m,s.heap.Ns X.env.locals m->h'.Ns X.env.locals m) (K:C6 X.prog X.w H' h') (S:g9 g') :
  t5 X pins σ H' { s with heap:=h',gens:=g',drawn:=d',toks:=t' }:=by
 have L:∀b o,X.s₀.heap.get? b=a7 o->b≠X.env.locals:=λb o e=>A4<|E5 (z8 e) I.ok.above;have C:∀b o,X.s₀.heap.get? b=a7 o->b∉X.ex->b∉ch:=λb o e h y=>by rcases(a b y).1 with z|z;exact h z;exact p5 (E5 (z8 e) z)<|E8 _
 have cellK:∀x c,X.env.cells.lookup x=a7 c->∀v,s.heap.IsCell c v->h'.IsCell c v:=λx c e v ⟨o,B,J⟩=>by have j:c∉ch:=λz=>(a c z).2.2.1 x c e rfl;by_cases N:c∈X.fs;obtain⟨sl,q⟩:=slot c o (I.cne x c e) N j B<|I.freeC x c e;exact⟨_,q,J⟩;exact⟨o,g c o (I.cne x c e) N j B<|I.freeC x c e,J⟩
 refine⟨I.ok,I.os,S,⟨λb o e n y h=>?_,λb o e n y h=>?_,λb o e n h=>?_,λb o e h=>?_,λb xs e=>G b xs<|I.base.tups b xs e,λb o xs e=>E b o xs<|I.base.frzs b o xs e,λb ps e=>?_⟩,?_,λx c e=>?_,?_,λx c e=>?_,λp O=>?_,K,I.len⟩;exact g b o (L b o e) y (C b o e h) (I.base.keep b o e n y h)<|I.base.free b o e n h;obtain⟨sl,t⟩:=I.base.slot b o e n y h;obtain⟨M,D⟩:=slot b _ (L b o e) y (C b o e h) t<|I.base.free b o e n h;exact⟨M,D⟩;obtain⟨o',t⟩:=I.base.there b o e h;exact f b o' (C b o e h) t<|I.base.free b o e n h;obtain⟨o',t⟩:=I.base.there b o e h;exact A b o' (C b o e h) t;obtain⟨V,t⟩:=I.base.tbls b ps e;obtain⟨W,D⟩:=F b _ t;exact⟨V++W,by rw[D,Qi]⟩;obtain⟨m,U,T⟩:=I.loc;refine⟨m,ns m U,λi x v t D R=>?_⟩;obtain⟨u,r,l⟩:=T i x v t D R;refine⟨u,r,?_⟩;rcases l with l|⟨k,c,e,z⟩
 exact .inl l;exact .inr ⟨k,c,e,cellK x c e _ z⟩;obtain⟨v,z⟩:=I.cell x c e;exact⟨v,cellK x c e v z⟩;obtain⟨m,⟨o,_,_,B,_⟩,_⟩:=I.loc;exact f _ o (λz=>(a _ z).2.1 rfl) B I.free;obtain⟨v,o,B,J⟩:=I.cell x c e;exact f c o (λz=>(a c z).2.2.1 x c e rfl) B<|I.freeC x c e;obtain⟨e,n,P,Q,d⟩:=I.pin p O;have j:p.1∉ch:=λz=>(a p.1 z).2.2.2 p O rfl;exact⟨g p.1 p.2 P Q j e n,f p.1 p.2 j e n,P,Q,d⟩
theorem t5.un{t':Nat}(I:t5 X pins σ H s)(u:Un X.fs [] H H' s.heap h')(K:C6 X.prog X.w H' h'):t5 X pins σ H' { s with heap:=h',toks:=t' }:=by obtain⟨m,⟨o,es,i,B,r⟩,_⟩:=id I.loc;obtain⟨l,L⟩:=u.any B I.free b9;exact I.step (g':=s.gens) (d':=s.drawn) (ch:=[]) (λ_ z=>nomatch z) (λb o _ h _ e n=>u.keep b o e n h<|by simp) (λb o _ h _ e n=>u.slot b o e n h<|by simp) (λb o _ e n=>u.free b o e n<|by simp) (λb o _ e=>u.there b o e<|by simp) u.tups u.frzs u.tbls (λg f=>by obtain⟨o',d,c,a,r'⟩:=f;rw[B]at a;cases a;exact⟨_,d,c,L,r'⟩) K I.bare
theorem t5.call{g':Array GenState}{t':Nat}{d':Drawn}{ch:List d6}(I:t5 X pins σ H s)(u:Un (frs X.stack) ch H H' s.heap h')(K:C6 X.prog X.w H' h')(S:g9 g')(a:∀b∈ch,(b∈X.ex\/X.s₀.heap.objs.size<=b)/\b≠X.env.locals/\(∀x c,X.env.cells.lookup x=a7 c->c≠b)/\∀p∈X.pn++pins,p.1≠b):t5 X pins σ H' { s with heap:=h',gens:=g',drawn:=d',toks:=t' }:=by obtain⟨m,⟨o,es,k,B,r⟩,_⟩:=id I.loc;obtain⟨q,L⟩:=u.any B I.free λz=>(a _ z).2.1 rfl;exact I.step (ch:=ch) a (λb o L i f e n=>u.keep b o e n (λz=>(z7.mp<|I.stkSub b z).elim L i) f) (λb o _ _ f e n=>u.any e n f) (λb o f e n=>u.free b o e n f) (λb o f e=>u.there b o e f) u.tups u.frzs u.tbls (λl j=>by obtain⟨o',g,d,h,r'⟩:=j;rw[B]at h;cases h;exact⟨_,g,d,L,r'⟩) K S
def t5.turned{t':Nat}{it:d6}(I:t5 X pins σ H s)(k:∀b o,b≠it->s.heap.get? b=a7 o->h'.get? b=a7 o)(j:H it=a8)(h:it≠X.env.locals)(h1:it∈X.ex\/X.s₀.heap.objs.size<=it) (h2:∀x c,X.env.cells.lookup x=a7 c->c≠it) (a:∀p∈X.pn++pins,p.1≠it):t5 X pins σ H { s with heap:=h',toks:=t' }:=by
 have t:∀b u,H b=a7 u->b≠it:=λb u e z=>by rw[z,j]at e;cases e
 refine I.step (g':=s.gens) (d':=s.drawn) (ch:=[it]) (λb d=>?_) (λb o _ _ f e _=>k b o (λz=>f<|by simp[z]) e) (λb o _ _ f e _=>⟨o.slots,k b o (λz=>f<|by simp[z]) e⟩) (λ_ _ _ _ n=>n) (λb o f e=>⟨o,k b o (λz=>f<|by simp[z]) e⟩) (λ_ _ e=>e) (λ_ _ _ e=>e) (λb ps e=>⟨#[],by rw[e];simp⟩) (λm g=>?_) (λb u e=>?_) I.bare;have e:b=it:=by simpa using d
 subst e;exact⟨h1,h,h2,a⟩;obtain⟨o,es,i,B,r⟩:=g;exact⟨o,es,i,k _ o (A8 h) B,r⟩;refine(I.hok b u e).stay (λc v f q=>k c v ?_ q) (λ_ q=>q) λ_ _ q=>q;rcases f with z|z;rw[z];exact t b u e;exact t c _ z
def t5.tok(I:t5 X pins σ H s)(t:Nat):t5 X pins σ H { s with toks:=t }:=I.un (h':=s.heap) (t':=t) Un.refl I.hok
def t5.kept(I:t5 X pins σ H s)(k:∀b u,s.heap.get? b=a7 u->h'.get? b=a7 u):t5 X pins σ H { s with heap:=h',toks:=t' }:=I.un (Un.kept k)<|I.hok.kept k
def t5.laid(I:t5 X pins σ H s)(k:∀b u,s.heap.get? b=a7 u->h'.get? b=a7 u)(p:s.heap.objs.size<=a)(n:cB X.prog X.w (v8 H a o) h' a o):t5 X pins σ (v8 H a o) { s with heap:=h',toks:=t' }:=I.un (Un.laid k p<|I.hok.fresh p)<|I.hok.laid k p n
def t5.write(I:t5 X pins σ H s)(m:Oy (H x))(i:e=x\/H e=a7 (.own x))(k:∀b u,b≠e->s.heap.get? b=a7 u->h'.get? b=a7 u)(h:∃u,h'.get? e=a7 u)(n:cB X.prog X.w (v8 H x o) h' x o):t5 X pins σ (v8 H x o) { s with heap:=h',toks:=t' }:=I.un (Un.write m i k h)<|I.hok.write m i k h n
def t5.pins_of(I:t5 X pins σ H s)(h:∀p∈pins',s.heap.get? p.1=a7 p.2/\H p.1=a8/\p.1≠X.env.locals/\p.1∉X.fs/\∀v,p.2.data≠.cell v):t5 X pins' σ H s:=⟨I.ok,I.os,I.bare,I.base,I.loc,I.cell,I.free,I.freeC,λp a=>(J7.mp a).elim (λz=>I.pin p<|NK _ z)<|h p,I.hok,I.len⟩
def qK{N:List c8}(h:N.Nodup){i j:Nat}{x:c8}(a:N[i]?=a7 x)(b:N[j]?=a7 x):i=j:=by obtain⟨h1,t⟩:=B5.mp a;obtain⟨h2,l⟩:=B5.mp b;exact(List.getElem_inj h).mp<|t.trans l.symm
theorem zk{M:Model}{A:f8}{E:c6->f9->Prop}{i:Nat}{x:c8}{v:V}{u:c6}{Q:Unit->f9->Prop}(I:t5 X pins σ H s)(hN:X.N.Nodup)(hi:X.N[i]?=a7 x)(l:MZ X.env.scope x)(r:aR v u)(h:∀s',t5 X pins (σ.set i<|a7 v) H s'->(∃a,NB a s.heap s'.heap/\(a=X.env.locals\/X.env.cells.lookup x=a7 a))->Q () s') (hf:X.fn x=a9\/X.env.scope.names.lookup x=a7 .local:=by first|exact .inl rfl|exact .inr rfl|assumption):i0 M A (storeName X.env x u) Q E s:=by
 obtain⟨m,hn,hl⟩:=id I.loc;have R:(X.env.scope.kind==.class||(X.env.scope.kind==.module&&X.env.locals != X.env.globals))=c5:=by rw[I.ok.kind];rfl
 have D:i<σ.length:=by rw[I.len];exact(B5.mp hi).1
 have G:=I.cne;have f:∀{a:d6}{h':d8},(∃o,s.heap.get? a=a7 o/\H a=a8)->NB a s.heap h'->C6 X.prog X.w H h':=λ{a h'} ha hs b ob e=>by obtain⟨_,_,B⟩:=ha;refine(I.hok b ob e).stay (λc Y g q=>(hs.2 c ?_).trans q) (λ_ q=>q) λ_ _ q=>q;rintro rfl;rcases g with rfl|g;rw[B]at e;cases e;rw[B]at g;cases g
 rcases l with F|F;refine wpAny_storeName_local F hn (λh' ab hs=>?_) R;obtain⟨oL,_,_,ai,_⟩:=id hn;refine h _ ⟨I.ok,I.os,I.bare,⟨λb o e n J l=>?_,λb o e n J l=>?_,I.base.free,λb o e l=>?_,I.base.tups,I.base.frzs,I.base.tbls⟩,⟨_,ab,λj y v' t C Z=>?_⟩,λy c e=>?_,I.free,I.freeC,λp hp=>?_,f ⟨oL,ai,I.free⟩ hs,by simpa using I.len⟩ ⟨_,hs,.inl rfl⟩;exact(hs.2 b<|A4<|E5 (z8 e) I.ok.above).trans<|I.base.keep b o e n J l;obtain⟨sl,t⟩:=I.base.slot b o e n J l;exact⟨sl,(hs.2 b<|A4<|E5 (z8 e) I.ok.above).trans t⟩;obtain⟨o',t⟩:=I.base.there b o e l;exact⟨o',(hs.2 b<|A4<|E5 (z8 e) I.ok.above).trans t⟩;by_cases L:j=i;subst L;rw[hi]at t;cases t;rw[Lj D]at C;cases C;exact⟨u,r,.inl ⟨F,b9⟩⟩;rw[KO<|A8 L]at C;obtain⟨u',r',q⟩:=hl j y v' t C Z;refine⟨u',r',?_⟩;rcases q with⟨k,e⟩|⟨k,c,e,z⟩
 refine .inl ⟨k,?_⟩;have:y≠x:=λe=>L<|qK hN t<|e ▸ hi;simp[this,e];exact .inr ⟨k,c,e,z.sameBut hs<|G y c e⟩;obtain⟨Y,z⟩:=I.cell y c e;exact⟨Y,z.sameBut hs<|G y c e⟩;obtain⟨e,n,W,nf,d⟩:=I.pin p hp;exact⟨(hs.2 p.1 W).trans e,n,W,nf,d⟩;have K:X.fn x=a9:=by rcases hf with z|z;exact z;rw[z]at F;cases F
 obtain⟨c,g⟩:=I.ok.has x<|.inl F;obtain⟨Y,z⟩:=I.cell x c g;refine wpAny_storeName_cell I.ok.kind F g z<|λh' O hs=>?_;obtain⟨oc,S,T⟩:=id z;refine h { s with heap:=h' } ⟨I.ok,I.os,I.bare,⟨λb o e n J l=>?_,λb o e n J l=>?_,I.base.free,λb o e l=>?_,I.base.tups,I.base.frzs,I.base.tbls⟩,⟨m,hn.sameBut hs<|A8<|G x c g,λj y v' t C Z=>?_⟩,λy U e=>?_,I.free,I.freeC,λp hp=>?_,f ⟨oc,S,I.freeC x c g⟩ hs,by simpa using I.len⟩ ⟨c,hs,.inr g⟩;exact(hs.2 b<|A4<|E5 (z8 e)<|I.ok.cab x c K g).trans<|I.base.keep b o e n J l;obtain⟨sl,t⟩:=I.base.slot b o e n J l;exact⟨sl,(hs.2 b<|A4<|E5 (z8 e)<|I.ok.cab x c K g).trans t⟩;obtain⟨o',t⟩:=I.base.there b o e l;exact⟨o',(hs.2 b<|A4<|E5 (z8 e)<|I.ok.cab x c K g).trans t⟩;by_cases L:j=i;subst L;rw[hi]at t;cases t;rw[Lj D]at C;cases C;exact⟨u,r,.inr ⟨.inl F,c,g,O⟩⟩;rw[KO<|A8 L]at C;obtain⟨u',r',q⟩:=hl j y v' t C Z;refine⟨u',r',?_⟩;rcases q with q|⟨k,U,e,z'⟩
 exact .inl q;refine .inr ⟨k,U,e,z'.sameBut hs ?_⟩;rintro rfl;exact L<|qK hN t<|I.ok.inj _ _ _ e g ▸ hi;by_cases P:U=c;subst P;exact⟨_,O⟩;obtain⟨w2,z2⟩:=I.cell y U e;exact⟨w2,z2.sameBut hs P⟩;obtain⟨e,n,W,nf,d⟩:=I.pin p hp;refine⟨(hs.2 p.1 ?_).trans e,n,W,nf,d⟩;intro q;rw[q,S]at e;have q':oc=p.2:=C1 e;exact d Y<|by rw[<-q'];exact T
def jM(I:t5 X pins σ H s)(b:X.N.Nodup)(hi:X.N[i]?=a7 x)(c:MZ X.env.scope x)(r:aR v u)(h:∀s',t5 X pins (σ.set i<|a7 v) H s'->Q () s') (f:X.fn x=a9\/X.env.scope.names.lookup x=a7 .local:=by first|exact .inl rfl|exact .inr rfl|assumption):i0 M A (storeName X.env x u) Q E s:=zk I b hi c r (λs' a _=>h s' a) f
def t5.call'(I:t5 X pins σ H s)(B:s'.os=s.os)(u:Un (frs X.stack) ch H H' s.heap s'.heap)(K:C6 X.prog X.w H' s'.heap)(S:g9 s'.gens)(a:∀b∈ch,(b∈X.ex\/X.s₀.heap.objs.size<=b)/\b≠X.env.locals/\(∀x c,X.env.cells.lookup x=a7 c->c≠b)/\∀p∈X.pn++pins,p.1≠b):t5 X pins σ H' s':=by obtain⟨h',g',d',t',o'⟩:=s';have e:o'=s.os:=B;subst e;exact I.call (g':=g') (t':=t') (d':=d') u K S a
abbrev XK:=c6->Option d6->Hp->Prop
noncomputable abbrev St:=List<|Option V
abbrev VK:=V->Hp->Prop
abbrev TE:=St->Hp->VK->Prop
abbrev TT:=St->Hp->(Bool->Hp->Prop)->Prop
abbrev TA:=St->Hp->(List V->Hp->Prop)->Prop
structure Ends where
 nx:St->Hp->Prop
 rt:VK
 bk:St->Hp->Prop:=λ_ _=>False
 ct:St->Hp->Prop:=λ_ _=>False
abbrev TS:=Ends->St->Hp->Prop
inductive EP(X:Cx)(pins:List (d6×d7))(σ:St)(Q:VK)(u:c6)(s':f9):Prop
 |mk (v:_) (H':_) (f0:t5 X pins σ H' s') (f1:aR v u) (f2:Q v H')
inductive TP(X:Cx)(pins:List (d6×d7))(σ:St)(Q:Bool->Hp->Prop)(b:Bool)(s':f9):Prop
 |mk (H':_) (f0:t5 X pins σ H' s') (f1:Q b H')
inductive AP(X:Cx)(pins:List (d6×d7))(σ:St)(Q:List V->Hp->Prop)(us:List c6)(s':f9):Prop
 |mk (vs:_) (H':_) (f0:t5 X pins σ H' s') (f1:az vs us) (f2:Q vs H')
def SP(X:Cx)(pins:List (d6×d7))(D:Ends)(f:Flow)(s':f9):Prop:=match f with
 |.next=>∃a H',t5 X pins a H' s'/\D.nx a H'
 |.brk=>∃a H',t5 X pins a H' s'/\D.bk a H'
 |.cont=>∃a H',t5 X pins a H' s'/\D.ct a H'
 |.ret u=>∃v a H',t5 X pins a H' s'/\aR v u/\D.rt v H'
def PE(X:Cx)(e:i3)(t:TE):Prop:=∀(p:List (d6×d7)) (s:f9) (σ:St) (H:Hp) (Q:VK),t5 X p σ H s->t σ H Q->i0 (i4 X.prog X.w) X.A (eval e X.env) (EP X p σ Q) X.xe s
def PT(X:Cx)(e:i3)(t:TT):Prop:=∀(p:List (d6×d7)) (s:f9) (σ:St) (H:Hp) (Q:Bool->Hp->Prop),t5 X p σ H s->t σ H Q->i0 (i4 X.prog X.w) X.A (isTrue e X.env<|eval e X.env) (TP X p σ Q) X.xe s
def PW(X:Cx)(e:i3)(t:TT):Prop:=∀(a:Sem c6) (p:List (d6×d7)) (s:f9) (σ:St) (H:Hp) (Q:Bool->Hp->Prop),t5 X p σ H s->t σ H Q->i0 (i4 X.prog X.w) X.A (isTrue e X.env a) (TP X p σ Q) X.xe s
def PW.pt(h:PW X e t):PT X e t:=h _
def PA(X:Cx)(es:List i3)(t:TA):Prop:=∀(a:i5) (p:List (d6×d7)) (s:f9) (σ:St) (H:Hp) (Q:List V->Hp->Prop),t5 X p σ H s->t σ H Q->i0 (i4 X.prog X.w) X.A (spliced<|i6 a<|i7 es X.env) (AP X p σ Q) X.xe s
def PS(X:Cx)(st:i8)(t:TS):Prop:=∀(p:List (d6×d7)) (s:f9) (σ:St) (H:Hp) (D:Ends),t5 X p σ H s->t D σ H->i0 (i4 X.prog X.w) X.A (exec st X.env) (SP X p D) X.xe s
def Kz(X:Cx)(st:List i8)(t:TS):Prop:=∀(p:List (d6×d7)) (s:f9) (σ:St) (H:Hp) (D:Ends),t5 X p σ H s->t D σ H->i0 (i4 X.prog X.w) X.A (execs st X.env) (SP X p D) X.xe s
def v6{α:Type}{t:Sem α}{Q Q':α->f9->Prop}{M:Model}{A:f8}{E:c6->f9->Prop}{s:f9}(h:i0 M A t Q E s)(b:∀a s,Q a s->Q' a s):i0 M A t Q' E s:=D3 h b λ_ _ x=>x
section
variable{X:Cx}
def tVar(i:Nat):TE:=λσ H Q=>∃v,σ[i]?=a7 (a7 v)/\Q v H
def tC(v:V):TE:=λ_ H Q=>Q v H
def DY(g:X.N[i]?=a7 x)(t:Nt X.env.scope x)(b:(x==("__debug__":c8))=c5:=by decide)(d:(x==("__classdict__":c8))=c5:=by decide):PE X (.Name x pos) (tVar i):=by
 intro p s σ H Q I h;obtain⟨v,e,h⟩:=h;obtain⟨m,q,j⟩:=I.loc;obtain⟨u,r,l⟩:=j i x v g e t;have n:EP X p σ Q u s:=⟨v,H,I,r,h⟩
 rcases l with⟨k,o⟩|⟨k,c,f,a⟩
 exact wpAny_Name (wpAny_loadName_local I.ok.kind k q o n) b;rcases k with k|k;exact wpAny_Name (wpAny_loadName_cell I.ok.kind k f a n) b;exact wpAny_Name (wpAny_loadName_free I.ok.kind k f a n d) b
def Ii{i j pos}:PE X (.Constant (.int i) j pos) (tC<|.int i):=λ_ _ _ H _ I h=>wpAny_Constant_int ⟨.int i,H,I.tok _,⟨_,rfl⟩,h⟩
def pe_bl{b j pos}:PE X (.Constant (.bool b) j pos) (tC<|.bl b):=λ_ _ _ H _ I h=>Constant_bool ⟨.bl b,H,I,rfl,h⟩
def Ig{j pos}:PE X (.Constant .none j pos) (tC .non):=λ_ _ _ H _ I h=>Constant_none ⟨.non,H,I,rfl,h⟩
def Ib{x j pos}:PE X (.Constant (.str x) j pos) (tC<|.str x):=λ_ _ _ H _ I h=>Calls.Constant_str ⟨.str x,H,I.tok _,⟨_,rfl⟩,h⟩
def Gl(X:Cx)(x:c8):Prop:=X.env.kindOf x=a7 .globalImplicit
def kE(I:t5 X pins σ H s)(S:Gl X x)(m:X.mg x=a7 u)(h:Q u s)(d:(x==("__debug__":c8))=c5:=by decide):i0 (i4 X.prog X.w) X.A (eval (.Name x pos) X.env) Q E s:=Calls.Name_function_global I.ok.kind S (Calls.loadGlobal_global (by rw[I.ok.glob];exact I.mod.glob.keeps I.bk) m h) d
def iB(I:t5 X pins σ H s)(S:Gl X x)(m:X.mg x=a8)(c:f7 x=a7 u)(h:Q u s)(f:x≠"__name__":=by decide) (d:(x==("__debug__":c8))=c5:=by decide):i0 (i4 X.prog X.w) X.A (eval (.Name x pos) X.env) Q E s:=by obtain⟨mb,h1,h2⟩:=I.mod.blt;exact Calls.Name_function_global I.ok.kind S (Calls.loadGlobal_builtin (by rw[I.ok.glob];exact I.mod.glob.keeps I.bk) m (by rw[I.ok.blt];exact h1.keeps I.bk) ((h2 x f).trans c) h) d
def zL(S:Gl X x)(m:X.mg x=a7 u)(r:aR v u)(d:(x==("__debug__":c8))=c5:=by decide):PE X (.Name x pos) (tC v):=λ_ _ _ H _ I h=>kE I S m ⟨v,H,I,r,h⟩ d
def zN(S:Gl X x)(m:X.mg x=a8)(c:f7 x=a7 u)(r:aR v u)(f:x≠"__name__":=by decide)(d:(x==("__debug__":c8))=c5:=by decide):PE X (.Name x pos) (tC v):=λ_ _ _ H _ I h=>iB I S m c ⟨v,H,I,r,h⟩ f d
variable{a b:i3}{ta tb:TE}{pos:i5}
def aR.none_iff(r:aR x v):(v==G6)=decide (x=.non):=by
 cases x with
 |non=>cases r;rfl
 |bl _=>cases r;rfl
 |int _=>obtain⟨t,rfl⟩:=r;rfl
 |str _=>obtain⟨t,rfl⟩:=r;rfl
 |byt _=>obtain⟨t,rfl⟩:=r;rfl
 |flt _=>obtain⟨t,rfl⟩:=r;rfl
 |ref _=>cases r;rfl
 |ty _=>cases r;rfl
def tB(t:TE):TT:=λσ H Q=>t σ H λx H1=>∃c,x=.bl c/\Q c H1
def HN(h:PE X e t)(i:∀whole,isTrue e X.env whole=(do let v <-whole;standAt e.pos;i9 [v] (truthy v)):=by intro _;rfl):PT X e (tB t):=by intro p s σ H Q I w;refine isTrue_plain (v6 (h p s σ H _ I w) ?_)<|i _;rintro v c ⟨x,H1,a,r,b⟩;obtain⟨d,rfl,q⟩:=b;cases r;exact Nl ⟨H1,a,q⟩
variable{tA tB':TT}{aO:List i3}
def tAnd(t u:TT):TT:=λσ H Q=>t σ H λc H1=>if c=a9 then u σ H1 Q else Q c5 H1
def tOr(t u:TT):TT:=λσ H Q=>t σ H λc H1=>if c=a9 then Q a9 H1 else u σ H1 Q
def tNot(t:TT):TT:=λσ H Q=>t σ H λc H1=>Q (!c) H1
def EV(f:PT X a tA):PW X (.BoolOp .And [a] pos) tA:=by
 intro w p s σ H Q I h;refine isTrue_and<|v6 (f p s σ H Q I h) λc b e=>?_;cases c with
 |true=>exact isTrue_and_nil e
 |false=>exact e
def HL(f:PT X a tA):PW X (.BoolOp .Or [a] pos) tA:=by
 intro w p s σ H Q I h;refine isTrue_or<|v6 (f p s σ H Q I h) λc b e=>?_;cases c with
 |false=>exact isTrue_or_nil e
 |true=>exact e
def HM(f:PT X a tA)(e:PW X (.BoolOp .And (b::aO) pos) tB'):PW X (.BoolOp .And (a::b::aO) pos) (tAnd tA tB'):=by
 intro w p s σ H Q I h;refine isTrue_and<|v6 (f p s σ H _ I h) ?_;rintro c g ⟨H1,d,q⟩;cases c with
 |true=>exact e w p g σ H1 Q d q
 |false=>exact⟨H1,d,q⟩
def pw_or(f:PT X a tA)(e:PW X (.BoolOp .Or (b::aO) pos) tB'):PW X (.BoolOp .Or (a::b::aO) pos) (tOr tA tB'):=by
 intro w p s σ H Q I h;refine isTrue_or<|v6 (f p s σ H _ I h) ?_;rintro c g ⟨H1,d,q⟩;cases c with
 |true=>exact⟨H1,d,q⟩
 |false=>exact e w p g σ H1 Q d q
def HP(f:PT X a tA):PT X (.UnaryOp .Not a pos) (tNot tA):=by intro p s σ H Q I h;refine isTrue_not<|v6 (f p s σ H (λc H1=>Q (!c) H1) I h) ?_;rintro c d ⟨H1,b,q⟩;exact⟨H1,b,q⟩
def tAndV(a b:TE):TE:=λσ H Q=>a σ H λx H1=>∃c,x=.bl c/\if c=a9 then b σ H1 Q else Q (.bl c5) H1
def tNotV(a:TE):TE:=λσ H Q=>a σ H λx H1=>∃c,x=.bl c/\Q (.bl<|!c) H1
def Ic{op}(h:PE X a t):PE X (.BoolOp op [a] pos) t:=λp s σ H Q I w=>BoolOp_one<|h p s σ H Q I w
def Ij(f:PE X a ta)(e:PE X (.BoolOp .And (b::aO) pos) tb):PE X (.BoolOp .And (a::b::aO) pos) (tAndV ta tb):=by
 intro p s σ H Q I h;refine BoolOp_and<|v6 (f p s σ H _ I h) ?_;rintro v g ⟨x,H1,d,r,q⟩;obtain⟨c,rfl,q⟩:=q;cases r;refine Nl ?_;cases c with
 |true=>exact e p g σ H1 Q d q
 |false=>exact⟨.bl c5,H1,d,rfl,q⟩
def Ie(f:PE X a ta):PE X (.UnaryOp .Not a pos) (tNotV ta):=by intro p s σ H Q I h;refine UnaryOp_<|v6 (f p s σ H _ I h) ?_;rintro v e ⟨x,H1,d,r,b⟩;obtain⟨c,rfl,b⟩:=b;cases r;exact not_of<|Nl ⟨.bl<|!c,H1,d,rfl,b⟩
end
def Kx(K:u6)(H:Hp)(a:d6)(xs:List V):Prop:=Rd H a (.lst xs) \/∃(o:d7) (its:Array c6) (n:Nat),K.lookup a=a7 o/\o.cls=.type "list"/\o.dict=a8/\o.data=.seq its n/\its.size<=sizeLine/\az xs its.toList
def D0(K:u6)(H:Hp)(a:d6)(xs:List V):Prop:=Rd H a (.tup xs) \/∃(o:d7) (its:Array c6) (n:Nat),K.lookup a=a7 o/\o.cls=.type "tuple"/\o.dict=a8/\o.data=.seq its n/\its.size<=sizeLine/\az xs its.toList
noncomputable def absV:c6->Option V
 |.none=>a7 .non
 |.bool b=>a7<|.bl b
 |.int i _=>a7<|.int i
 |.str x _=>a7<|.str x
 |.bytes b _=>a7<|.byt b
 |.float b _=>a7<|.flt b
 |.ref a=>a7<|.ref a
 |.type n=>a7<|.ty n
 |_=>a8
def aR.abs(r:aR x u):absV u=a7 x:=by
 cases x with
 |non=>cases r;rfl
 |bl _=>cases r;rfl
 |int _=>obtain⟨t,rfl⟩:=r;rfl
 |str _=>obtain⟨t,rfl⟩:=r;rfl
 |byt _=>obtain⟨t,rfl⟩:=r;rfl
 |flt _=>obtain⟨t,rfl⟩:=r;rfl
 |ref _=>cases r;rfl
 |ty _=>cases r;rfl
def aR.inj(r:aR x u)(q:aR y u):x=y:=C1<|r.abs.symm.trans q.abs
def az.inj(h:az xs us)(h':az ys us):xs=ys:=by
 induction h generalizing ys with
 |nil=>cases h';rfl
 |cons r t i=>cases h' with
  |cons r' t'=>rw[r.inj r',i t']
def D0.of{K:u6}(h:H a=a7 (.tup xs)):D0 K H a xs:=.inl<|.inl h
def t5.list(I:t5 X pins σ H s)(h:Kx X.K H a xs):∃its:List c6,az xs its/\PlainL s.heap a its.toArray/\xs.length<=sizeLine:=by
 rcases h with h|⟨o,its,n,k,f,d,hs,b,r⟩
 obtain⟨z,its,n,r,e⟩:=h.ok I.hok;exact⟨its,r,⟨_,n,e,rfl,rfl,rfl⟩,z⟩;refine⟨its.toList,r,⟨o,n,I.kIn a o k,f,d,by simpa using hs⟩,?_⟩;have e:=r.length;simp only[G7]at e;lia
def t5.tuple(I:t5 X pins σ H s)(h:D0 X.K H a xs):∃its:List c6,az xs its/\IsTup s.heap a its.toArray/\xs.length<=sizeLine:=by
 rcases h with h|⟨o,its,n,k,f,_,hs,b,r⟩
 obtain⟨z,its,r,p⟩:=h.ok I.hok;exact⟨its,r,p.tup,z⟩;refine⟨its.toList,r,⟨o,I.kIn a o k,f,n,by simpa using hs⟩,?_⟩;have e:=r.length;simp only[G7]at e;lia
def t5.list_inj(I:t5 X pins σ H s)(h:Kx X.K H a xs)(h':Kx X.K H a ys):xs=ys:=by
 obtain⟨its,r,⟨o,n,e,_,_,d⟩,_⟩:=I.list h;obtain⟨i,r',⟨o',f,c,_,_,b⟩,_⟩:=I.list h';rw[e]at c;cases c;rw[d]at b;injection b with d1 _;have:its=i:=by simpa using q9 Array.toList d1
 subst this;exact r.inj r'
def t5.tuple_inj(I:t5 X pins σ H s)(h:D0 X.K H a xs)(h':D0 X.K H a ys):xs=ys:=by
 obtain⟨its,r,⟨o,e,_,n,d⟩,_⟩:=I.tuple h;obtain⟨i,r',⟨o',c,_,f,b⟩,_⟩:=I.tuple h';rw[e]at c;cases c;rw[d]at b;injection b with d1 _;have:its=i:=by simpa using q9 Array.toList d1
 subst this;exact r.inj r'
noncomputable abbrev Cx.wish(X:Cx)(E:c6->f9->Prop):Cx:={ X with xe:=E }
noncomputable abbrev Cx.nox(X:Cx):Cx:=X.wish λ_ _=>False
def Cx.Ok.wish{X:Cx}(ok:X.Ok)(E:c6->f9->Prop):(X.wish E).Ok:=⟨ok.mod,ok.kind,ok.glob,ok.blt,ok.above,ok.inj,ok.has,ok.cab,ok.hd,ok.frames,ok.stk,ok.exf,ok.bs,ok.bsz,ok.noex,ok.exfs,ok.funs,ok.frf⟩
def Cx.Ok.unwish{X:Cx}{E:c6->f9->Prop}(ok:(X.wish E).Ok):X.Ok:=⟨ok.mod,ok.kind,ok.glob,ok.blt,ok.above,ok.inj,ok.has,ok.cab,ok.hd,ok.frames,ok.stk,ok.exf,ok.bs,ok.bsz,ok.noex,ok.exfs,ok.funs,ok.frf⟩
def t5.wish(I:t5 X pins σ H s)(E:c6->f9->Prop):t5 (X.wish E) pins σ H s:=⟨I.ok.wish E,I.os,I.bare,I.base,I.loc,I.cell,I.free,I.freeC,I.pin,I.hok,I.len⟩
def t5.unwish(I:t5 (X.wish E) pins σ H s):t5 X pins σ H s:=⟨I.ok.unwish,I.os,I.bare,I.base,I.loc,I.cell,I.free,I.freeC,I.pin,I.hok,I.len⟩
def SP.unwish(h:SP (X.wish E) pins D f s'):SP X pins D f s':=by
 cases f with
 |next=>obtain⟨a,H',I,q⟩:=h;exact⟨a,H',I.unwish,q⟩
 |brk=>obtain⟨a,H',I,q⟩:=h;exact⟨a,H',I.unwish,q⟩
 |cont=>obtain⟨a,H',I,q⟩:=h;exact⟨a,H',I.unwish,q⟩
 |ret u=>obtain⟨v,a,H',I,r,q⟩:=h;exact⟨v,a,H',I.unwish,r,q⟩
def PE.nox(h:PE X.nox e t):PE X e t:=λp s σ H Q I w =>
 D3 (h p s σ H Q (I.wish _) w) (λ_ _ ⟨v,H',a,r,q⟩=>⟨v,H',a.unwish,r,q⟩) λ_ _ z=>H9 z
def Kz.nox{st:List i8}{t:TS}(h:Kz X.nox st t):Kz X st t:=λp s σ H D I w =>
 D3 (h p s σ H D (I.wish _) w) (λ_ _ q=>q.unwish) λ_ _ z=>H9 z
def tNext:TS:=λD σ H=>D.nx σ H
def tSeq(t u:TS):TS:=λD σ H=>t { D with nx:=u D } σ H
def Fb:Kz X [] tNext:=λ_ _ σ H _ I h=>N7 ⟨σ,H,I,h⟩
def Cn{X:Cx}{st:i8}{aO:List i8}{t u:TS}(h1:PS X st t)(h2:Kz X aO u):Kz X (st::aO) (tSeq t u):=by
 intro p s σ H D I h;refine Pm<|v6 (h1 p s σ H { D with nx:=u D } I h) λf c q=>?_;cases f with
 |next=>obtain⟨a,H',b,q⟩:=q;exact h2 p c a H' D b q
 |ret v=>exact q
 |brk=>exact q
 |cont=>exact q
def Fa{X:Cx}{st:i8}{t:TS}(h1:PS X st t):Kz X [st] t:=by
 intro p s σ H D I h;refine Pm<|v6 (h1 p s σ H D I h) λf c q=>?_;cases f with
 |next=>exact N7 q
 |ret v=>exact q
 |brk=>exact q
 |cont=>exact q
def t5.quiet(I:t5 X pins σ H s):interactive X.env=c5:=by simp[interactive,I.ok.kind]
def tDrop(te:TE):TS:=λD σ H=>te σ H λ_ H1=>D.nx σ H1
def Fc(i:PE X e te)(hs:j0 e a8 pos.line X.env=pure c5:=by rfl):PS X (.Expr e pos) (tDrop te):=by intro p s σ H D I h;exact wpAny_Expr_any (v6 (i p s σ H _ I h) λv c ⟨x,H1,a,r,b⟩=>⟨σ,H1,a,b⟩) I.quiet hs
def tRet(te:TE):TS:=λD σ H=>te σ H D.rt
def HR(i:PE X e te):PS X (.Return (a7 e) pos) (tRet te):=by intro p s σ H D I h;refine wpAny_Return_some<|v6 (i p s σ H _ I h) ?_;rintro v c ⟨x,H1,a,r,b⟩;exact⟨x,σ,H1,a,r,b⟩
def tIfS(c:TT)(t u:TS):TS:=λD σ H=>c σ H λb H1=>if b=a9 then t D σ H1 else u D σ H1
def ps_if(j:PT X c tc)(g:Kz X a t)(i:Kz X b u):PS X (.If c a b pos) (tIfS tc t u):=by
 intro p s σ H D I h;refine wpAny_If<|v6 (j p s σ H _ I h) ?_;rintro d f ⟨H1,e,q⟩;cases d with
 |true=>exact g p f σ H1 D e q
 |false=>exact i p f σ H1 D e q
abbrev TG:=V->St->Hp->(St->Hp->Prop)->Prop
abbrev Ov:=List V->St->Hp->(St->Hp->Prop)->Prop
def PG(X:Cx)(a:i3)(t:TG):Prop:=∀(p:List (d6×d7)) (s:f9) (σ:St) (H:Hp) (v:V) (u:c6) (Q:St->Hp->Prop),t5 X p σ H s->aR v u->t v σ H Q ->i0 (i4 X.prog X.w) X.A (j2 a X.env u) (λ_ s'=>∃b H',t5 X p b H' s'/\Q b H') X.xe s
def Ox(X:Cx)(ts:List i3)(t:Ov):Prop:=∀(p:List (d6×d7)) (s:f9) (σ:St) (H:Hp) (vs:List V) (us:List c6) (Q:St->Hp->Prop),t5 X p σ H s->az vs us->t vs σ H Q ->i0 (i4 X.prog X.w) X.A (assignInOrder ((j3 ts X.env).map (·.2)) us) (λ_ s'=>∃a H',t5 X p a H' s'/\Q a H') X.xe s
abbrev TSet:=V->V->V->Hp->(Hp->Prop)->Prop
def PSet(X:Cx)(t:TSet):Prop:=∀(p:List (d6×d7)) (s:f9) (σ:St) (H:Hp) (o i v:V) (b a u:c6) (Q:Hp->Prop),t5 X p σ H s->aR o b->aR i a->aR v u->t o i v H Q ->i0 (i4 X.prog X.w) X.A (setItem b a u) (λ_ s'=>∃H',t5 X p σ H' s'/\Q H') X.xe s
def Jw(i:Nat):TG:=λv σ H Q=>Q (σ.set i<|a7 v) H
def Fh(b:X.N.Nodup)(hi:X.N[i]?=a7 x)(c:MZ X.env.scope x)(f:X.fn x=a9\/X.env.scope.names.lookup x=a7 .local:=by first|exact .inl rfl|exact .inr rfl|assumption):PG X (.Name x pos) (Jw i):=by intro p s σ H v u Q I r h;exact wpAny_assign_Name<|jM I b hi c r (λs' a=>⟨_,H,a,h⟩) f
def gNil:Ov:=λvs σ H Q=>vs=[]/\Q σ H
def gCons(t:TG)(u:Ov):Ov:=λvs σ H Q=>∃v r,vs=v::r/\t v σ H λa H'=>u r a H' Q
def Fg:Ox X [] gNil:=by intro p s σ H vs us Q I r h;obtain⟨e,h⟩:=h;subst e;cases r;exact assignInOrder_nil ⟨σ,H,I,h⟩
def Cq(h1:PG X e t)(h2:Ox X es u)(hs:(j3 (e::es) X.env).map (·.2)=j2 e X.env::(j3 es X.env).map (·.2):=by rfl):Ox X (e::es) (gCons t u):=by
 intro p s σ H vs us Q I r h;obtain⟨v,g,c,h⟩:=h;subst c;cases r with
 |cons r d=>rw[hs];refine assignInOrder_cons<|v6 (h1 p s σ H _ _ _ I r h) ?_;rintro _ f ⟨a,H1,b,q⟩;exact h2 p f a H1 _ _ Q b d q
def gTup(K:u6)(n:Nat)(t:Ov):TG:=λv σ H Q=>∃a xs,v=.ref a/\D0 K H a xs/\xs.length=n/\t xs σ H Q
def HY(i:X.calm=a9)(h:Ox X es t)(j:(j3 es X.env).length=n:=by rfl) (c:(j3 es X.env).findIdx? (·.1)=a8:=by rfl):PG X (.Tuple es k pos) (gTup X.K n t):=by intro p s σ H v u Q I r w;obtain⟨a,xs,g,q,l,w⟩:=w;subst g;cases r;obtain⟨its,d,D,z⟩:=I.tuple q;refine assign_Tuple_tuple (I.ok.hd i) D (by simp[j,<-l,d.length]) c λh' x=>?_;have f:t5 X p σ H { s with heap:=h' }:=I.kept (t':=s.toks) λb o e=>x b o (A4<|z8 e) e;exact h p _ σ H xs _ Q f (by simpa using d) w
def gSub(d c:TE)(t:TSet):TG:=λv σ H Q=>d σ H λo H1=>c σ H1 λi a=>t o i v a λb=>Q σ b
def HZ(B:PE X o to)(hi:PE X i ti)(hs:PSet X t)(f:∀v,j2 (.Subscript o i pos) X.env v=(do
   let ov <-i9 [v] (eval o X.env)
   let iv <-i9 [v,ov] (eval i X.env)
   standAt pos
   i9 [v,ov,iv] (setItem ov iv v)
   release [v,ov,iv] []):=by intro _;rfl):PG X (.Subscript o i pos) (gSub to ti t):=by intro p s σ H v u Q I r h;rw[f];refine t4<|J6<|v6 (B p s σ H _ I h) ?_;rintro ov m ⟨x,H1,c,k,q⟩;refine t4<|J6<|v6 (hi p m σ H1 _ c q) ?_;rintro iv n ⟨y,a,d,l,g⟩;refine t4<|wpAny_standAt<|t4<|J6<|v6 (hs p n σ a x y v ov iv u _ d k l r g) ?_;rintro _ w ⟨b,e,j⟩;exact wpAny_release ⟨σ,b,e,j⟩
def tAsg(te:TE)(g:TG):TS:=λD σ H=>te σ H λx H1=>g x σ H1 D.nx
def HV(i:PE X e te)(S:PG X tg g)(hs:swapsWithSole [tg] e pos.line X.env=pure c5:=by rfl)(w:swappedStores [tg] e X.env=pure a8:=by rfl)(h1:(j3 [tg] X.env).map (·.2)=[j2 tg X.env]:=by rfl):PS X (.Assign [tg] e pos) (tAsg te g):=by intro p s σ H D I h;refine wpAny_Assign_stores (v6 (i p s σ H _ I h) ?_) hs w;rintro v c ⟨x,H1,a,r,b⟩;rw[h1];exact v6 (S p c σ H1 x v _ a r b) λ_ n q=>q
def HQ(b:X.N.Nodup)(hi:X.N[i]?=a7 x)(g:MZ X.env.scope x)(c:PE X e te)(hs:j0 e (a7<|.Name x pos') pos.line X.env=pure c5:=by rfl)(f:X.fn x=a9\/X.env.scope.names.lookup x=a7 .local:=by first|exact .inl rfl|exact .inr rfl|assumption):PS X (.Assign [.Name x pos'] e pos) (tAsg te<|Jw i):=by intro p s σ H D I h;refine wpAny_Assign_Name (v6 (c p s σ H _ I h) ?_) hs;rintro v j ⟨y,H1,a,r,q⟩;exact jM a b hi g r (λn d=>⟨_,H1,d,q⟩) f
structure It where
 go:Nat->Hp->Prop
 yld:Nat->Hp->V->Hp->Prop
 stop:Nat->Hp->Prop
def oy(X:Cx)(pins:List (d6×d7))(H:Hp)(b:d6):Prop:=H b=a8/\b≠X.env.locals/\b∉X.fs/\(b∈X.ex\/X.s₀.heap.objs.size<=b)/\(∀x c,X.env.cells.lookup x=a7 c->c≠b)/\∀p∈X.pn++pins,p.1≠b
def t5.fpOk(I:t5 X pins σ H s)(d:s.heap.objs.size<=b)(f:H' b=a8):oy X pins H' b:=by refine⟨f,Nc<|E5 I.lt d,I.nofs d,.inr<|KY I.sz d,λx c e z=>?_,λp h z=>?_⟩;obtain⟨v,q⟩:=I.cell x c e;exact p5 (E5 q.lt<|by rw[z];exact d)<|E8 _;exact p5 (E5 (z8 (I.pin p h).1)<|by rw[z];exact d)<|E8 _
structure Turn(P:d5)(w:c9)(K:u6)(tg:i3)(J:It)(fp:List d6)(it:d6)(tn:Nat->d8->Prop):Prop where
 mem:it∈fp
 obj:∀i h,tn i h->∀b∈fp,∃o,h.get? b=a7 o/\∀v,o.data≠.cell v
 keep:∀i h h',tn i h->(∀b∈fp,∀o,h.get? b=a7 o->h'.get? b=a7 o)->tn i h'
 item:∀(X:Cx),X.prog=P->X.w=w->X.K=K->X.calm=a9->∀(i:Nat) (pins:List (d6×d7)) (s:f9) (σ:St) (H:Hp) (E:c6->f9->Prop),t5 X pins σ H s->(∀b∈fp,oy X pins H b)->tn i s.heap->J.go i H ->i0 (i4 P w) X.A (j4<|.ref it) (λr s1=>∃u,r=a7 u /\ i0 (i4 P w) X.A (j5 tg (.ref it) u) (λ_ s2=>∃x H',t5 X pins σ H' s2/\aR x u/\J.yld i H x H'/\tn (i+1) s2.heap/\∀b∈fp,H' b=a8) E s1) E s
 done:∀(X:Cx),X.prog=P->X.w=w->X.K=K->X.calm=a9->∀(i:Nat) (pins:List (d6×d7)) (s:f9) (σ:St) (H:Hp) (E:c6->f9->Prop),t5 X pins σ H s->(∀b∈fp,oy X pins H b)->tn i s.heap->J.stop i H ->i0 (i4 P w) X.A (j4<|.ref it) (λr s1=>r=a8/\t5 X pins σ H s1) E s
 self:∀(A:f8) (i:Nat) (s:f9) (Q:c6->f9->Prop) (E:c6->f9->Prop),tn i s.heap->Q (.ref it) s->i0 (i4 P w) A (j6<|.ref it) Q E s
abbrev TI:=St->Hp->(It->Hp->Prop)->Prop
inductive O5(X:Cx)(pins:List (d6×d7))(σ:St)(tg:i3)(R:It->Hp->Prop)(itv:c6)(s2:f9):Prop
 |mk (it:d6) (fp:List d6) (tn:Nat->d8->Prop) (J:It) (H':Hp) (f0:itv=.ref it) (f1:t5 X pins σ H' s2) (f2:Turn X.prog X.w X.K tg J fp it tn) (f3:tn 0 s2.heap) (f4:(∀b∈fp,oy X pins H' b)) (f5:R J H')
def PI(X:Cx)(g r:i3)(wi:TI):Prop:=∀(p:List (d6×d7)) (s:f9) (σ:St) (H:Hp) (R:It->Hp->Prop),t5 X p σ H s->wi σ H R ->i0 (i4 X.prog X.w) X.A (eval r X.env) (λv c=>i0 (i4 X.prog X.w) X.A (j6 v) (O5 X p σ g R) X.xe c) X.xe s
def AJ(B:s.heap.get? it=a7 o)(f:o.cls=.type n)(d:o.data=.fields vs)(a:["enumerate","zip","dict_itemiterator","dict_reverseitemiterator","odict_iterator","itertools.zip_longest","itertools.pairwise"].contains n=c5) (b:Q () s):i0 M A (j5 tg (.ref it) u) Q E s:=by
 unfold j5;cases tg<;>first
  |exact u5 b
  |(cases u<;>first
    |exact u5 b
    |(refine t4 (wpAny_load B ?_);rw[f,d];show i0 M A (if (["enumerate","zip","dict_itemiterator","dict_reverseitemiterator","odict_iterator","itertools.zip_longest","itertools.pairwise"].contains n&&vs[0]?==a7 (j7 _))=a9 then _ else _) Q E s;rw[p0 (by intro h;rw[a,Pf]at h;cases h)];exact u5 b))
noncomputable def QM(K:u6)(a:d6):It:=⟨λi H=>∃xs x,Kx K H a xs/\xs[i]?=a7 x,λi H x H'=>H'=H/\∀xs,Kx K H a xs->xs[i]?=a7 x,λi H=>∃xs,Kx K H a xs/\xs.length<=i⟩
noncomputable def QL(K:u6)(a:d6):It:=⟨λi H=>∃xs x,D0 K H a xs/\xs[i]?=a7 x,λi H x H'=>H'=H/\∀xs,D0 K H a xs->xs[i]?=a7 x,λi H=>∃xs,D0 K H a xs/\xs.length<=i⟩
noncomputable def Nw(lo:Int)(n:Nat):It:=⟨λi _=>i<n,λi H x H'=>H'=H/\x=.int (lo+i),λi _=>n<=i⟩
theorem rV{P:d5}{w:c9}{K:u6}{U:i3}(a it:d6):Turn P w K U (QM K a) [it] it (λi h=>h.IsListIter it a i) where
 mem:=by simp
 obj:=λi h st b g=>by
  have e:b=it:=by simpa using g
  subst e;obtain⟨o,e,c,d⟩:=st;exact⟨o,e,λv z=>by rw[d]at z;cases z⟩
 keep:=λi h h' st k=>st.at λo e=>k it b9 o e
 item:=by intro X B C A G i f s σ H E I l st S;subst B C A;obtain⟨xs,x,q,D⟩:=S;obtain⟨its,F,p,Q⟩:=I.list q;obtain⟨u,N,R⟩:=F.get D;obtain⟨m,n,M,r,t,y⟩:=l it b9;refine wpAny_pyNext_list_item st p.isList (x:=u) (by simpa using N) λh' j T=>?_;have J:t5 X f σ H { s with heap:=h' }:=I.turned (t':=s.toks) (λb o g e=>(T.2 b g).trans e) m n r t y;obtain⟨o,e,c,d⟩:=id j;exact⟨u,rfl,AJ (s:={ s with heap:=h' }) e c d b0 ⟨x,H,J,R,⟨rfl,λys O=>by rw[I.list_inj O q];exact D⟩,j,λb g=>(l b g).1⟩⟩
 done:=by intro X B C A G i f s σ H E I l st S;subst B C A;obtain⟨xs,q,D⟩:=S;obtain⟨its,F,p,Q⟩:=I.list q;obtain⟨m,n,M,r,t,y⟩:=l it b9;have V:=F.length;exact wpAny_pyNext_list_end (I.ok.hd G) st p.isList c4 λh' L=>⟨rfl,I.turned (t':=s.toks) (λb o g e=>L b o g e) m n r t y⟩
 self:=λ_ _ _ _ _ st h=>wpAny_pyIter_listiter st h
theorem oS{P:d5}{w:c9}{K:u6}{U:i3}(a it:d6):Turn P w K U (QL K a) [it] it (λi h=>h.IsTupleIter it a i) where
 mem:=by simp
 obj:=λi h st b g=>by
  have e:b=it:=by simpa using g
  subst e;obtain⟨o,e,c,d⟩:=st;exact⟨o,e,λv z=>by rw[d]at z;cases z⟩
 keep:=λi h h' st k=>st.at λo e=>k it b9 o e
 item:=by intro X B C A G i f s σ H E I l st S;subst B C A;obtain⟨xs,x,q,D⟩:=S;obtain⟨its,F,p,Q⟩:=I.tuple q;obtain⟨u,N,R⟩:=F.get D;obtain⟨m,n,M,r,t,y⟩:=l it b9;refine wpAny_pyNext_tuple_item st (show s.heap.IsTuple a its.toArray from p) (x:=u) (by simpa using N) λh' j T=>?_;have J:t5 X f σ H { s with heap:=h' }:=I.turned (t':=s.toks) (λb o g e=>(T.2 b g).trans e) m n r t y;obtain⟨o,e,c,d⟩:=id j;exact⟨u,rfl,AJ (s:={ s with heap:=h' }) e c d b0 ⟨x,H,J,R,⟨rfl,λys O=>by rw[I.tuple_inj O q];exact D⟩,j,λb g=>(l b g).1⟩⟩
 done:=by intro X B C A G i f s σ H E I l st S;subst B C A;obtain⟨xs,q,D⟩:=S;obtain⟨its,F,p,Q⟩:=I.tuple q;obtain⟨m,n,M,r,t,y⟩:=l it b9;have V:=F.length;exact wpAny_pyNext_tuple_end (I.ok.hd G) st (show s.heap.IsTuple a its.toArray from p) c4 λh' L=>⟨rfl,I.turned (t':=s.toks) (λb o g e=>L b o g e) m n r t y⟩
 self:=λ_ _ _ _ _ st h=>wpAny_pyIter_tupleiter st h
def oU{P:d5}{w:c9}{K:u6}{D:i3}(it:d6)(lo:Int)(n:Nat):Turn P w K D (Nw lo n) [it] it (λi h=>IsRangeIter h it (lo+(i:Nat)*1) ((n:Int)-(i:Nat)) 1) where
 mem:=by simp
 obj:=λi h st b d=>by
  have e:b=it:=by simpa using d
  subst e;exact⟨_,st,λv z=>by have F:Data.fields _=Data.cell v:=z;cases F⟩
 keep:=λi h h' st k=>k it b9 _ st
 item:=by intro X B l A g i p s σ H E I f st S;subst B l A;obtain⟨m,a,M,r,c,y⟩:=f it b9;have W:=Walks.range (prog:=X.prog) (w:=X.w) (I.ok.hd g) it lo 1 n;refine W.item i s _ _ S st λv h' q x j C=>?_;obtain⟨t,rfl⟩:=x;have u:t5 X p σ H { s with heap:=h',toks:=q }:=I.turned (λb o d e=>C b o (by simpa using d) e) m a r c y;refine⟨_,rfl,AJ (s:={ s with heap:=h',toks:=q }) (n:="range_iterator") j rfl rfl b0 ⟨.int<|lo+i,H,u,⟨t,?_⟩,⟨rfl,rfl⟩,j,λb d=>(f b d).1⟩⟩;rw[Int.mul_one]
 done:=by intro X B l A g i p s σ H E I f st S;subst B l A;obtain⟨m,a,M,r,c,y⟩:=f it b9;exact wpAny_pyNext_range_end (I.ok.hd g) st (by have:n<=i:=S;lia) λh' L=>⟨rfl,I.turned (t':=s.toks) (λb o d e=>L b o d e) m a r c y⟩
 self:=λ_ _ _ _ _ st h=>wpAny_pyIter_rangeiter st h
def wC{pins:List (d6×d7)}{σ:St}{H:Hp}{s:f9}{R:It->Hp->Prop}{E:c6->f9->Prop}{lo hi:Int}{t u v:Tok}{tk:Nat}(I:t5 X pins σ H s)(h1:-(2 ^ 62)<=lo)(h2:lo<2 ^ 62)(h:-(2 ^ 62)<=hi)(d:hi<2 ^ 62)(q:R (Nw lo (hi-lo).toNat) H):i0 (i4 X.prog X.w) X.A (j6<|.ref s.heap.objs.size) (O5 X pins σ tg R) E { s with heap:=s.heap.push { cls:=.type "range",data:=.fields #[.int lo t,.int hi u,.int 1 v] },toks:=tk }:=by
 refine wpAny_pyIter_range (IsRange.new ..) (small_one h1 h2 h d) ?_;have a:t5 X pins σ H { s with heap:=s.heap.push { cls:=.type "range",data:=.fields #[.int lo t,.int hi u,.int 1 v] },toks:=tk }:=I.kept λb o e=>w5 _ e;refine⟨(s.heap.push { cls:=.type "range",data:=.fields #[.int lo t,.int hi u,.int 1 v] }).objs.size,[(s.heap.push { cls:=.type "range",data:=.fields #[.int lo t,.int hi u,.int 1 v] }).objs.size],_,_,H,rfl,a.kept (t':=tk) λb o e=>w5 _ e,oU _ lo (hi-lo).toNat,?_,λb f=>?_,q⟩;have c:lo+((0:Nat):Int)*1=lo:=by simp
 have l:(((hi-lo).toNat:Nat):Int)-((0:Nat):Int)=Builtin.Range.rangeSize lo hi 1:=by rw[rangeSize_one];split<;>lia
 show IsRangeIter _ _ (lo+((0:Nat):Int)*1) ((((hi-lo).toNat:Nat):Int)-((0:Nat):Int)) 1;rw[c,l];exact B6 _ rfl;have e:b=(s.heap.push { cls:=.type "range",data:=.fields #[.int lo t,.int hi u,.int 1 v] }).objs.size:=by simpa using f
 subst e;exact a.fpOk (v7 _)<|a.hok.fresh<|v7 _
def Gn(a:TA):TI:=λσ H R=>a σ H λvs H1=>∃j:Int,vs=[.int j]/\-(2 ^ 62)<=j/\j<2 ^ 62/\R (Nw 0 j.toNat) H1
def iRng2(a:TA):TI:=λσ H R=>a σ H λvs H1=>∃i j:Int,vs=[.int i,.int j]/\(-(2 ^ 62)<=i/\i<2 ^ 62/\-(2 ^ 62)<=j/\j<2 ^ 62)/\R (Nw i (j-i).toNat) H1
def zH{a:i3}{d:TA}{p pos:i5}(S:Gl X "range")(m:X.mg "range" = a8)(g:PA X [a] d)(hs:i7 [a] X.env=[(c5,eval a X.env)]:=by rfl):PI X tg (.Call (.Name "range" p) [a] [] pos) (Gn d):=by
 intro b s σ H R I h;refine Call_<|iB I S m boot_range<|Ol (v6 (g pos b s σ H _ I h) ?_) hs rfl;rintro us n ⟨vs,H1,f,k,c⟩;obtain⟨j,e,c,i,q⟩:=c;subst e;cases k with
 |cons r l=>cases l;obtain⟨t,rfl⟩:=r;exact call_range_1<|wC f b7 b7 c i<|by simpa using q
def zG(S:Gl X "range")(m:X.mg "range" = a8)(l:PA X [a,b] ta)(hs:i7 [a,b] X.env=[(c5,eval a X.env),(c5,eval b X.env)]:=by rfl)(c:i7 [b] X.env=[(c5,eval b X.env)]:=by rfl):PI X tg (.Call (.Name "range" p) [a,b] [] pos) (iRng2 ta):=by
 intro d s σ H R I h;refine Call_ (iB I S m boot_range<|Ol (v6 (l pos d s σ H _ I h) ?_) (by rw[hs,c])<|by rw[c];rfl);rintro us w ⟨vs,H1,k,v,f⟩;obtain⟨i,j,e,⟨f,n,o,u⟩,q⟩:=f;subst e;cases v with
 |cons r g =>
  cases g with
  |cons r' g=>cases g;obtain⟨t,rfl⟩:=r;obtain⟨t',rfl⟩:=r';exact call_range_2<|wC k f n o u q
def tFor(wi:TI)(g:TG)(t:TS):TS:=λD σ H=>wi σ H λJ H1=>∃W:Nat->Nat->St->Hp->Prop,(∃m,W 0 m σ H1)/\∀i m σ H,W i m σ H ->(J.stop i H/\D.nx σ H)\/(J.go i H/\∃N:St->Hp->Prop,(∀a H',N a H'->∃c,c < m/\W (i+1) c a H')/\∀x H',J.yld i H x H'->g x σ H' λb d=>t { D with nx:=N,ct:=N,bk:=D.nx } b d)
noncomputable def eE(fp:List d6)(h:d8):List (d6×d7):=fp.filterMap λb=>(h.get? b).map λo=>(b,o)
def du(d:b∈fp)(e:h.get? b=a7 o):(b,o)∈eE fp h:=OS.mpr ⟨b,d,by rw[e];rfl⟩
def nD(c:p∈eE fp h):p.1∈fp/\h.get? p.1=a7 p.2:=by
 obtain⟨b,d,e⟩:=List.mem_filterMap.mp c;cases q:h.get? b with
 |none=>rw[q]at e;cases e
 |some o=>rw[q]at e;have a:(b,o)=p:=C1 e;subst a;exact⟨d,q⟩
def t5.pinned(I:t5 X pins σ H s)(f:∀b∈fp,oy X pins H b)(B:∀b∈fp,∃o,s.heap.get? b=a7 o/\∀v,o.data≠.cell v):t5 X (pins++eE fp s.heap) σ H s:=I.pins_of λp c=>(J7.mp c).elim (λz=>I.pin p<|E3 _ z) λz=>by obtain⟨h,e⟩:=nD z;obtain⟨m,n,M,_⟩:=f p.1 h;obtain⟨o,a,d⟩:=B p.1 h;rw[e]at a;cases a;exact⟨e,m,n,M,d⟩
def t5.unpinned(I:t5 X (pins++pl) σ H s):t5 X pins σ H s:=I.pins_of λp h=>I.pin p<|E3 _<|NK _ h
def HU(F:PassesOwn (i4 X.prog X.w) X.A X.env X.xe)(hc:X.calm=a9)(hi:PI X tg iter wi)(hg:PG X tg g)(l:Kz X body tb)(hs:∀x,j8 iter X.env x=pure x:=by intro _;rfl):PS X (.For tg iter body [] pos) (tFor wi g tb):=by
 intro p s σ H D I h;refine wpAny_For (v6 (hi p s σ H _ I h) λv s1 h1=>v6 h1 λab s2 h2=>?_) hs;obtain⟨it,C,tn,J,H2,e,I2,T,U,f2,W,⟨m0,w0⟩,M⟩:=h2;subst e
 -- what stays a9 of the iterator's objects through the loop
 have t:∀{H':Hp},(∀b∈C,H' b=a8)->∀b∈C,oy X p H' b:=λhn b l=>⟨hn b l,(f2 b l).2⟩
 refine codeAny_forLoop_any (λn s'=>∃i q H',t5 X p q H' s'/\tn i s'.heap/\(∀b∈C,H' b=a8)/\W i n q H') ?_ m0 ⟨0,σ,H2,I2,U,λb l=>(f2 b l).1,w0⟩;rintro n s3 ⟨i,y,O,Z,K,E,w3⟩;rcases M i n y O w3 with⟨stop,qn⟩|⟨go,N,hN,L⟩
 refine OL F<|v6 (T.done X rfl rfl rfl hc i p s3 y O X.xe Z (t E) K stop) ?_;rintro r s4 ⟨R,I4⟩;subst R;exact N7 ⟨y,O,I4,qn⟩
 ·refine OL F (v6 (T.item X rfl rfl rfl hc i p s3 y O X.xe Z (t E) K go) ?_)
  rintro r s4 ⟨u,R,h4⟩;subst R;refine OL F<|v6 h4 ?_;rintro _ s5 ⟨x,Y,I5,r5,y5,B,Q⟩;have P:=I5.pinned (t Q)<|T.obj _ _ B;refine OL F<|v6 (hg _ s5 y Y x u _ P r5<|L x Y y5) ?_;rintro _ s6 ⟨V,H6,I6,q6⟩;refine OL F<|v6 (l _ s6 V H6 _ I6 q6) λf S z=>?_;have k:∀{a:St}{c:Hp},t5 X (p++eE C s5.heap) a c S->N a c->∃m,m<n/\∃i q H',t5 X p q H' S/\tn i S.heap/\(∀b∈C,H' b=a8)/\W i m q H':=λ{a c} j G=>by obtain⟨m',hm,w7⟩:=hN a c G;refine⟨m',hm,i+1,a,c,j.unpinned,T.keep _ _ _ B λb l o e=>(j.pin (b,o)<|E3 _<|E3 _<|du l e).1,λb l=>?_,w7⟩;obtain⟨o,e,d⟩:=T.obj _ _ B b l;exact(j.pin (b,o)<|E3 _<|E3 _<|du l e).2.1
  cases f with
  |next=>obtain⟨a,c,j,G⟩:=z;exact k j G
  |cont=>obtain⟨a,c,j,G⟩:=z;exact k j G
  |brk=>obtain⟨a,c,j,z⟩:=z;exact⟨a,c,j.unpinned,z⟩
  |ret v=>obtain⟨x7,a,c,j,r7,z⟩:=z;exact⟨x7,a,c,j.unpinned,r7,z⟩
abbrev R2:=V->V->Hp->VK->Prop
def D8(X:Cx)(f:c6->c6->Sem c6)(r:R2):Prop:=∀(p:List (d6×d7)) (s:f9) (σ:St) (H:Hp) (x y:V) (v u:c6) (Q:VK),t5 X p σ H s->aR x v->aR y u->r x y H Q ->i0 (i4 X.prog X.w) X.A (f v u) (EP X p σ Q) X.xe s
def O3(X:Cx)(f:c6->Sem c6)(r:V->Hp->VK->Prop):Prop:=∀(p:List (d6×d7)) (s:f9) (σ:St) (H:Hp) (x:V) (v:c6) (Q:VK),t5 X p σ H s->aR x v->r x H Q ->i0 (i4 X.prog X.w) X.A (f v) (EP X p σ Q) X.xe s
def gK(X:Cx)(f:c6)(r:List V->Hp->VK->Prop):Prop:=∀(p:List (d6×d7)) (s:f9) (σ:St) (H:Hp) (xs:List V) (us:List c6) (Q:VK),t5 X p σ H s->az xs us->r xs H Q ->i0 (i4 X.prog X.w) X.A (call f us) (EP X p σ Q) X.xe s
def Om(r:R2)(t b:TE):TE:=λσ H Q=>t σ H λx H1=>b σ H1 λy a=>r x y a Q
def tUn(r:V->Hp->VK->Prop)(a:TE):TE:=λσ H Q=>a σ H λx H1=>r x H1 Q
def rI(C:Int->Int->Prop)(g:Int->Int->V):R2:=λx y H Q=>∃i j,x=.int i/\y=.int j/\C i j/\Q (g i j) H
def Nq(g:Int->Int->V):R2:=λx y H Q=>∃i j,x=.int i/\y=.int j/\Q (g i j) H
def rU(g:Int->V):V->Hp->VK->Prop:=λx H Q=>∃i,x=.int i/\Q (g i) H
def binT(e:PE X a ta)(g:PE X b tb){pins:List (d6×d7)}{s:f9}{σ:St}{H:Hp}{R:V->V->Hp->Prop}(I:t5 X pins σ H s)(h:ta σ H λx H1=>tb σ H1 λy H2=>R x y H2) {Q:c6->f9->Prop}{f:c6->c6->Sem c6}(i:∀v u s2 x y H2,t5 X pins σ H2 s2->aR x v->aR y u->R x y H2->i0 (i4 X.prog X.w) X.A (f v u) Q X.xe s2):i0 (i4 X.prog X.w) X.A (eval a X.env) (λv s₁=>i0 (i4 X.prog X.w) X.A (eval b X.env) (λu s₂=>i0 (i4 X.prog X.w) X.A (f v u) Q X.xe s₂) X.xe s₁) X.xe s:=by refine v6 (e pins s σ H _ I h) ?_;rintro v k ⟨x,H1,c,r,q⟩;refine v6 (g pins k σ H1 _ c q) ?_;rintro u s2 ⟨y,H2,d,l,j⟩;exact i v u s2 x y H2 d r l j
def pe_op{op:Operator}{r:R2}(B:D8 X (j9 op) r)(f:PE X a ta)(e:PE X b tb):PE X (.BinOp a op b pos) (Om r ta tb):=by intro p s σ H Q I h;exact wpAny_BinOp<|binT f e I h λv u n x y c d g i q=>B p n σ c x y v u Q d g i q
def pe_un(B:O3 X (unaryOp op) r)(f:PE X a ta):PE X (.UnaryOp op a pos) (tUn r ta):=by intro p s σ H Q I h;refine UnaryOp_<|v6 (f p s σ H _ I h) ?_;rintro v d ⟨x,H1,b,c,q⟩;exact B p d σ H1 x v Q b c q
def P4{f:c6->c6->Sem c6}{C:Int->Int->Prop}{g:Int->Int->Int}(e:∀(i j:Int) (t u:Tok) (s:f9) (Q:c6->f9->Prop) (E:c6->f9->Prop),C i j->Q (.int (g i j) s.toks) { s with toks:=s.toks+1 }->i0 (i4 X.prog X.w) X.A (f (.int i t)<|.int j u) Q E s):D8 X f (rI C λi j=>.int<|g i j):=by intro p s σ H x y v u Q I r a h;obtain⟨i,j,rfl,rfl,c,q⟩:=h;obtain⟨t,rfl⟩:=r;obtain⟨t',rfl⟩:=a;exact e i j t t' s _ _ c ⟨.int<|g i j,H,I.tok _,⟨_,rfl⟩,q⟩
def opI0{f:c6->c6->Sem c6}{g:Int->Int->Int}(e:∀(i j:Int) (t u:Tok) (s:f9) (Q:c6->f9->Prop) (E:c6->f9->Prop),Q (.int (g i j) s.toks) { s with toks:=s.toks+1 }->i0 (i4 X.prog X.w) X.A (f (.int i t)<|.int j u) Q E s):D8 X f (Nq λi j=>.int<|g i j):=by intro p s σ H x y v u Q I r a h;obtain⟨i,j,rfl,rfl,q⟩:=h;obtain⟨t,rfl⟩:=r;obtain⟨t',rfl⟩:=a;exact e i j t t' s _ _ ⟨.int<|g i j,H,I.tok _,⟨_,rfl⟩,q⟩
def opB0{f:c6->c6->Sem c6}{g:Int->Int->Bool}(e:∀(i j:Int) (t u:Tok) (s:f9) (Q:c6->f9->Prop) (E:c6->f9->Prop),Q (.bool<|g i j) s->i0 (i4 X.prog X.w) X.A (f (.int i t)<|.int j u) Q E s):D8 X f (Nq λi j=>.bl<|g i j):=by intro p s σ H x y v u Q I r a h;obtain⟨i,j,rfl,rfl,q⟩:=h;obtain⟨t,rfl⟩:=r;obtain⟨t',rfl⟩:=a;exact e i j t t' s _ _ ⟨.bl<|g i j,H,I,rfl,q⟩
def CMul(i j:Int):Prop:=(-(2 ^ 64)<i/\i<2 ^ 64)\/(-(2 ^ 64)<j/\j<2 ^ 64)
def CMul.ok(h:CMul i j):IntMulOk i j:=by
 rcases h with⟨h1,h2⟩|⟨h1,h2⟩
 exact .of_left<|intBits_le_64 h1 h2;exact .of_right<|intBits_le_64 h1 h2
def Iq:D8 X (j9 .Add) (Nq λi j=>.int<|i+j):=opI0 λ_ _ _ _ _ _ _ q=>add_int q
def Ik:D8 X (j9 .Sub) (Nq λi j=>.int<|i-j):=opI0 λ_ _ _ _ _ _ _ q=>sub_int q
def Im:D8 X (j9 .Mult) (rI CMul λi j=>.int<|i*j):=P4 λ_ _ _ _ _ _ _ f q=>mul_int q f.ok
def Io:D8 X (j9 .Mod) (rI (λ_ j=>0<j) λi j=>.int<|i % j):=P4 λi j _ _ _ _ _ f q=>by have h1:(0:Int)<j:=f;exact mod_int' b7<|by rw[Int.fmod_eq_emod_of_nonneg i<|by lia];exact q
def unI{f:c6->Sem c6}{g:Int->Int}(e:∀(i:Int) (t:Tok) (s:f9) (Q:c6->f9->Prop) (E:c6->f9->Prop),Q (.int (g i) s.toks) { s with toks:=s.toks+1 }->i0 (i4 X.prog X.w) X.A (f<|.int i t) Q E s):O3 X f (rU λi=>.int<|g i):=by intro p s σ H x v Q I r h;obtain⟨i,rfl,q⟩:=h;obtain⟨t,rfl⟩:=r;exact e i t s _ _ ⟨.int<|g i,H,I.tok _,⟨_,rfl⟩,q⟩
def Hk:O3 X (unaryOp .USub) (rU λi=>.int (-i)):=unI λ_ _ _ _ _ q=>neg_int q
def op_lt:D8 X (k4 .Lt) (Nq λi j=>.bl<|decide<|i<j):=opB0 λ_ _ _ _ _ _ _ q=>lt_int q
def op_le:D8 X (k4 .LtE) (Nq λi j=>.bl<|decide<|i<=j):=opB0 λ_ _ _ _ _ _ _ q=>le_int q
def op_ge:D8 X (k4 .GtE) (Nq λi j=>.bl<|decide<|j<=i):=opB0 λ_ _ _ _ _ _ _ q=>ge_int q
def D8.or(h:D8 X f r)(h':D8 X f r'):D8 X f (λx y H Q=>r x y H Q\/r' x y H Q):=by intro p s σ H x y v u Q I g i q;rcases q with q|q;exact h p s σ H x y v u Q I g i q;exact h' p s σ H x y v u Q I g i q
def Fj(B:D8 X (k4 op) r)(f:PE X a ta)(e:PE X b tb)(m:k6 op b=c5):PE X (.Compare a [op] [b] pos) (Om r ta tb):=by intro p s σ H Q I h;exact wpAny_Compare1 (binT f e I h λv u n x y c d g i q=>B p n σ c x y v u Q d g i q) m
def EH(t:TE):TT:=λσ H Q=>t σ H λx H'=>∃k,x=.bl k/\Q k H'
def EZ(B:D8 X (k4 op) r)(l:PE X a ta)(m:PE X b tb)(n:k6 op b=c5):PT X (.Compare a [op] [b] pos) (EH<|Om r ta tb):=by
 intro p s σ H Q I h;refine wpAny_isTrue_Compare1 (v6 (l p s σ H _ I h) λv D ⟨x,H1,g,w,q⟩=>v6 (m p D σ H1 _ g q) λu E ⟨y,d,i,A,o⟩ =>
  v6 (B p E σ d x y v u _ i w A o) λc F ⟨z,f,j,C,k,e,t⟩=>?_) n
 subst e;cases C;exact Nl ⟨f,j,t⟩
def zg(r r':R2)(t d e:TE):TE:=λσ H Q=>t σ H λx H1=>d σ H1 λy a=>r x y a λz b=>∃k,z=.bl k /\(if k=a9 then e σ b λY c=>r' y Y c Q else Q (.bl c5) b)
def Ct(D:D8 X (k4 op) r)(f:D8 X (k4 op') r')(w:PE X a ta)(A:PE X b tb)(B:PE X c tc)(C:lastMarks [op,op'] [b,c]=c5:=by with_unfolding_all rfl):PE X (.Compare a [op,op'] [b,c] pos) (zg r r' ta tb tc):=by
 intro p s σ H Q I h;refine Compare_chain (v6 (w p s σ H _ I h) λv M ⟨x,H1,o,J,E⟩=>chain_link (v6 (A p M σ H1 _ o E) λu N ⟨y,m,q,l,F⟩ =>
  v6 (D p N σ m x y v u _ q J l F) λd O ⟨z,g,i,K,k,e,j⟩=>?_)) C
 subst e;cases K;refine Nl ?_;cases k with
 |false=>exact ite_ff ⟨.bl c5,g,i,rfl,j⟩
 |true=>exact ite_tt<|chain_last<|v6 (B p O σ g _ i j) λY P ⟨R,n,t,L,G⟩=>f p P σ n y R u Y Q t l L G
def Cm(G:D8 X (k4 op) r)(f:D8 X (k4 op') r')(C:PE X a ta)(D:PE X b tb)(E:PE X c tc)(F:lastMarks [op,op'] [b,c]=c5:=by with_unfolding_all rfl):PT X (.Compare a [op,op'] [b,c] pos) (EH<|zg r r' ta tb tc):=by
 intro p s σ H Q I h;refine isTrue_chain (v6 (C p s σ H _ I h) λv T ⟨x,H1,o,O,K⟩=>test_link (v6 (D p T σ H1 _ o K) λu U ⟨y,m,q,l,L⟩ =>
  v6 (G p U σ m x y v u _ q O l L) λd V ⟨z,g,i,P,k,e,j⟩=>?_)) F
 subst e;cases P;refine Nl ?_;cases k with
 |false=>obtain⟨k',A,J⟩:=j;cases A;exact ite_ff ⟨g,i,J⟩
 |true=>refine ite_tt<|test_last<|v6 (E p V σ g _ i j) ?_;rintro Z W ⟨z',n,t,R,M⟩;refine v6 (f p W σ n y z' u Z _ t l R M) ?_;rintro d' s5 ⟨z2,Y,w,S,k2,B,N⟩;subst B;cases S;exact Nl ⟨Y,w,N⟩
def pY:(sizeLine:Nat)<2 ^ 63:=by rw[KW];decide
def xK:D8 X (j9 .Add) (λx y H Q=>∃i j,x=.str i/\y=.str j/\i.length+j.length<=sizeLine/\Q (.str<|i++j) H):=by intro p s σ H x y v u Q I g r h;obtain⟨i,j,rfl,rfl,b,q⟩:=h;obtain⟨t,rfl⟩:=g;obtain⟨t',rfl⟩:=r;exact add_str (λt' k=>⟨.str<|i++j,H,I.tok _,⟨_,rfl⟩,q⟩) b
def BO(r:az [x] us):∃u,us=[u]/\aR x u:=by
 cases r with
 |cons a l=>cases l;exact⟨_,rfl,a⟩
structure ObjM(h:d8)(x dx C:d6)(mA:c8->Option c6):Prop where
 obj:h.get? x=a7 (PySem.W.instObj C dx)
 ns:h.Ns1 dx mA
 ne:dx≠x
def yE.some_of(r:yE (a7 v) o):∃u,o=a7 u/\aR v u:=by
 cases o with
 |none=>exact(show False from r).elim
 |some u=>exact⟨u,rfl,r⟩
structure Cls(K:u6)(C:d6):Prop where
 pg:PySem.W.plainGet K C M8=a9
 hd:PySem.W.hasDictIn K C=a9
 po:PySem.W.plainOver K C=a9
 sa:ML K (.ref C) "__setattr__" = a7 (a7<|.builtin "object.__setattr__")
structure Con(K:u6)(C:d6)(f:c8)(v:V)(u:c6):Prop where
 at_:ML K (.ref C) f=a7 (a7 u)
 rel:aR v u
 get:PySem.W.specialIn K u "__get__" = a7 a8
 cp:PySem.W.copiedNames.contains f=c5
structure Meth(K:u6)(C:d6)(m:c8)(f:d6):Prop where
 at_:ML K (.ref C) m=a7 (a7<|.ref f)
 fn:PySem.W.isFn K (.ref f)=a9
 kp:Mt K (.ref f)=a9
inductive TyOf(K:u6)(H:Hp):V->c6->Prop where
 |non:TyOf K H .non (.type "NoneType")
 |bl (x:Bool):TyOf K H (.bl x) (.type "bool")
 |int (i:Int):TyOf K H (.int i) (.type "int")
 |str (x:c8):TyOf K H (.str x) (.type "str")
 |flt (x:UInt64):TyOf K H (.flt x) (.type "float")
 |lst {a:d6}{xs:List V} (e:H a=a7 (.lst xs)):TyOf K H (.ref a) (.type "list")
 |frz {a:d6}{o:d7}{xs:List V} (e:H a=a7 (.frz o (.lst xs))):TyOf K H (.ref a) (.type "list")
 |tup {a:d6}{xs:List V} (e:H a=a7 (.tup xs)):TyOf K H (.ref a) (.type "tuple")
 |dK {a:d6}{kvs:List (E1×V)} (e:H a=a7 (.dK kvs)):TyOf K H (.ref a) (.type "dict")
 |dT {a:d6}{kvs:List (List E1×V)} (e:H a=a7 (.dT kvs)):TyOf K H (.ref a) (.type "dict")
 |ins {a C dx:d6}{fs:List (c8×V)} (e:H a=a7 (.ins C dx fs)) (cl:Cls K C) (ha:ML K (.ref C) "__class__" = a7 (a7 (.builtin "object.__class__")))
   (hn:PySem.W.specialIn K (.builtin "object.__class__") "__get__" = a7 (a7<|.builtin "getset_descriptor.__get__")) (htk:PySem.W.takesIn K (.builtin "object.__class__")=a7 a9)
   (hm:PySem.W.mroIn K C (.type "object")=a7 a9):TyOf K H (.ref a) (.ref C)
structure Room(k:Nat)(A:f8):Prop where
 hd:A.handled=a8
 dp:A.depth+3*k+5<recursionLimit
 un:A.units+16*k+200<k7
def Room.mono(r:Room k A)(h:j<=k):Room j A:=⟨r.hd,by have:=r.dp;lia,by have:=r.un;lia⟩
def Room.deeper(r:Room (k+1) A)(env:g7):Room k (A.deeper env):=⟨r.hd,by have:=r.dp;show A.depth+1+3*k+5<_;lia,by have:=r.un;show A.units+3+16*k+200<_;lia⟩
def Room.in1(r:Room (k+1) A):Room k A.in1:=⟨r.hd,by have:=r.dp;show A.depth+3*k+5<_;lia,by have:=r.un;show A.units+1+16*k+200<_;lia⟩
def Room.depth(r:Room k A):A.depth<recursionLimit:=by have:=r.dp;lia
def tNil:TA:=λ_ H Q=>Q [] H
def tCons(t:TE)(tr:TA):TA:=λσ H Q=>t σ H λx H1=>tr σ H1 λxs a=>Q (x::xs) a
def zP:PA X [] tNil:=λ_ _ _ _ H Q I h=>Calls.spliced_nil ⟨[],H,I,.nil,h⟩
def ng(f:PE X e te)(i:PA X es t)(hs:i7 (e::es) X.env=(c5,eval e X.env)::i7 es X.env:=by rfl):PA X (e::es) (tCons te t):=by intro a p s σ H Q I h;rw[hs];show i0 _ _ (spliced<|(c5,eval e X.env)::i6 a (i7 es X.env)) _ _ s;refine Pw<|v6 (f p s σ H _ I h) ?_;rintro u j ⟨x,H1,c,r,q⟩;refine v6 (i a p j σ H1 _ c q) ?_;rintro us n ⟨xs,b,d,l,g⟩;exact⟨x::xs,b,d,.cons r l,g⟩
def tTup(t:TA):TE:=λσ H Q=>t σ H λxs H1=>xs.length<=sizeLine/\∀p,H1 p=a8->Q (.ref p) (v8 H1 p<|.tup xs)
def tLst(t:TA):TE:=λσ H Q=>t σ H λxs H1=>xs.length<=sizeLine/\∀p,H1 p=a8->Q (.ref p) (v8 H1 p<|.lst xs)
def Ia{x1}(h:PA X es t):PE X (.Tuple es x1 pos) (tTup t):=by intro p s σ H Q I d;refine wpAny_Tuple_spliced<|v6 (h pos p s σ H _ I d) λus c ⟨xs,H1,a,r,z,q⟩=>⟨by rw[<-r.length];exact z,?_⟩;have f:H1 c.heap.objs.size=a8:=a.hok.fresh<|v7 _;refine⟨.ref c.heap.objs.size,v8 H1 c.heap.objs.size<|.tup xs,a.laid (t':=c.toks) (λb u e=>w5 _ e) (v7 _) ?_,rfl,q _ f⟩;exact⟨z,us,r,⟨_,B6 _ rfl,rfl,⟨_,rfl⟩,rfl⟩⟩
def Ih(h:PA X es t):PE X (.List es pos) (tLst t):=by intro p s σ H Q I d;refine wpAny_List_spliced<|v6 (h pos p s σ H _ I d) λus c ⟨xs,H1,a,r,z,q⟩=>⟨by rw[<-r.length];exact z,?_⟩;have f:H1 c.heap.objs.size=a8:=a.hok.fresh<|v7 _;refine⟨.ref c.heap.objs.size,v8 H1 c.heap.objs.size<|.lst xs,a.laid (t':=c.toks) (λb u e=>w5 _ e) (v7 _) ?_,rfl,q _ f⟩;exact⟨z,us,0,r,B6 _ rfl⟩
abbrev Sp:=List V->Hp->VK->XK->Prop
abbrev MG:=List g7->Hp->f9->XK->c6->f9->Prop
structure Env0(P:d5)(w:c9)(K:u6)(mg:c8->Option c6)(base:d8)(A:f8)(outer:List g7)(s:f9)(H:Hp):Prop where
 frames:A.frames=a7 outer
 mod:Mod K mg base
 bs:∀b o,base.get? b=a7 o->s.heap.get? b=a7 o/\H b=a8
 bsz:base.objs.size<=s.heap.objs.size
 funs:s.heap.FunFrames base outer
 frf:∀b∈frs outer,H b=a8
 hok:C6 P w H s.heap
 bare:g9 s.gens
inductive CE(outer:List g7)(P:d5)(w:c9)(H:Hp)(s:f9)(Q:VK)(u:c6)(s':f9):Prop
 |mk (v:_) (H':_) (f0:s'.os=s.os) (f1:g9 s'.gens) (f2:Un (frs outer) [] H H' s.heap s'.heap) (f3:C6 P w H' s'.heap) (f4:aR v u) (f5:Q v H')
def CR(CX:MG)(o:List g7)(P:d5)(w:c9)(H:Hp)(s:f9)(Q:VK)(E:XK)(r:Result)(s':f9):Prop:=match r with
 |.ok (.ret u)=>CE o P w H s Q u s'
 |.ok _=>False
 |.error e=>CX o H s E e s'
structure FnOk(P:d5)(w:c9)(K:u6)(mg:c8->Option c6)(base:d8)(CX:MG)(k:Nat)(f:d6)(fd:k8)(ps:List c8)(sp:Sp):Prop where
 len:∀vs H Q E,sp vs H Q E->vs.length=ps.length
 run:∀(A:f8) (outer:List g7) (s:f9) (H:Hp) (args:Args) (us:List c6) (vs:List V) (Q:VK) (E:XK),Room k A->Env0 P w K mg base A outer s H->BindsTo s fd args (ps.zip us)->az vs us->sp vs H Q E ->k9 (i4 P w) A (.call (.ref f) args) (CR CX outer P w H s Q E) s
def Env0.in1{P:d5}{w:c9}{K:u6}{mg:c8->Option c6}{base:d8}{A:f8}{o:List g7}{s:f9}{H:Hp}(e:Env0 P w K mg base A o s H):Env0 P w K mg base A.in1 o s H:=⟨e.frames,e.mod,e.bs,e.bsz,e.funs,e.frf,e.hok,e.bare⟩
def t5.env0(I:t5 X pins σ H s):Env0 X.prog X.w X.K X.mg X.base X.A X.stack s H:=⟨I.ok.frames,I.ok.mod,I.bs,KY I.ok.bsz I.sz,I.stack,I.stkFree,I.hok,I.bare⟩
def t5.after(I:t5 X pins σ H s)(h:CE X.stack X.prog X.w H s Q u s'):EP X pins σ Q u s':=by obtain⟨v,H',c,e,n,K,r,q⟩:=h;obtain⟨a,g,d,t,o⟩:=s';obtain rfl:o=s.os:=c;exact⟨v,H',I.call (h':=a) (g':=g) (d':=d) (t':=t) (ch:=[]) n K e (λb z=>p5 z<|by simp),r,q⟩
def Hu(sp:Sp)(s:List V)(E:XK)(t:TA):TE:=λσ H Q=>t σ H λvs H1=>sp (vs++s) H1 Q E
def oR(K:u6)(d:k8)(ps:List c8)(ds:List c6):Prop:=∀(s:f9) (us:List c6),K.In s.heap->(us++ds).length=ps.length->BindsTo s d ⟨us,[]⟩ (ps.zip<|us++ds)
def oR.all{K:u6}{d:k8}{ps:List c8}(h:∀us:List c6,us.length=ps.length->bindArgs d ⟨us,[]⟩=pure (ps.zip us)):oR K d ps []:=λs us _ g=>by rw[Lh]at g ⊢;exact .of_eq<|h us g
def xr(CX:MG)(X:Cx)(E:XK):Prop:=∀(p:List (d6×d7)) (σ:St) (H:Hp) (s:f9) (e:c6) (s':f9),t5 X p σ H s->CX X.stack H s E e s'->X.xe e s'
def HJ(F:FnOk X.prog X.w X.K X.mg X.base CX k f fd ps sp)(i:Room k X.A)(d:oR X.K fd ps ds)(b:az dvs ds)(x:xr CX X E)(I:t5 X pins σ H s) (r:az vs us) (h:sp (vs++dvs) H Q E):i0 (i4 X.prog X.w) X.A (call (.ref f) us) (EP X pins σ Q) X.xe s:=by
 have l:az (vs++dvs) (us++ds):=r.append b;have g:(us++ds).length=ps.length:=by rw[<-l.length];exact F.len _ _ _ _ h
 refine l5<|Mq (F.run X.A X.stack s H ⟨us,[]⟩ (us++ds) (vs++dvs) Q E i I.env0 (d s us I.kIn g) l h) λr s' q=>?_;cases r with
 |error e=>exact x pins σ H s e s' I q
 |ok a =>
  cases a with
  |ret u=>exact I.after q
  |next=>exact H9 q
  |brk=>exact H9 q
  |cont=>exact H9 q
def Fm(F:FnOk X.prog X.w X.K X.mg X.base CX k f fd ps sp)(o:Room k X.A)(S:Gl X x)(n:X.mg x=a7 (.ref f))(m:Mt X.K (.ref f)=a9)(g:oR X.K fd ps ds)(i:az dvs ds)(u:xr CX X E)(d:PA X (e::es) t) (b:(x==("__debug__":c8))=c5:=by decide) (j:i7 (e::es) X.env=(c5,eval e X.env)::i7 es X.env:=by rfl) (l:(i6 pos<|i7 es X.env).any (·.1)=c5:=by rfl):PE X (.Call (.Name x p) (e::es) [] pos) (Hu sp dvs E t):=by intro a s σ H Q I h;refine MR<|kE I S n ?_ b;refine Qh (h₀:=X.base) I.ok.mod.kin m (v6 (d pos a s σ H _ I h) λus v ⟨vs,H1,c,r,q⟩=>⟨c.kIn,?_⟩) j l;exact HJ F o g i u c r q
structure Mk(K:u6)(C f:d6):Prop where
 makes:PySem.W.makesIn K C=a9
 init:ML K (.ref C) "__init__" = a7 (a7<|.ref f)
 fn:PySem.W.isFn K (.ref f)=a9
 kp:Mt K (.ref C)=a9
structure KBinds(K:u6)(fd:k8)(ps ks:List c8)(g:List c6->List c6->List c6)(gV:List V->List V->List V):Prop where
 to:∀(s:f9) (us ws:List c6),K.In s.heap->(g us ws).length=ps.length->BindsTo s fd ⟨us,ks.zip ws⟩ (ps.zip<|g us ws)
 rel:∀{vs:List V}{us:List c6}{zs:List V}{ws:List c6},az vs us->az zs ws->az (gV vs zs) (g us ws)
structure FnScope(N P:List c8)(sc:g8):Prop where
 kind:sc.kind=.function
 co:sc.isCoroutine=c5
 gen:sc.isGenerator=c5
 nd:N.Nodup
 pre:N.take P.length=P
 par:∀x∈P,sc.names.lookup x=a7 .local\/sc.names.lookup x=a7 .cell
 nofree:∀y∈sc.names,y.2≠.free
def ul{kindOf:c8->Option l6}{x:c8}:∀{binds:List (c8×c6)}{m:c8->Option c6},(∀v,(x,v)∉binds)->bindL kindOf binds m x=m x
 | [],_,_=>rfl
 |(n,v)::r,m,h=>by
  unfold bindL;rw[ul λw hw=>h w<|C4 _ hw];split;have:x≠n:=by rintro rfl;exact h v A9
  simp[this];rfl
def uo{kindOf:c8->Option l6}{x:c8}:∀{binds:List (c8×c6)}{m:c8->Option c6},(∀v,(x,v)∉binds)->bindC kindOf binds m x=m x
 | [],_,_=>rfl
 |(n,v)::r,m,h=>by
  unfold bindC;rw[uo λw hw=>h w<|C4 _ hw];split;rfl;have:x≠n:=by rintro rfl;exact h v A9
  simp[this]
def um{kindOf:c8->Option l6}{x:c8}{v:c6}:∀{P:List c8}{vs:List c6}{i:Nat}{m:c8->Option c6},P.Nodup->P[i]?=a7 x->vs[i]?=a7 v->kindOf x=a7 .local ->bindL kindOf (P.zip vs) m x=a7 v
 | [],_,_,_,_,h,_,_=>by simp at h
 |_::_,[],_,_,_,_,h,_=>by simp at h
 |p::P,w::vs,0,m,nd,h1,h2,hk=>by simp at h1 h2;subst h1;subst h2;show bindL kindOf ((p,w)::P.zip vs) m p=_;unfold bindL;rw[ul λv hv=>(KN.mp nd).1 (OK hv).1,o8 hk];simp
 |p::P,w::vs,i+1,m,nd,h1,h2,hk=>by show bindL kindOf ((p,w)::P.zip vs) m x=_;unfold bindL;exact um (i:=i) (KN.mp nd).2 (by simpa using h1) (by simpa using h2) hk
def ur{kindOf:c8->Option l6}{x:c8}{v:c6}:∀{P:List c8}{vs:List c6}{i:Nat}{m:c8->Option c6},P.Nodup->P[i]?=a7 x->vs[i]?=a7 v->kindOf x≠a7 .local ->bindC kindOf (P.zip vs) m x=a7 v
 | [],_,_,_,_,h,_,_=>by simp at h
 |_::_,[],_,_,_,_,h,_=>by simp at h
 |p::P,w::vs,0,m,nd,h1,h2,hk=>by simp at h1 h2;subst h1;subst h2;show bindC kindOf ((p,w)::P.zip vs) m p=_;unfold bindC;rw[uo λv hv=>(KN.mp nd).1 (OK hv).1,p0 hk];simp
 |p::P,w::vs,i+1,m,nd,h1,h2,hk=>by show bindC kindOf ((p,w)::P.zip vs) m x=_;unfold bindC;exact ur (i:=i) (KN.mp nd).2 (by simpa using h1) (by simpa using h2) hk
noncomputable def start(N:List c8)(vs:List V):St:=vs.map a7++J0 (N.length-vs.length) a8
noncomputable def jw(CX:MG)(P:d5)(w:c9)(K:u6)(mg:c8->Option c6)(base:d8)(N:List c8)(l:c8)(scope:g8)(f:d6)(d:c6)(A:f8)(outer:List g7)(s:f9)(H:Hp)(E:XK):Cx where
 prog:=P
 w:=w
 K:=K
 mg:=mg
 base:=base
 A:=A.deeper<|c7 l scope s.heap.objs.size f d
 N:=N
 s₀:=s
 H₀:=H
 env:=c7 l scope s.heap.objs.size f d
 outer:=outer
 stack:=c7 l scope s.heap.objs.size f d::outer
 ex:=[]
 calm:=a9
 fn:=λ_=>a9
 pn:=[]
 xe:=λe s'=>i0 (i4 P w) (A.deeper<|c7 l scope s.heap.objs.size f d) (l8 (c7 l scope s.heap.objs.size f d) e) (λ_ a=>CX outer H s E e a) (λb a=>CX outer H s E b a) s'
def xh{s:g8}{n:Nat}{x:c8}(h:s.names.lookup x=a7 .cell):∃c,(cellsFrom n s.names []).lookup x=a7 c:=by have q:=PJ s.names n []<|.inl h;exact QC.mp q
def nS{CX:MG}{P:d5}{w:c9}{K:u6}{mg:c8->Option c6}{base:d8}{N ps:List c8}{l:c8}{scope:g8}{f:d6}{t:c6}{A:f8}{o:List g7}{s D:f9}{H:Hp}{E:XK}{us:List c6}{vs:List V}(S:FnScope N ps scope) (G:A.handled=a8) (d:Env0 P w K mg base A o s H) (M:vs.length=ps.length) (r:az vs us)(x:InCallC s s.heap.objs.size (bindL (c7 l scope s.heap.objs.size f t).kindOf (ps.zip us) λ_=>a8) (cellsFrom (s.heap.objs.size+1) scope.names []) (bindC (c7 l scope s.heap.objs.size f t).kindOf (ps.zip us) λ_=>a8) D):t5 (jw CX P w K mg base N l scope f t A o s H E) [] (start N vs) H D:=by
 have I:ps.length<=N.length:=by have:=q9 Lq S.pre;rw[Li]at this;lia
 obtain⟨h1,Q,rfl,B⟩:=x.done;have g:∀b:d6,b∉(jw CX P w K mg base N l scope f t A o s H E).ex:=λb z=>p5 (show b∈([]:List d6)from z) b9;refine⟨⟨d.mod,S.kind,rfl,rfl,v7 _,λy z c h1 h2=>?_,λy O=>?_,λy c _ h=>?_,λ_=>G,Around.frames_deeper d.frames,.inr ⟨rfl,rfl⟩,λb z=>p5 z<|g b,d.bs,d.bsz,λb _ _=>g b,λb z=>p5 z<|g b,d.funs,d.frf⟩,rfl,d.bare,Un.kept B,⟨_,x.toInCall.ns,λi y v h1 h2 L=>?_⟩,λy c h=>⟨_,x.cell y c h⟩,d.hok.fresh<|v7 _,λy c h=>?_,λp j=>p5 (show p∈([]:List (d6×d7))from j) b9,d.hok.kept B,?_⟩;exact name_of_addr x.apart (MT h1)<|MT h2;have O:scope.names.lookup y=a7 .cell\/scope.names.lookup y=a7 .free:=O;rcases O with O|O;exact xh O;exact p5 rfl<|S.nofree _<|MT O;exact Mr<|x.above y c<|MT h;have hi:i<vs.length:=by unfold start at h2;by_cases hi:i<vs.length;exact hi;rw[LK<|by simpa using hi]at h2;rw[PK]at h2;split at h2<;>cases h2
 have F:vs[i]?=a7 v:=by
  unfold start at h2;rw[G4 (by simpa using hi),F5]at h2;cases e:vs[i]? with
  |none=>rw[e]at h2;cases h2
  |some a=>rw[e]at h2;cases h2;rfl
 obtain⟨u,C,J⟩:=r.get F;have j:ps[i]?=a7 y:=by rw[<-S.pre,NM<|by lia];exact h1
 have m:ps.Nodup:=by rw[<-S.pre];exact S.nd.sublist<|Of _ _
 refine⟨u,J,?_⟩;rcases S.par y (Kw j)with k|k;exact .inl ⟨k,um m j C k⟩;obtain⟨c,e⟩:=xh (n:=s.heap.objs.size+1) k;refine .inr ⟨.inl k,c,e,?_⟩;have q:=x.cell y c e;rw[ur m j C<|by show scope.names.lookup y≠_;rw[k];decide]at q;exact q;exact d.hok.fresh<|Mr<|x.above y c<|MT h;unfold start;show _=N.length;rw[E2,v5,PC];lia
def Do{CX:MG}{P:d5}{w:c9}{K:u6}{mg:c8->Option c6}{base:d8}{k:Nat}{f:d6}{name l:c8}{p:Arguments}{a:List i8}{scope:g8}{T kV i U c R oc:c6}{M od:Option d6}{G:Array (Option c6)}{N ps:List c8}{sp:Sp} (lk:K.lookup f=a7 ⟨oc,od,.func<|Mf name l p a scope T kV i U M c R,G⟩) (C:OJ K c l=a9) (S:FnScope N ps scope)(B:∀vs H Q E,sp vs H Q E->vs.length=ps.length)(h:∀(A:f8) (outer:List g7) (s:f9) (H:Hp) (vs:List V) (Q:VK) (E:XK),Room k (A.deeper<|c7 l scope s.heap.objs.size f c)->sp vs H Q E -> ∃t,Kz (jw CX P w K mg base N l scope f c A outer s H E) a t/\t { nx:=λ_ H'=>Q .non H',rt:=Q } (start N vs) H):FnOk P w K mg base CX (k+1) f (Mf name l p a scope T kV i U M c R) ps sp:=by
 refine⟨B,λA outer s H O us vs Q E D j hb r z=>?_⟩;have hl:=B _ _ _ _ z;have X:K.In s.heap:=j.mod.kin.keeps λb o e=>(j.bs b o e).1;have F:s.heap.NoLimit:=j.mod.nolimit.keeps λb o e=>(j.bs b o e).1;have g:∀y∈ps.zip us,scope.names.lookup y.1=a7 .local\/(scope.names.lookup y.1=a7 .cell/\((cellsFrom (s.heap.objs.size+1) scope.names []).lookup y.1).isSome=a9):=λ⟨n,v⟩ hy=>by rcases S.par n (OK hy).1 with q|q;exact .inl q;exact .inr ⟨q,PJ _ _ _<|.inl q⟩
 refine codeAny_call_function D.depth (X _ _ lk) rfl S.co S.gen rfl (PySem.W.codeRec_of X C)<|hb _ _ _ _ ?_;refine QE S.kind g λenv he Y x=>?_;subst he;refine⟨F.keeps x.toInCall.keep,codeAny_func ?_⟩;obtain⟨t,ht,hq⟩:=h A outer s H vs Q E (D.deeper _) z;have I:t5 (jw CX P w K mg base N l scope f c A outer s H E) [] (start N vs) H Y:=nS S D.hd j hl r x;refine D3 (ht [] Y (start N vs) H _ I hq) (λZ s' hs=>?_) λe s' hs=>hs;have m:∀{d:St}{H':Hp}{v:V}{u:c6},t5 (jw CX P w K mg base N l scope f c A outer s H E) [] d H' s'->aR v u->Q v H'->CE outer P w H s Q u s':=λ{d H' v u} J L q=>⟨v,H',J.os,J.bare,J.base,J.hok,L,q⟩
 cases Z with
 |ret u=>obtain⟨v,d,H',J,L,q⟩:=hs;exact m J L q
 |next=>obtain⟨d,H',J,q⟩:=hs;exact m (v:=V.non) (u:=G6) J rfl q
 |brk=>obtain⟨_,_,_,q⟩:=hs;exact H9 q
 |cont=>obtain⟨_,_,_,q⟩:=hs;exact H9 q
def PZ(r:List V->Hp->VK->Prop)(t:TA):TE:=λσ H Q=>t σ H λvs H1=>r vs H1 Q
theorem qD{X:Cx}{x:c8}{p pos:i5}{e:i3}{es:List i3}{t:TA}{id:String}{r:List V->Hp->VK->Prop}(d:gK X (.builtin id) r)(S:Gl X x)(m:X.mg x=a8)(v:f7 x=a7 (.builtin id))(f:PA X (e::es) t)(n:x≠"__name__":=by decide)(b:(x==("__debug__":c8))=c5:=by decide)(i:i7 (e::es) X.env=(c5,eval e X.env)::i7 es X.env:=by rfl) (l:(i6 pos<|i7 es X.env).any (·.1)=c5:=by rfl):PE X (.Call (.Name x p) (e::es) [] pos) (PZ r t):=by intro a s σ H Q I h;refine MR<|iB I S m v ?_ n b;exact PyProof.Rows.callWith_builtin1 (v6 (f pos a s σ H _ I h) λus j ⟨vs,H1,c,g,q⟩=>d a j σ H1 vs us Q c g q) i l
def zM(d:gK X (.type T) r)(S:Gl X x)(m:X.mg x=a8)(v:f7 x=a7 (.type T))(f:PA X (e::es) t)(n:x≠"__name__":=by decide)(b:(x==("__debug__":c8))=c5:=by decide)(i:i7 (e::es) X.env=(c5,eval e X.env)::i7 es X.env:=by rfl) (l:(i6 pos<|i7 es X.env).any (·.1)=c5:=by rfl):PE X (.Call (.Name x p) (e::es) [] pos) (PZ r t):=by intro a s σ H Q I h;refine MR<|iB I S m v ?_ n b;exact Ol (v6 (f pos a s σ H _ I h) λus j ⟨vs,H1,c,g,q⟩=>d a j σ H1 vs us Q c g q) i l
end L2
namespace HT
open PySem PyProof.Rows
def rcLt_int(A:f8)(s:f9)(a:Int)(t:Tok)(c:Int)(u:Tok)(prog:d5)(w:c9)(E:c6->f9->Prop)(Q:c6->f9->Prop)(h:Q (.bool<|decide<|a<c) s):i0 (i4 prog w) A (richCompare .Lt (.int a t)<|.int c u) Q E s:=(PyProof.Rows.lt_int h:i0 (i4 prog w) A (k4 .Lt (.int a t)<|.int c u) Q E s)
theorem cat_tup(D:IsTup s.heap t vs.toArray)(q:IsTup s.heap b ws.toArray)(v:vs≠[])(h1:ws=[]->Q (.ref t) s) (h2:ws≠[]->Q (.ref s.heap.objs.size) { s with heap:=s.heap.push { cls:=.type "tuple",data:=.seq (vs++ws).toArray } })(hsz:vs.length+ws.length<=sizeLine):i0 (i4 prog w) A (j9 .Add (.ref t)<|.ref b) Q E s:=by
 obtain⟨⟨cls,k,data,p⟩,B,l,n,m⟩:=id D;obtain⟨⟨j,d,i,f⟩,h,a,o,c⟩:=id q;simp only at l m a c;subst l m a c;have e:vs.toArray++ws.toArray=(vs++ws).toArray:=by simp
 by_cases g:ws=[]
 exact concat_meets ⟨_,B,rfl⟩ ⟨_,h,rfl⟩ noFill_tuple_add seq_tuple_add Qx Qy (QB _ _) (tuple_addW1 t b vs.toArray ws.toArray n o k d p f (by simpa using v)<|by simp[g]) ⟨B,h,h1 g⟩;refine concat_meets ⟨_,B,rfl⟩ ⟨_,h,rfl⟩ noFill_tuple_add seq_tuple_add Qx Qy (QB _ _) (tuple_addW2 t b vs.toArray ws.toArray n o k d p f (by simpa using v) (by simpa using g)<|by rw[A5,A5];exact hsz) ⟨B,h,?_⟩;rw[e];exact h2 g
noncomputable def sIx(n d:Nat):Option Int->Nat
 |none=>d
 |some v=>if v<0 then(v+(n:Int)).toNat else min v.toNat n
def sIx_none(n d:Nat):sIx n d a8=d:=rfl
def sIx_nat(n d k:Nat):sIx n d (a7 (k:Int))=min k n:=by show (if (k:Int)<0 then((k:Int)+(n:Int)).toNat else min (k:Int).toNat n)=min k n;rw[p0 b7,LJ]
def HD(n d:Nat)(h:d<=n)(o:Option Int):sIx n d o<=n:=by
 cases o with
 |none=>exact h
 |some v=>show (if v<0 then(v+(n:Int)).toNat else min v.toNat n)<=n;by_cases c:v<0;rw[o8 c];lia;rw[p0 c];exact Nat.min_le_right _ _
def Bk(v:Int)(n d:Nat):(if v<0 then max (v+(n:Int)) 0 else min v (n:Int))=((sIx n d (a7 v):Nat):Int):=by
 show (if v<0 then max (v+(n:Int)) 0 else min v (n:Int))=(((if v<0 then(v+(n:Int)).toNat else min v.toNat n):Nat):Int)
 by_cases c:v<0;simp only[o8 c];lia;simp only[p0 c];lia
def yu(lo hi:Option Int)(n:Nat):QD lo hi 1 (n:Int)=(((sIx n 0 lo:Nat):Int),((sIx n n hi:Nat):Int)):=by
 have h1:¬((1:Int)<0):=by lia
 unfold QD;simp only[h1,p8];refine Prod.ext ?_ ?_;cases lo with
 |none=>rfl
 |some v=>exact Bk v n 0
 cases hi with
 |none=>rfl
 |some v=>exact Bk v n n
def xI(i j:Nat):NN (i:Int) (j:Int) 1=j-i:=by
 unfold NN;have h1:(1:Int) > 0:=by lia
 simp only[h1,p9,Int.ediv_one];split<;>lia
def slicePart_(p:l9 v o)(h:Q o s):i0 (i4 prog w) A (Builtin.Slice.slicePartIndex v) Q E s:=by
 cases p with
 |none=>exact slicePart_none h
 |int i t=>exact slicePart_int h
theorem gD{m:d6}{l u:c6}{lo hi:Option Int}{n:Nat}{Q:Int×Int×Nat->f9->Prop}(hs:s.heap.IsSliceOf m l u .none)(p:l9 l lo)(d:l9 u hi)(h:Q (((sIx n 0 lo:Nat):Int),1,sIx n n hi-sIx n 0 lo) s):i0 (i4 prog w) A (PQ (.ref m)<|pure (n:Int)) Q E s:=by obtain⟨o,b,c,a⟩:=id hs;unfold PQ QP;refine t4<|t4<|F6 b a (x:=l) rfl<|t4<|F6 b a (x:=u) rfl<|t4<|F6 b a (x:=.none) rfl<|u5 ?_;refine t4<|slicePart_none ?_;show i0 _ _ (if ((1:Int)==0)=a9 then _ else _) _ _ s;rw[p0<|by decide];refine t4<|slicePart_ p<|t4<|slicePart_ d<|t4<|u5 ?_;show i0 _ _ (match QD lo hi 1 (n:Int)with|(lo,hi)=>pure (lo,(1:Int),NN lo hi 1)) _ _ s;rw[yu lo hi n];show i0 _ _ (pure (((sIx n 0 lo:Nat):Int),(1:Int),NN ((sIx n 0 lo:Nat):Int) ((sIx n n hi:Nat):Int) 1)) _ _ s;rw[xI];exact u5 h
def Cp(xs:Array c6)(i k:Nat):((B7 k).filterMap λ(m:Nat)=>xs[((i:Int)+(m:Int)*1).toNat]?).toArray=((xs.toList.drop i).take k).toArray:=by
 have e:(λ(m:Nat)=>xs[((i:Int)+(m:Int)*1).toNat]?)=λm=>xs[i+m]?:=by
  funext m;have:((i:Int)+(m:Int)*1).toNat=i+m:=by lia
  rw[this]
 rw[e];have:=pick_run xs i k;rw[List.filterMap_map]at this;have l:((λx=>xs[x]?) ∘ λx=>i+x)=λm=>xs[i+m]?:=rfl;rw[l]at this;rw[this]
theorem getItem_tuple_cut{t l:d6}{i:Array c6}{v u:c6}{lo hi:Option Int}{Q:c6->f9->Prop}(D:IsTup s.heap t i)(hs:s.heap.IsSliceOf l v u .none)(p:l9 v lo)(j:l9 u hi)(f:¬(sIx i.size 0 lo=0/\sIx i.size i.size hi=i.size))(h:Q (.ref s.heap.objs.size) { s with heap:=s.heap.push { cls:=.type "tuple",data:=.seq ((i.toList.drop<|sIx i.size 0 lo).take<|sIx i.size i.size hi-sIx i.size 0 lo).toArray } })(hsz:i.size<=sizeLine):i0 (i4 prog w) A (m5 (.ref t)<|.ref l) Q E s:=by
 have e:sizeOk (.seq ((i.toList.drop<|sIx i.size 0 lo).take<|sIx i.size i.size hi-sIx i.size 0 lo).toArray):=by show ((i.toList.drop<|sIx i.size 0 lo).take<|sIx i.size i.size hi-sIx i.size 0 lo).toArray.size<=sizeLine;rw[A5,Li,MQ,G7];lia
 have L:sIx i.size i.size hi<=i.size:=HD _ _ (v7 _) hi;obtain⟨g,b,c,d⟩:=id hs;have a:s.TypeIs (.ref l) "slice":=⟨g,b,c⟩
 unfold m5
 try with_reducible refine J6 ?_
 first|refine t4 (u5 ?_)|skip
 refine t4<|wpAny_sequenceKey D.typeIs b0 ?_;refine t4<|LZ (name:=x9 "__getitem__") D.typeIs MV<|K6 MV D.typeIs entry_tuple_getitem ?_<|args_tuple_getitem _ _;show i0 _ _ (PN (.ref t) >>= _) _ _ s;refine t4<|tupleItemsOf_ D ?_;refine t4<|Nb a ?_;rw[o8<|by decide];refine t4<|gD hs p j ?_;have o:¬((((sIx i.size 0 lo:Nat):Int)==0&&(1:Int)==1&&(sIx i.size i.size hi-sIx i.size 0 lo)==i.size)=a9):=by intro q;rw[A2,A2]at q;have k:((sIx i.size 0 lo:Nat):Int)=0:=eq_of_beq q.1.1;have n:sIx i.size i.size hi-sIx i.size 0 lo=i.size:=eq_of_beq q.2;exact f ⟨b7,b7⟩
 show i0 _ _ (if (((sIx i.size 0 lo:Nat):Int)==0&&(1:Int)==1&&(sIx i.size i.size hi-sIx i.size 0 lo)==i.size)=a9 then _ else _) _ _ s;rw[p0 o,Cp]
 first
  |exact t4 (m:=NL _) (KJ (u5 ⟨_,rfl,u5 h⟩) e)
  |exact t4 (m:=NL _) (KJ (t4 (u5 (u5 ⟨_,rfl,u5 h⟩))) e)
  |exact t4 (t4 (m:=NL _) (KJ (u5 (u5 ⟨_,rfl,u5 h⟩)) e))
  |exact t4 (t4 (m:=NL _) (KJ (u5 ⟨_,rfl,u5 h⟩) e))
end HT
namespace L2
open PySem PySem.Spec PyProof.Rows
abbrev TO:=St->Hp->(Option Int->Hp->Prop)->Prop
def PO(X:Cx)(e:Option i3)(t:TO):Prop:=∀(p:List (d6×d7)) (s:f9) (σ:St) (H:Hp) (Q:Option Int->Hp->Prop),t5 X p σ H s->t σ H Q ->i0 (i4 X.prog X.w) X.A (evalPart e X.env) (λu s'=>∃o H',t5 X p σ H' s'/\l9 u o/\Q o H') X.xe s
def EI:TO:=λ_ H Q=>Q a8 H
def tPart(t:TE):TO:=λσ H Q=>t σ H λx H1=>∃i,x=.int i/\Q (a7 i) H1
section
variable{X:Cx}{e:i3}{te:TE}{lo hi:Option i3}{tl th:TO}{pos p2:i5}
def Ff:PO X a8 EI:=by intro p s σ H Q I h;rw[evalPart_none];exact u5 ⟨a8,H,I,.none,h⟩
def Fe(h:PE X e te):PO X (a7 e) (tPart te):=by intro p s σ H Q I w;rw[evalPart_some];refine v6 (h p s σ H _ I w) ?_;rintro u c ⟨x,H1,a,r,b⟩;obtain⟨i,rfl,q⟩:=b;obtain⟨t,rfl⟩:=r;exact⟨a7 i,H1,a,.int i t,q⟩
def Ow(X:Cx)(r:V->Option Int->Option Int->Hp->VK->Prop):Prop:=∀(p:List (d6×d7)) (s:f9) (σ:St) (H:Hp) (x:V) (v a u:c6) (l hi:Option Int) (m:d6) (Q:VK),t5 X p σ H s->aR x v->s.heap.IsSliceOf m a u .none->l9 a l->l9 u hi->r x l hi H Q ->∃T id,typeLookup (.type T) "__getitem__" = pure (a7<|.builtin id)/\s.TypeIs v T/\i0 (i4 X.prog X.w) X.A (m5 v<|.ref m) (EP X p σ Q) X.xe s
def tSl(r:V->Option Int->Option Int->Hp->VK->Prop)(te:TE)(t h:TO):TE:=λσ H Q=>te σ H λx H1=>t σ H1 λl a=>h σ a λu b=>r x l u b Q
theorem Cr(y:Ow X r)(n:PE X e te)(o:PO X lo tl)(z:PO X hi th):PE X (.Subscript e (.Slice lo hi a8 p2) pos) (tSl r te tl th):=by intro p s σ H Q I h;refine Subscript_<|v6 (n p s σ H _ I h) ?_;rintro v K ⟨x,H1,i,J,E⟩;refine wpAny_Slice<|v6 (o p K σ H1 _ i E) ?_;rintro c L ⟨l,g,j,B,F⟩;refine v6 (z p L σ g _ j F) ?_;rintro d a ⟨u,f,k,C,G⟩;rw[evalPart_none];refine u5 ?_;have t:t5 X p σ f { a with heap:=a.heap.push { cls:=.type "slice",data:=.fields #[c,d,.none] } }:=k.kept (t':=a.toks) λb M q=>w5 _ q;obtain⟨T,id,m,D,S⟩:=y p { a with heap:=a.heap.push { cls:=.type "slice",data:=.fields #[c,d,.none] } } σ f x v c d l u a.heap.objs.size Q t J (Qg ..) B C G;show i0 (i4 X.prog X.w) X.A (subscriptTail e (.Slice lo hi a8 p2) v<|.ref a.heap.objs.size) (EP X p σ Q) X.xe { a with heap:=a.heap.push { cls:=.type "slice",data:=.fields #[c,d,.none] } };exact tail_any (ops:=[.ref a.heap.objs.size,v]) D m S<|by with_unfolding_all rfl
noncomputable def Et(xs:List V)(lo hi:Option Int):List V:=(xs.drop<|HT.sIx xs.length 0 lo).take<|HT.sIx xs.length xs.length hi-HT.sIx xs.length 0 lo
def oh(xs:List V)(lo hi:Option Int):(Et xs lo hi).length<=xs.length:=by unfold Et;rw[Li,MQ];lia
def rSlT(K:u6):V->Option Int->Option Int->Hp->VK->Prop:=λx l hi H Q=>∃a xs,x=.ref a/\D0 K H a xs /\¬(HT.sIx xs.length 0 l=0/\HT.sIx xs.length xs.length hi=xs.length)/\∀p,H p=a8->Q (.ref p) (v8 H p<|.tup<|Et xs l hi)
def Hy:Ow X (rSlT X.K):=by
 intro p s σ H x v f i l hi m Q I g hs d u h;obtain⟨a,xs,rfl,c,w,q⟩:=h;cases g;obtain⟨its,r,D,z⟩:=I.tuple c;have n:its.toArray.size=xs.length:=by rw[A5];exact r.length.symm
 refine⟨"tuple",_,MV.lookup,D.typeIs,?_⟩;refine HT.getItem_tuple_cut D hs d u (by rw[n];exact w) ?_ (by rw[n];exact z);rw[n];refine⟨.ref s.heap.objs.size,_,I.laid (t':=s.toks) (o:=.tup<|Et xs l hi) (λb e q=>w5 _ q) (v7 _) ?_,rfl,q _<|I.hok.fresh<|v7 _⟩;exact⟨KY (oh xs l hi) z,_,(r.drop<|HT.sIx xs.length 0 l).take<|HT.sIx xs.length xs.length hi-HT.sIx xs.length 0 l,DM.new _ _⟩
def rCatT(K:u6):R2:=λx y H Q=>∃a b xs ys,x=.ref a/\y=.ref b/\D0 K H a xs/\D0 K H b ys/\xs≠[]/\xs.length+ys.length<=sizeLine /\(ys=[]->Q (.ref a) H)/\(ys≠[]->∀p,H p=a8->Q (.ref p) (v8 H p<|.tup<|xs++ys))
def az.nil_iff(r:az xs us):us=[]↔xs=[]:=by
 cases r with
 |nil=>simp
 |cons _ _=>simp
def Ft:D8 X (j9 .Add) (rCatT X.K):=by intro p s σ H x y v u Q I n t h;obtain⟨a,b,xs,ys,rfl,rfl,f,d,e,c,k,m⟩:=h;cases n;cases t;obtain⟨its,r,g,_⟩:=I.tuple f;obtain⟨i,l,j,_⟩:=I.tuple d;refine HT.cat_tup g j (λz=>e<|r.nil_iff.mp z) (λz=>⟨.ref a,H,I,rfl,k<|l.nil_iff.mp z⟩) (λz=>?_) (by rw[<-r.length,<-l.length];exact c);refine⟨.ref s.heap.objs.size,_,I.laid (t':=s.toks) (o:=.tup<|xs++ys) (λb A q=>w5 _ q) (v7 _) ?_,rfl,m (λw=>z<|l.nil_iff.mpr w) _<|I.hok.fresh<|v7 _⟩;exact⟨by rw[E2];exact c,_,r.append l,DM.new _ _⟩
end
noncomputable def LL(n:Nat)(i:Int):Option Nat:=if 0<=i then(if i<n then a7 i.toNat else a8)else if -(n:Int)<=i then a7 (i+n).toNat else a8
noncomputable def atI{α:Type}(xs:List α)(i:Int):Option α:=(LL xs.length i).bind λj=>xs[j]?
def Az(h:LL n i=a7 j):seqIndex? i n=a7 j/\j<n/\-(n:Int)<=i/\i<n:=by unfold LL at h;by_cases a:0<=i;rw[o8 a]at h;by_cases h1:i<n;rw[o8 h1]at h;have e:i.toNat=j:=C1 h;exact⟨by rw[seqIndex_of a h1,e],b7,b7,h1⟩;rw[p0 h1]at h;cases h;rw[p0 a]at h;by_cases h1:-(n:Int)<=i;rw[o8 h1]at h;have e:(i+n).toNat=j:=C1 h;exact⟨by rw[seqIndex_neg b7 h1,e],b7,h1,b7⟩;rw[p0 h1]at h;cases h
def vP{α:Type}{xs:List α}{i:Int}{v:α}(h:atI xs i=a7 v):∃j,seqIndex? i xs.length=a7 j/\xs[j]?=a7 v/\j<xs.length/\-(xs.length:Int)<=i/\i<xs.length:=by
 unfold atI at h;cases e:LL xs.length i with
 |none=>rw[e]at h;cases h
 |some j=>rw[e]at h;obtain⟨h1,h2,a,d⟩:=Az e;exact⟨j,h1,h,h2,a,d⟩
def aY{α:Type}{xs:List α}{j:Nat}{v:α}(h:xs[j]?=a7 v):atI xs (j:Int)=a7 v:=by
 have L:j<xs.length:=(B5.mp h).1;have e:LL xs.length (j:Int)=a7 j:=by unfold LL;rw[o8 b7,o8<|by lia];simp
 unfold atI;rw[e];exact h
def vR(b:i3):Prop:=∀o i,subscripted b c5 o i=operate [o,i] (m5 o i)
def Lo(X:Cx)(r:R2):Prop:=∀(a e:i3) (p:List (d6×d7)) (s:f9) (σ:St) (H:Hp) (x y:V) (v u:c6) (Q:VK),t5 X p σ H s->aR x v->aR y u->r x y H Q ->subscripted e c5 v u=operate [v,u] (m5 v u)->i0 (i4 X.prog X.w) X.A (subscriptTail a e v u) (EP X p σ Q) X.xe s
def Nv(X:Cx)(id:String)(r:V->List V->Hp->VK->Prop):Prop:=∀(p:List (d6×d7)) (s:f9) (σ:St) (H:Hp) (x:V) (xs:List V) (v:c6) (us:List c6) (Q:VK),t5 X p σ H s->aR x v->az xs us->r x xs H Q ->i0 (i4 X.prog X.w) X.A (call (.builtin id)<|v::us) (EP X p σ Q) X.xe s
section
variable{X:Cx}{a b:i3}{ta tb:TE}{pos:i5}
def Lo.or(h:Lo X r)(h':Lo X r'):Lo X (λx y H Q=>r x y H Q\/r' x y H Q):=by intro a e p s σ H x y v u Q I g i q hs;rcases q with q|q;exact h a e p s σ H x y v u Q I g i q hs;exact h' a e p s σ H x y v u Q I g i q hs
def pe_ix(i:Lo X r)(f:PE X a ta)(e:PE X b tb)(hs:vR b):PE X (.Subscript a b pos) (Om r ta tb):=by intro p s σ H Q I h;exact Subscript_<|binT f e I h λv u n x y c d g j q=>i a b p n σ c x y v u Q d g j q<|hs _ _
def rIxL(K:u6):R2:=λx y H Q=>∃p xs i v,x=.ref p/\y=.int i/\Kx K H p xs/\atI xs i=a7 v/\Q v H
def rIxT(K:u6):R2:=λx y H Q=>∃p xs i v,x=.ref p/\y=.int i/\D0 K H p xs/\atI xs i=a7 v/\Q v H
def rIxS:R2:=λx y H Q=>∃z i c,x=.str z/\y=.int i/\z.length<=sizeLine/\atI z.cps.toList i=a7 c/\Q (.str ⟨#[c]⟩) H
def Gi:Lo X (rIxL X.K):=by
 intro c e a s σ H x y v u Q I B C h hs;obtain⟨p,xs,i,z,rfl,rfl,A,m,q⟩:=h;cases B;obtain⟨t,rfl⟩:=C;obtain⟨its,r,l,F⟩:=I.list A;obtain⟨j,h1,h2,D,g,k⟩:=vP m;obtain⟨w,d,b⟩:=r.get h2;have o:=r.length;have E:=pY;have n:EP X a σ Q w s:=⟨z,H,I,b,q⟩
 by_cases f:0<=i;have L:i.toNat=j:=by rw[seqIndex_of f k]at h1;exact C1 h1
 exact item_listR l.isList f b7 (by rw[L];simpa using d) n hs;have L:(i+(its.toArray.size:Int)).toNat=j:=by rw[seqIndex_neg b7 g]at h1;rw[A5,<-o];exact C1 h1
 exact subscriptTail_builtinR (x:=w) l.isList.typeIs slot_list_getitem.lookup (wpAny_getItem_list_neg (Q:=λr s'=>r=w/\EP X a σ Q r s') l.isList b7 (by rw[A5]<;>lia) b7 (by rw[L];simpa using d) ⟨rfl,n⟩) hs
def Ji:Lo X (rIxT X.K):=by
 intro c e a s σ H x y v u Q I m o h hs;obtain⟨p,xs,i,z,rfl,rfl,k,f,q⟩:=h;cases m;obtain⟨t,rfl⟩:=o;obtain⟨its,r,l,E⟩:=I.tuple k;obtain⟨j,h1,h2,A,B,C⟩:=vP f;obtain⟨w,d,b⟩:=r.get h2;have g:=r.length;have D:=pY;have n:EP X a σ Q w s:=⟨z,H,I,b,q⟩
 exact subscriptTail_builtinR (x:=w) l.typeIs slot_tuple_getitem.lookup (getItem_tuple (j:=j) (Q:=λr s'=>r=w/\EP X a σ Q r s') l b7 b7 (by rw[A5,<-g];exact h1) (by simpa using d) ⟨rfl,n⟩) hs
def Jj:Lo X rIxS:=by
 intro a e p s σ H x y v u Q I r m h hs;obtain⟨z,i,c,rfl,rfl,w,f,q⟩:=h;obtain⟨t,rfl⟩:=r;obtain⟨t',rfl⟩:=m;obtain⟨j,h1,h2,n,d,k⟩:=vP f;have g:z.cps.toList.length=z.length:=by simp[Str.length]
 rw[g]at h1 d k;have o:=pY;exact tail_any (typeIs_str s z t) slot_str_getitem.lookup (getItem_str (c:=c) (by have b:decide (i < -(2 ^ 63:Int))=c5:=dF_ b7;have l:decide (i ≥ 2 ^ 63)=c5:=dF_ b7;rw[b,l,Bool.or_false]) (by rw[h1];simpa using h2) ⟨.str ⟨#[c]⟩,H,I.tok _,⟨_,rfl⟩,q⟩) hs
def rIx(K:u6):R2:=λx y H Q=>rIxL K x y H Q\/rIxT K x y H Q\/rIxS x y H Q
def Jk:Lo X (rIx X.K):=Gi.or<|Ji.or Jj
def xR(its:List c6)(n j:Nat)(u:c6):F9 (·.setIfInBounds j u) { cls:=.type "list",data:=.seq its.toArray n }={ cls:=.type "list",data:=.seq (its.set j u).toArray n }:=by simp[F9]
def t5.lst(I:t5 X pins σ H s)(h:H p=a7 (.lst xs)):∃(its:List c6) (n:Nat),az xs its/\s.heap.get? p=a7 { cls:=.type "list",data:=.seq its.toArray n }/\xs.length<=sizeLine:=by obtain⟨z,its,n,r,e⟩:=I.hok p _ h;exact⟨its,n,r,e,z⟩
def t5.lstUpd{pins:List (d6×d7)}{σ:St}{H:Hp}{s:f9}{p:d6}{xs ys:List V}{its its':List c6}{n a:Nat}{f:d7->d7}(I:t5 X pins σ H s)(h:H p=a7 (.lst xs))(B:s.heap.get? p=a7 { cls:=.type "list",data:=.seq its.toArray n }) (c:f { cls:=.type "list",data:=.seq its.toArray n }={ cls:=.type "list",data:=.seq its'.toArray a }) (r:az ys its') (hz:ys.length<=sizeLine) (t:Nat):t5 X pins σ (v8 H p<|.lst ys) { s with heap:=s.heap.update p f,toks:=t }:=by
 have e:(s.heap.update p f).get? p=a7 { cls:=.type "list",data:=.seq its'.toArray a }:=by rw[Lu f B (by rw[c]<;>rfl),c]
 refine I.write (x:=p) (e:=p) (by rw[h];trivial) (.inl rfl) (λb u d q=>(MB _ _<|A8 d).trans q) ⟨_,e⟩ ?_;exact⟨hz,its',a,r,e⟩
def rSetL:V->V->V->Hp->(Hp->Prop)->Prop:=λo i v H Q=>∃p xs k j,o=.ref p/\i=.int k/\H p=a7 (.lst xs)/\LL xs.length k=a7 j/\Q (v8 H p<|.lst<|xs.set j v)
def Ce:PSet X rSetL:=by
 intro a s σ H o i v C A u Q I w m x h;obtain⟨p,xs,k,j,rfl,rfl,l,L,q⟩:=h;cases w;obtain⟨t,rfl⟩:=m;obtain⟨its,n,r,B,z⟩:=I.lst l;obtain⟨h1,h2,e,f⟩:=Az L;have g:=r.length;have y:=pY;have c:t5 X a σ (v8 H p<|.lst<|xs.set j v) { s with heap:=s.heap.update p (F9 (·.setIfInBounds j u)) }:=I.lstUpd l B (xR its n j u) (r.set x j) (by rw[Ld];exact z) s.toks;by_cases d:0<=k;have b:k.toNat=j:=by rw[seqIndex_of d f]at h1;exact C1 h1
 exact PySem.W.ki_setAt B d b7 (by rw[A5,<-g];exact f) (by rw[b];exact⟨_,c,q⟩);have b:(k+(its.toArray.size:Int)).toNat=j:=by rw[seqIndex_neg b7 e]at h1;rw[A5,<-g];exact C1 h1
 exact PySem.W.ki_setBack B b7 (by rw[A5,<-g];exact e) b7<|by rw[b];exact⟨_,c,q⟩
def sT(lo hi:Option Int)(n:Nat):(m6 lo hi a8 n).1=((HT.sIx n 0 lo:Nat):Int)/\(m6 lo hi a8 n).2.1=((HT.sIx n n hi:Nat):Int)/\(m6 lo hi a8 n).2.2=1:=by
 refine⟨?_,?_,rfl⟩;cases lo with
 |none=>simp[m6,HT.sIx]
 |some i=>simp only[m6,HT.sIx,Option.getD_none,show (1:Int) > 0 by decide,p9];by_cases h:i<0;simp only[h,p9]<;>lia;simp only[h,p8]<;>lia
 cases hi with
 |none=>simp[m6,HT.sIx]
 |some i=>simp only[m6,HT.sIx,Option.getD_none,show (1:Int) > 0 by decide,p9];by_cases h:i<0;simp only[h,p9]<;>lia;simp only[h,p8]<;>lia
def qA(its:List c6)(lo hi:Option Int):slicePick its.toArray lo hi a8=((its.drop<|HT.sIx its.length 0 lo).take<|HT.sIx its.length its.length hi-HT.sIx its.length 0 lo).toArray:=by obtain⟨h1,h2,a⟩:=sT lo hi its.toArray.size;unfold slicePick;rw[h1,h2,a];simp only[sliceRange_one,pick_run,A5]<;>rfl
def rSlL(K:u6):V->Option Int->Option Int->Hp->VK->Prop:=λx l hi H Q=>∃a xs,x=.ref a/\Kx K H a xs/\∀p,H p=a8->Q (.ref p) (v8 H p<|.lst<|Et xs l hi)
def EM:Ow X (rSlL X.K):=by intro p s σ H x v f i l hi m Q I g hs d u h;obtain⟨a,xs,rfl,c,q⟩:=h;cases g;obtain⟨its,r,D,z⟩:=I.list c;have n:=r.length;refine⟨"list",_,slot_list_getitem.lookup,D.isList.typeIs,?_⟩;refine wpAny_getItem_list_slice D.isList hs d u .none b9 ?_ (by rw[A5]<;>lia);rw[qA,<-n];refine⟨.ref s.heap.objs.size,_,I.laid (t':=s.toks) (o:=.lst<|Et xs l hi) (λb e q=>w5 _ q) (v7 _) ?_,rfl,q _<|I.hok.fresh<|v7 _⟩;exact⟨KY (oh xs l hi) z,_,0,(r.drop<|HT.sIx xs.length 0 l).take<|HT.sIx xs.length xs.length hi-HT.sIx xs.length 0 l,B6 _ rfl⟩
def uk:gK X (.builtin "len") (λxs H Q=>∃p ys,xs=[.ref p]/\(Kx X.K H p ys\/D0 X.K H p ys)/\Q (.int ys.length) H):=by intro b s σ H xs us Q I r h;obtain⟨p,ys,rfl,a,q⟩:=h;obtain⟨u,rfl,g⟩:=BO r;cases g;have f:=pY;rcases a with a|a;obtain⟨its,r',l,z⟩:=I.list a;have n:=r'.length;exact Calls.call_len_list l.isList (by simp only[A5]<;>lia) ⟨.int ys.length,H,I.tok _,⟨s.toks+1,by rw[A5,n]⟩,q⟩;obtain⟨its,r',l,z⟩:=I.tuple a;have n:=r'.length;exact len_tuple l (by simp only[A5]<;>lia) ⟨.int ys.length,H,I.tok _,⟨s.toks+1,by rw[A5,n]⟩,q⟩
def uj:gK X (.builtin "len") (λxs H Q=>∃z,xs=[.str z]/\z.length<=sizeLine/\Q (.int z.length) H):=by intro p s σ H xs us Q I r h;obtain⟨z,rfl,b,q⟩:=h;obtain⟨u,rfl,t,rfl⟩:=BO r;have f:=pY;exact len_str b7 ⟨.int z.length,H,I.tok _,⟨_,rfl⟩,q⟩
def gK.or(h:gK X f r)(h':gK X f r'):gK X f (λxs H Q=>r xs H Q\/r' xs H Q):=by intro p s σ H xs us Q I a q;rcases q with q|q;exact h p s σ H xs us Q I a q;exact h' p s σ H xs us Q I a q
def ui:gK X (.type "list") (λxs H Q=>∃p ys,xs=[.ref p]/\(Kx X.K H p ys\/D0 X.K H p ys)/\∀l,H l=a8->Q (.ref l) (v8 H l<|.lst ys)):=by
 intro d s σ H xs us Q I r h;obtain⟨p,ys,rfl,c,q⟩:=h;obtain⟨u,rfl,x⟩:=BO r;cases x;have f:∀(its:List c6),az ys its->ys.length<=sizeLine->∀(h':d8) (U:Nat),(∀b o',s.heap.get? b=a7 o'->h'.get? b=a7 o') -> h'.get? s.heap.objs.size=a7 { cls:=.type "list",dict:=a8,data:=.seq its.toArray U,slots:=#[] }->EP X d σ Q (.ref s.heap.objs.size) { s with heap:=h' }:=λits r' z h' U k e =>
  ⟨.ref s.heap.objs.size,_,I.laid (t':=s.toks) k (v7 _)<|show cB X.prog X.w _ h' _ (.lst ys)from⟨z,its,U,r',e⟩,rfl,q _<|I.hok.fresh<|v7 _⟩
 rcases c with c|c;obtain⟨its,r',j,z⟩:=I.list c;have a:=r'.length;obtain⟨o,B,g,n,i⟩:=j.isList;exact call_list_seq p (.inl rfl) B g i (λh' U k e=>f its r' z h' U k e) (by simp only[A5]<;>lia);obtain⟨its,r',j,z⟩:=I.tuple c;have a:=r'.length;obtain⟨o,B,g,n,i⟩:=j;exact call_list_seq p (.inr rfl) B g i (λh' U k e=>f its r' z h' U k e)<|by simp only[A5]<;>lia
def rD:gK X (.type "tuple") (λxs H Q=>∃p ys,xs=[.ref p]/\((Kx X.K H p ys/\∀l,H l=a8->Q (.ref l) (v8 H l<|.tup ys))\/(D0 X.K H p ys/\Q (.ref p) H))):=by
 intro a s σ H xs us Q I r h;obtain⟨p,ys,rfl,h⟩:=h;obtain⟨u,rfl,x⟩:=BO r;cases x;rcases h with⟨c,q⟩|⟨c,q⟩
 obtain⟨its,r',d,z⟩:=I.list c;have n:=r'.length;refine call_tuple_list d.isList (λh' k=>?_) (by simp only[A5]<;>lia);have f:t5 X a σ H { s with heap:=h' }:=I.kept (t':=s.toks) k;have g:t5 X a σ (v8 H h'.objs.size<|.tup ys) { s with heap:=h'.push { cls:=.type "tuple",data:=.seq its.toArray } }:=f.laid (t':=s.toks) (λb o e=>w5 _ e) (v7 _)<|show cB X.prog X.w _ _ _ (.tup ys)from⟨z,its,r',DM.new _ _⟩;exact⟨.ref h'.objs.size,_,g,rfl,q _<|f.hok.fresh<|v7 _⟩;obtain⟨its,r',d,z⟩:=I.tuple c;exact call_tuple_same d ⟨.ref p,H,I,rfl,q⟩
def QF(K:u6)(T:String)(x:V)(H:Hp):Prop:=match x with
 |.str _=>T = "str"
 |.int _=>T = "int"
 |.ref p=>(T = "list"/\∃xs,Kx K H p xs)\/(T = "tuple"/\∃o,K.lookup p=a7 o/\o.cls=.type "tuple"/\o.dict=a8) \/(T = "dict"/\((∃s,H p=a7 (.dK s))\/∃s,H p=a7 (.dT s)))\/(T = "set"/\∃S n,H p=a7 (.set S n))
 |_=>False
def Hn(I:t5 X pins σ H s)(r:aR x v)(y:QF X.K T x H):s.TypeIs v T/\∀a,v=.ref a->∃ob,s.heap.get? a=a7 ob/\ob.dict=a8:=by
 cases x with
 |str z=>obtain⟨t,rfl⟩:=r;cases (show T = "str" from y);exact⟨typeIs_str s z t,λ_ e=>nomatch e⟩
 |int i=>obtain⟨t,rfl⟩:=r;cases (show T = "int" from y);exact⟨typeIs_int s i t,λ_ e=>nomatch e⟩
 |ref p =>
  cases r;rcases y with⟨rfl,xs,q⟩|⟨rfl,o,k,h,d⟩|⟨rfl,k⟩|⟨rfl,S,n,k⟩
  obtain⟨its,_,g,_⟩:=I.list q;refine⟨g.isList.typeIs,λa e=>?_⟩;cases e;obtain⟨o,n,e,c,d,_⟩:=g;exact⟨o,e,d⟩;refine⟨⟨o,I.kIn p o k,h⟩,λa e=>?_⟩;cases e;exact⟨o,I.kIn _ o k,d⟩;have z:∃o,s.heap.get? p=a7 o/\o.ExactDict:=by
   rcases k with⟨f,k⟩|⟨f,k⟩
   obtain⟨_,_,_,_,o,_,_,e,b,_⟩:=I.hok p _ k;exact⟨o,e,b⟩;obtain⟨_,_,_,_,o,_,_,e,b,_⟩:=I.hok p _ k;exact⟨o,e,b⟩
  obtain⟨o,e,b⟩:=z;refine⟨⟨o,e,b.1⟩,λa l=>?_⟩;cases l;exact⟨o,e,b.2.1⟩;obtain⟨o,_,_,_,e,b,_⟩:=I.hok p _ k;refine⟨⟨o,e,b.1⟩,λa l=>?_⟩;cases l;exact⟨o,e,b.2.1⟩
 |_=>exact H9 y
def tBM(K:u6)(T:String)(r:V->List V->Hp->VK->Prop)(d:TE)(t:TA):TE:=λσ H Q=>d σ H λx H1=>QF K T x H1/\t σ H1 λxs a=>r x xs a Q
variable{o e:i3}{es:List i3}{to:TE}{t:TA}{name:c8}{apos cpos:i5}{T id:String}{r:V->List V->Hp->VK->Prop}
theorem pe_bm(l:PlainAttrs T)(slot:Slot T name id)(y:typeOf (.builtin id)=pure (.type "method_descriptor"))(k:Nv X id r)(B:PE X o to)(j:PA X (e::es) t)(b:attributeBase o name X.env (eval o X.env)=eval o X.env:=by rfl)(w:((i6 cpos<|i7 (e::es) X.env).all (λx=>!x.1)&&(backToKw cpos<|keywordEach [] X.env).all (λx=>x.1.isSome) && decide ((e::es).length+([]:List Keyword).length+(if ([]:List Keyword).isEmpty then 0 else 1)<30))=a9:=by rfl)(c:(apos.endLine==cpos.line)=a9:=by rfl) (hs:i7 (e::es) X.env=(c5,eval e X.env)::i7 es X.env:=by rfl) (n:(i6 cpos<|i7 es X.env).any (·.1)=c5:=by rfl):PE X (.Call (.Attribute o name apos) (e::es) [] cpos) (tBM X.K T r to t):=by intro p s σ H Q I h;refine wpAny_Call_method_late b w c rfl<|v6 (B p s σ H _ I h) ?_;rintro v C ⟨x,H1,d,f,E,q⟩;obtain⟨h1,h2⟩:=Hn d f E;refine⟨T,id,l,slot,y,h1,h2,?_⟩;have A:=j cpos p C σ H1 _ d q;rw[hs]at A ⊢;refine Calls.callWith_builtin (by show (c5||(i6 cpos<|i7 es X.env).any (·.1))=c5;rw[n]<;>rfl)<|Calls.evalArgs_plain ?_;refine v6 A ?_;rintro us D ⟨vs,g,i,z,u⟩;exact k p D σ g x vs v us Q i f z u
/- xs.append(e),list.index on a module's tuple .. are Nv facts of 06m -/
end
def MtM(X:Cx)(id:String)(r:V->List V->Hp->VK->Prop):Prop:=∀(p:List (d6×d7)) (s:f9) (σ:St) (H:Hp) (x:V) (xs:List V) (v:c6) (us:List c6) (Q:VK),t5 X p σ H s->aR x v->az xs us->r x xs H Q ->i0 (i4 X.prog X.w) X.A (call (.builtin id)<|v::us) (EP X p σ Q) X.xe s
def az.one(h:az [x] us):∃u,us=[u]/\aR x u:=by
 cases h with
 |cons r t=>cases t;exact⟨_,rfl,r⟩
def az.two(h:az [x,y] us):∃u v,us=[u,v]/\aR x u/\aR y v:=by
 cases h with
 |cons r t=>obtain⟨v,e,q⟩:=az.one t;subst e;exact⟨_,v,rfl,r,q⟩
def az.reverse(h:az xs us):az xs.reverse us.reverse:=by
 induction h with
 |nil=>exact .nil
 |cons r t i=>rw[List.reverse_cons,List.reverse_cons];exact az.append i<|.cons r .nil
def az.rep(h:az xs us):∀k:Nat,az (J0 k xs).flatten (J0 k us).flatten
 | 0=>.nil
 |k+1=>by rw[Mz,Mz,Oe,Oe];exact az.append h<|az.rep h k
def ud(its:List c6):∀(k:Nat) (acc:List c6),List.foldl (λx1 x2=>x1++x2) acc.toArray (J0 k its.toArray)=(acc++(J0 k its).flatten).toArray
 | 0,acc=>by simp
 |k+1,acc=>by
  have e:acc.toArray++its.toArray=(acc++its).toArray:=by simp
  have e2:(acc++its)++(J0 k its).flatten=acc++(J0 (k+1) its).flatten:=by rw[Mz,Oe,F0]
  rw[<-e2,<-ud its k (acc++its),<-e,Mz,List.foldl_cons]
def t5.lset{its its':List c6}{n:Nat}{f:Array c6->Array c6}{t':Nat}(I:t5 X pins σ H s)(h:H l=a7 (.lst xs))(e:s.heap.get? l=a7 { cls:=.type "list",data:=.seq its.toArray n }) (a:f its.toArray=its'.toArray) (c:az ys its') (hz:ys.length<=sizeLine):t5 X pins σ (v8 H l<|.lst ys) { s with heap:=s.heap.update l<|F9 f,toks:=t' }:=by have q:=PySem.IsL.update e f;rw[a]at q;refine I.write (x:=l) (e:=l) (by rw[h];exact trivial) (.inl rfl) (λb u d g=>(MB s.heap (F9 f)<|A8 d).trans g) ⟨_,q⟩ ?_;exact⟨hz,its',_,c,q⟩
def t5.lnew(I:t5 X pins σ H s)(c:az ys its)(hz:ys.length<=sizeLine):t5 X pins σ (v8 H s.heap.objs.size<|.lst ys) { s with heap:=s.heap.push { cls:=.type "list",data:=.seq its.toArray },toks:=t' }:=I.laid (λ_ _ q=>w5 _ q) (v7 _) ⟨hz,its,0,c,B6 _ rfl⟩
def t5.fresh(I:t5 X pins σ H s):H s.heap.objs.size=a8:=I.hok.fresh<|v7 _
def t5.lstM(I:t5 X pins σ H s)(h:H l=a7 (.lst xs)):xs.length<=sizeLine/\∃(its:List c6) (n:Nat),az xs its/\xs.length=its.length/\s.heap.get? l=a7 { cls:=.type "list",data:=.seq its.toArray n }:=by obtain⟨z,its,n,r,e⟩:=I.hok l _ h;exact⟨z,its,n,r,r.length,e⟩
def CD(h:n<=sizeLine):QA n=c5:=by unfold QA;exact dF_<|by lia
def EU:V->List V->Hp->VK->Prop:=λx vs H Q=>∃l xs y,x=.ref l/\vs=[y]/\H l=a7 (.lst xs)/\xs.length<sizeLine/\Q .non (v8 H l<|.lst<|xs++[y])
def zV:MtM X "list.append" EU:=by intro p s σ H x vs v us Q I g d h;obtain⟨l,xs,y,rfl,rfl,a,c,q⟩:=h;cases g;obtain⟨u,rfl,R⟩:=d.one;obtain⟨z,its,n,r,b,e⟩:=I.lstM a;refine call_meets F.slot_list_append ⟨_,e,rfl⟩ F.entry_list_append (F.args_list_append_2 _ _) (PySem.list_append l its.toArray n u<|by rw[A5];lia) ⟨e,?_⟩;refine⟨.non,_,I.lset (its':=its++[u]) a e b9 (r.append<|.cons R .nil) ?_,rfl,q⟩;rw[E2,Oj];lia
def rCat:R2:=λx y H Q=>∃l b xs s,x=.ref l/\y=.ref b/\H l=a7 (.lst xs)/\H b=a7 (.lst s)/\xs.length+s.length<=sizeLine/\∀p,H p=a8->Q (.ref p) (v8 H p<|.lst<|xs++s)
def Ip:D8 X (j9 .Add) rCat:=by
 intro p s σ H x y v u Q I j k h;obtain⟨l,b,xs,A,rfl,rfl,d,B,o,q⟩:=h;cases j;cases k;obtain⟨z,its,n,r,m,e⟩:=I.lstM d;obtain⟨w,i,t,g,f,a⟩:=I.lstM B;refine PySem.P.add_list e a ?_ (by rw[A5,A5];lia);have c:its.toArray++i.toArray=(its++i).toArray:=by simp
 rw[c];exact⟨.ref _,_,I.lnew (t':=s.toks) (r.append g) (by rw[E2];lia),rfl,q _ I.fresh⟩
def rRep:R2:=λx y H Q=>∃l k xs,x=.ref l/\y=.int k/\H l=a7 (.lst xs)/\-(2 ^ 63)<=k/\k<2 ^ 63/\xs.length*k.toNat<=sizeLine /\∀p,H p=a8->Q (.ref p) (v8 H p<|.lst (J0 k.toNat xs).flatten)
def FH{α:Type}(xs:List α)(k:Nat):(J0 k xs).flatten.length=k*xs.length:=by
 induction k with
 |zero=>simp
 |succ k i=>rw[Mz,Oe,E2,i,Nat.succ_mul,Nat.add_comm]
def Il:D8 X (j9 .Mult) rRep:=by
 intro j s σ H x y v u Q I C D h;obtain⟨l,k,xs,rfl,rfl,A,h1,h2,i,q⟩:=h;cases C;obtain⟨t,rfl⟩:=D;obtain⟨z,its,n,r,B,e⟩:=I.lstM A;have c:its.toArray.size*k.toNat<=sizeLine:=by rw[A5,<-B];exact i
 have p:¬its.toArray.size*k.toNat > (2 ^ 63-1) / 8:=by
  have:(sizeLine:Nat)<=(2 ^ 63-1) / 8:=by decide
  lia
 have b:¬(!ADF k)=a9:=by rw[fitsIndex_both h1 h2];exact NJ
 have g:¬QA (its.toArray.size*k.toNat)=a9:=by rw[CD c];exact NJ
 have w:List.foldl (λd f=>d++f) #[] (J0 (if its.toArray.isEmpty=a9 then 0 else k.toNat) its.toArray)=(J0 k.toNat its).flatten.toArray:=by
  have o:∀m:Nat,List.foldl (λd f=>d++f) #[] (J0 m its.toArray)=(J0 m its).flatten.toArray:=λm=>by have:=ud its m [];rw[E9]at this;exact this
  rw[o];cases its with
  |nil=>simp
  |cons a r'=>rw[p0<|by simp]
 refine wpAny_binaryOp_repeat_ref (T:="list") (U:="int") b0 ⟨_,e,rfl⟩ (λs'=>typeIs_int s' k t) noFill_list_mul F.fills_int_mul F.slot_int_rmul repeat_list F.slot_int_index.lookup<|call_meets F.slot_int_rmul (typeIs_int s k t) F.entry_int_rmul (F.args_int_rmul_2 _ _) (int___rmul___int_list k t l its.toArray n) ⟨e,rfl,⟨_,e,rfl⟩,call_meets F.slot_list_mul ⟨_,e,rfl⟩ F.entry_list_mul (F.args_list_mul_2 _ _) (AutoListH.list___mul___list_int_3 l its.toArray n k t b p g) ⟨e,?_⟩⟩;rw[w];exact⟨.ref _,_,I.lnew (t':=s.toks) (r.rep k.toNat) (by rw[FH,Nat.mul_comm];exact i),rfl,q _ I.fresh⟩
end L2
namespace Att
open PySem PySem.W PySem.Calls PyProof.Rows
def nU:∀(ns:List Int) (vs:List c6),WellAll P h vs (ns.map WData.int)->IntsAre vs ns:=by
 intro ns;induction ns with
 |nil=>intro vs w;rw[Me]at w;cases w;exact .nil
 |cons n ns i =>
  intro vs w;rw[B9]at w;cases w with
  |cons a b=>cases a;exact .cons _ _<|i _ b
def zw{l:OpenLaw}{n:Nat}(o:l.most=a7 n){P:Params}{h:d8}{args:List WData}{s:List c6}(e:l.row.toRowW.claim.pre args=a9) (i:WellAll P h s args):∃a vs ns,s=[F8 a]/\args=[WData.list<|ns.map WData.int]/\h.get? a=a7 { cls:=.type "list",data:=.seq vs.toArray }/\IntsAre vs ns/\ns.length<=n:=by
 have g:WShape.hasAll [] args [.list .int]=a9:=(pre_splitW e).1;have j:l.pre.holds [] { args:=args }=a9:=(pre_splitW e).2;obtain⟨d,r,rfl,h1,h2⟩:=hasAllW_cons g;obtain rfl:=hasAllW_nil h2;obtain⟨xs,rfl,m⟩:=hasW_list h1;obtain⟨ns,rfl⟩:=items_int m;have c:ns.length<=n:=by
  unfold OpenLaw.pre at j;have f:(WTm.not<|.lt (.lit<|.int (n:Int))<|.len<|.arg 0).holds [] { args:=[.list<|ns.map .int] }=a9:=by have f:=(holds_andW j).1;rw[o]at f;exact f
  have k:=condW_of f<|w_not<|w_lt w_lit<|w_len_list<|w_arg rfl;rw[v5]at k;refine Nat.le_of_not_lt λq=>?_;have p:(n:Int)<((ns.length:Nat):Int):=by lia
  first
   |(rw[dT_ p]at k;exact p5 k b0)
   |(simp at k;lia)
 cases i with
 |cons w t =>
  cases t;cases w with
  |list B b=>exact⟨_,_,ns,rfl,rfl,B,nU ns _ b,c⟩
def zE(l:OpenLaw)(args:List WData):l.row.toRowW.claim.post args (.bool a9) args=a9:=postW_of (r:=l.row.toRowW) (X:=(a9==a9))
  (show WShape.has [] (.bool a9) .bool=a9 by first|rfl|decide|simp[WShape.has,WShape.arms,WShape.armsAll])
  (show (WTm.eq .res<|.lit<|.bool a9).value [] { args:=args,res:=a7<|.bool a9,after:=args }=a7 (.bool<|a9==a9)from w_eq_bool (w_res rfl) w_lit) rfl
def attach_call{l:OpenLaw}{n:Nat}{q:d5}{e:List c8}{P:(c8->Option c6)->d8->Prop}{YP:c9->d8->Prop}{d:DefRec}(A:l.most=a7 n) (i:d.params.defaults=[])(c:∀(w:c9) (s₀ s₁:f9) (mg mb:c8->Option c6) (fa:d6) (o:d7) (pm cd doc:c6) (a:d6) (vs:List c6) (ns:List Int),Ground q e [] P w s₀ mg mb s₁.heap->YP w s₁.heap -> s₁.heap.get? fa=a7 o->o.data=.func (docDef d.name d.params d.body d.scope pm cd doc)->s₁.heap.CodeRec cd d.name->mg d.name=a7 (.ref fa) ->s₁.heap.get? a=a7 { cls:=.type "list",data:=.seq vs.toArray }->IntsAre vs ns->ns.length<=n->s₁.gens = #[] ->k9 (i4 l.prog w) callerA (.call (.ref fa) ⟨[.ref a],[]⟩) (λr s'=>r=.ok (.ret<|.bool a9)/\OldK s₁.heap s'.heap/\s'.os=s₁.os/\g9 s'.gens) s₁):WalkO q e P YP l.row.toRowW d [] (λf vs=>PySem.call f vs):=by intro w s₀ s₁ mg mb G Y fa o pm cd doc T kV B u g D k S O v F b y E m x;obtain rfl:T=.none:=Dflts.none D i;obtain rfl:kV=.none:=Dflts.noKw D;obtain⟨a,vs,ns,rfl,rfl,j,s,h⟩:=zw A b m;refine enter_call<|Mq (c w s₀ s₁ mg mb fa o pm cd doc a vs ns G Y B (fd_plain u) g k j s h S) λr s' C=>?_;obtain⟨rfl,h2,p,t⟩:=C;exact⟨.inl ⟨.bool a9,.bool a9,[],rfl,λ_=>rfl,.bool a9,zE l _,λ_=>⟨Od,λ_ z=>(nomatch z)⟩⟩,h2,p,t⟩
noncomputable def noObjs(h:d8):d8:={ h with objs:=#[] }
def noObjs_get(h:d8)(b:d6):(noObjs h).get? b=a8:=by
 cases e:(noObjs h).get? b with
 |none=>rfl
 |some o=>exact p5 (z8 e)<|MP _
noncomputable def ledger(h:d8)(L d:d6):List (d6×d7):=(B7 h.objs.size).filterMap λa=>if a=L\/a=d then a8 else(h.get? a).map λo=>(a,o)
def mem_ledger:(a,o)∈ledger h L d↔a≠L/\a≠d/\h.get? a=a7 o:=by unfold ledger;rw[OS];constructor;rintro⟨b,_,e⟩;split at e;cases e;rename_i c;obtain⟨o',B,f⟩:=PH.mp e;cases f;exact⟨λq=>c<|.inl q,λq=>c<|.inr q,B⟩;rintro⟨n1,n2,B⟩;refine⟨a,G1.mpr<|z8 B,?_⟩;rw[p0<|show ¬(a=L\/a=d)from λq=>q.elim n1 n2,B]<;>rfl
def news_ledger(b:d≠L)(B:h.get? d=a7 od):News (noObjs h) L h ([]++(d,od)::ledger h L d):=by rintro⟨a,o⟩ p;rcases z7.mp p with e|p;cases e;exact⟨B,b,noObjs_get _ _⟩;obtain⟨n,c,e⟩:=mem_ledger.mp p;exact⟨e,n,noObjs_get _ _⟩
def fr_all(n:h.Ns L m):Fr (noObjs h) L h m:=⟨n,λb o e=>(by rw[noObjs_get]at e;cases e),B0 _⟩
end Att
namespace L2
open PySem PySem.Spec PyProof.Rows
def rS:∀{vs:List c6}{ns:List Int},IntsAre vs ns->az (ns.map V.int) vs
 |_,_,.nil=>.nil
 |_,_,.cons n t h=>.cons ⟨t,rfl⟩<|rS h
noncomputable abbrev KOf{K:u6}{h:d8}(_:K.In h):u6:=K
noncomputable def ju(s:i8):Arguments:=match s with
 |.FunctionDef _ a _ _ _ _ _ _ _ _=>a
 |_=>{ posonlyargs:=[],args:=[],vararg:=a8,kwonlyargs:=[],kw_defaults:=[],kwarg:=a8,defaults:=[] }
noncomputable def bG(s:i8):List i8:=match s with
 |.FunctionDef _ _ b _ _ _ _ _ _ _=>b
 |_=>[]
noncomputable def ao(s:i8):g8:=match s with
 |.FunctionDef _ _ _ _ _ _ sc _ _ _=>sc
 |_=>{ kind:=.function,names:=[],isGenerator:=c5,isCoroutine:=c5 }
abbrev G3:MG:=λ_ _ _ _ _ _=>False
abbrev E0:XK:=λ_ _ _=>False
def pass0:xr G3 X E0:=λ_ _ _ _ _ _ _ h=>h.elim
structure LO(K:u6)(x qual:c8)(st:i8)(f:d6)(fd:k8):Prop where
 ex:∃(oc:c6) (od:Option d6) (kV doc pm:c6) (an:Option d6) (cdv ct:c6) (osl:Array (Option c6)),fd=Mf x qual (ju st) (bG st) (ao st) .none kV doc pm an cdv ct/\K.lookup f=a7 ⟨oc,od,.func fd,osl⟩/\OJ K cdv qual=a9
 kp:Mt K (.ref f)=a9
def LO.ok{P:d5}{w:c9}{K:u6}{mg:c8->Option c6}{base:d8}{x l:c8}{st:i8}{f:d6}{a:k8}{N ps:List c8}{k:Nat}{sp:Sp}(F:LO K x l st f a)(S:FnScope N ps (ao st))(B:∀vs H Q E,sp vs H Q E->vs.length=ps.length)(y:∀(cdv:c6) (A:f8) (outer:List g7) (s:f9) (H:Hp) (vs:List V) (Q:VK) (E:XK),Room k (A.deeper<|c7 l (ao st) s.heap.objs.size f cdv)->sp vs H Q E -> ∃t,Kz (jw G3 P w K mg base N l (ao st) f cdv A outer s H E).nox (bG st) t/\t { nx:=λ_ H'=>Q .non H',rt:=Q } (start N vs) H):FnOk P w K mg base G3 (k+1) f a ps sp:=by obtain⟨oc,j,kV,i,U,M,cdv,R,G,rfl,b,d⟩:=F.ex;refine Do b d S B λA outer s H vs Q E r z=>?_;obtain⟨t,h,q⟩:=y cdv A outer s H vs Q E r z;exact⟨t,h.nox,q⟩
def LO.binds{K:u6}{x l:c8}{st:i8}{f:d6}{d:k8}{ps:List c8}(F:LO K x l st f d)(h:∀(kV doc pm:c6) (an:Option d6) (cdv ct:c6) (us:List c6),us.length=ps.length->bindArgs (Mf x l (ju st) (bG st) (ao st) .none kV doc pm an cdv ct) ⟨us,[]⟩=pure (ps.zip us)):oR K d ps []:=by obtain⟨oc,j,kV,doc,pm,an,cdv,ct,G,rfl,b,a⟩:=F.ex;exact .all<|h kV doc pm an cdv ct
def Jy{K:u6}{x q:c8}{st:i8}{f:d6}{oc:c6}{j M:Option d6}{G:Array (Option c6)}{kV i U v R:c6}(l:K.lookup f=a7 ⟨oc,j,.func<|Mf x q (ju st) (bG st) (ao st) .none kV i U M v R,G⟩)(c:OJ K v q=a9) (k:Mt K (.ref f)=a9):LO K x q st f (Mf x q (ju st) (bG st) (ao st) .none kV i U M v R):=⟨⟨oc,j,kV,i,U,M,v,R,G,rfl,l,c⟩,k⟩
def bA(h:n<=1000):n<sizeLine:=Nat.lt_of_le_of_lt h<|by decide
def pv(i:Nat)(h:X.N[i]?=a7 x:=by rfl)(c:Nt X.env.scope x:=by first|exact Or.inl rfl|exact Or.inr (Or.inl rfl)|exact Or.inr<|Or.inr rfl)(a:(x==("__debug__":c8))=c5:=by decide)(d:(x==("__classdict__":c8))=c5:=by decide):PE X (.Name x pos) (tVar i):=DY h c a d
def fP{A B:Prop}(h:B):if c5=a9 then A else B:=by rw[p0 NJ];exact h
def eG{A B:Prop}(h:A):if a9=a9 then A else B:=by rw[o8 rfl];exact h
section
variable{κ:Type}[DecidableEq κ]
noncomputable def xB(kvs:List (κ×V))(k:κ):Option V:=(kvs.find? λv=>decide<|v.1=k).map (·.2)
noncomputable def yC(kvs:List (κ×V))(k:κ)(v:V):List (κ×V):=if (kvs.any λa=>decide<|a.1=k)=a9 then kvs.map (λa=>if a.1=k then(a.1,v)else a)else kvs++[(k,v)]
def qk{p:κ×V}{r:List (κ×V)}{k:κ}(e:p.1=k):xB (p::r) k=a7 p.2:=by simp[xB,Nj,e]
def ql{p:κ×V}{r:List (κ×V)}{k:κ}(e:¬p.1=k):xB (p::r) k=xB r k:=by simp[xB,Nj,e]
def vV(k:κ):∀kvs:List (κ×V),(kvs.any λkv=>decide<|kv.1=k)=(xB kvs k).isSome
 | []=>rfl
 |p::r=>by rw[OG];by_cases e:p.1=k;simp only[qk e,dT_ e,Bool.true_or,Option.isSome_some];rw[ql e,dF_ e,Bool.false_or];exact vV k r
def nJ(kvs:List (κ×V))(k:κ)(v:V):(yC kvs k v).length<=kvs.length+1:=by unfold yC;split;rw[v5];lia;rw[E2,D4,Ix];lia
def yE.isSome_eq(r:yE o u):o.isSome=u.isSome:=by
 cases o with
 |none=>cases u with
  |none=>rfl
  |some _=>exact(show False from r).elim
 |some _=>cases u with
  |none=>exact(show False from r).elim
  |some _=>rfl
def KV.val{kvs:List (κ×V)}{vs:List (κ×c6)}(r:KV kvs vs)(k:κ):yE (xB kvs k) (valueAt vs k):=by
 unfold KV at r;induction r with
 |nil=>exact Na
 |@cons p q ps s h t i =>
  obtain⟨h1,h2⟩:=h;by_cases e:p.1=k;have a:q.1=k:=h1.symm.trans e;have b:valueAt (q::s) k=a7 q.2:=by simp[valueAt,Nj,a]
  rw[qk e,b];exact h2;have a:¬q.1=k:=λz=>e<|h1.trans z;have b:valueAt (q::s) k=valueAt s k:=by simp[valueAt,Nj,a]
  rw[ql e,b];exact i
def KV.any(r:KV kvs vs)(k:κ):(kvs.any λkv=>decide<|kv.1=k)=vs.any λkv=>decide (kv.1=k):=by
 unfold KV at r;induction r with
 |nil=>rfl
 |cons h t i=>rw[OG,OG,i,h.1]
def KV.repl(r:KV kvs vs)(k:κ)(a:aR y u):KV (kvs.map λkv=>if kv.1=k then(kv.1,y)else kv) (vs.map λkv=>if kv.1=k then(kv.1,u)else kv):=by
 unfold KV at r ⊢;induction r with
 |nil=>exact .nil
 |@cons p q ps s h t i=>rw[B9,B9];refine .cons ?_ i;obtain⟨h1,h2⟩:=h;by_cases e:p.1=k;rw[o8 e,o8<|h1.symm.trans e];exact⟨h1,a⟩;rw[p0 e,p0<|λz=>e<|h1.trans z];exact⟨h1,h2⟩
def KV.put(r:KV kvs vs)(k:κ)(i:aR y u):KV (yC kvs k y) (stored vs k u):=by unfold yC stored;rw[r.any k];by_cases e:(vs.any λv=>decide<|v.1=k)=a9;rw[o8 e,o8 e];exact r.repl k i;rw[p0 e,p0 e];exact Paired.snoc r ⟨rfl,i⟩
def KV.length(r:KV kvs vs):kvs.length=vs.length:=Pb r
end
def Gg(r:aR (kV k) u):(cx P w).is k u=a9:=by
 cases k with
 |inl i=>obtain⟨t,e⟩:=(show ∃t,u=Value.int i t from r);subst e;exact vj P w i t
 |inr x=>obtain⟨t,e⟩:=(show ∃t,u=Value.str x t from r);subst e;exact vh P w x t
def tW:∀{ks:List E1}{us:List c6},az (ks.map kV) us->ItemsAre (cx P w) ks us
 | [],_,r=>by rw[Me]at r;cases r;exact .nil
 |k::ks,_,r=>by
  rw[B9]at r;cases r with
  |cons h t=>exact .cons (Gg h)<|tW t
abbrev KT(H:Hp):List (List E1×V)->List (List E1×d6×c6)->Prop:=Paired λp q=>p.1=q.1/\H q.2.1=a7 (.tup<|p.1.map kV)/\aR p.2 q.2.2
def KT.val{H:Hp}{kvs:List (List E1×V)}{xs:List (List E1×d6×c6)}(r:KT H kvs xs)(k:List E1):yE (xB kvs k) ((atKey xs k).map (·.2)):=by
 induction r with
 |nil=>exact Na
 |@cons p q ps s h t i =>
  obtain⟨h1,_,h2⟩:=h;by_cases e:p.1=k;have a:q.1=k:=h1.symm.trans e;have b:atKey (q::s) k=a7 q.2:=by simp[atKey,Nj,a]
  rw[qk e,b];exact h2;have a:¬q.1=k:=λz=>e<|h1.trans z;have b:atKey (q::s) k=atKey s k:=by simp[atKey,Nj,a]
  rw[ql e,b];exact i
def KT.repl(r:KT H kvs xs)(k:List E1)(b:aR y u):KT H (kvs.map λkv=>if kv.1=k then(kv.1,y)else kv) (xs.map<|putAt k u):=by
 induction r with
 |nil=>exact .nil
 |@cons p q ps s h t i=>rw[B9,B9];refine .cons ?_ i;obtain⟨h1,h2,a⟩:=h;unfold putAt;by_cases e:p.1=k;rw[o8 e,o8<|h1.symm.trans e];exact⟨h1,h2,b⟩;rw[p0 e,p0<|λz=>e<|h1.trans z];exact⟨h1,h2,a⟩
def KT.put(r:KT H kvs xs)(k:List E1)(d:H b=a7 (.tup<|k.map kV))(i:aR y u):KT H (yC kvs k y) (storedH xs k b u):=by
 have e:(kvs.any λv=>decide<|v.1=k)=(atKey xs k).isSome:=by rw[vV,(r.val k).isSome_eq,Option.isSome_map]
 unfold yC storedH;rw[e];by_cases q:(atKey xs k).isSome=a9;rw[o8 q,o8 q];exact r.repl k i;rw[p0 q,p0 q];exact Paired.snoc r ⟨rfl,d,i⟩
def KT.keeps(r:KT H kvs xs)(D:∀b ys,H b=a7 (.tup ys)->H' b=a7 (.tup ys)):KT H' kvs xs:=Paired.mapP r λ_ _ z=>⟨z.1,D _ _ z.2.1,z.2.2⟩
def HK(ok:C6 P w H h)(e:Rd H a u):cB P w H h a u:=e.ok ok
def GI(ok:C6 P w H h)(e:Rd H a (.dK kvs)):kvs.length<=sizeLine/\(a==d9)=c5/\∃vs,KV kvs vs/\h.DictOf (cx P w) a vs:=show cB P w H h a (.dK kvs)from HK ok e
def dk_of(ok:C6 P w H h)(e:H a=a7 (.dK kvs)):kvs.length<=sizeLine/\(a==d9)=c5/\∃vs,KV kvs vs/\h.DictOf (cx P w) a vs:=GI ok<|.inl e
def Av(ok:C6 P w H h)(e:H a=a7 (.tup<|ks.map kV)):(tupleKind<|cx P w).is h ks a:=by
 obtain⟨_,its,r,o,h1,h2,⟨n,b⟩,_⟩:=(show cB P w H h a (.tup<|ks.map kV)from ok a _ e)
 exact⟨o,its.toArray,n,h1,h2,b,by simpa using tW r⟩
def GB(ok:C6 P w H h)(e:Rd H a (.dT kvs)):kvs.length<=sizeLine/\(a==d9)=c5 /\∃xs,KT H kvs xs/\h.DictOfH (tupleKind<|cx P w) a xs:=by
 obtain⟨z,y,xs,r,o,es,i,h1,h2,f,g,k⟩:=(show cB P w H h a (.dT kvs)from HK ok e)
 refine⟨z,y,xs,r,o,es,i,h1,h2,f,g,λx b=>?_,k⟩;have c:∀{l:List (List E1×V)}{m:List (List E1×d6×c6)},KT H l m->∀x∈m,(tupleKind<|cx P w).is h x.1 x.2.1:=by
  intro l m q;induction q with
  |nil=>intro x b;exact nomatch b
  |@cons p q ps s d t j=>intro x b;rcases z7.mp b with e|b;subst e;exact Av ok (by rw[<-d.1];exact d.2.1);exact j x b
 exact c r x b
def dt_of(ok:C6 P w H h)(e:H a=a7 (.dT kvs)):kvs.length<=sizeLine/\(a==d9)=c5 /\∃xs,KT H kvs xs/\h.DictOfH (tupleKind<|cx P w) a xs:=GB ok<|.inl e
def DGet(H:Hp)(a:d6)(y:V)(r:Option V):Prop:=(∃s k,Rd H a (.dK s)/\y=kV k/\r=xB s k)\/∃s k b,Rd H a (.dT s)/\y=.ref b/\H b=a7 (.tup<|k.map kV)/\r=xB s k
def DPut(H:Hp)(a:d6)(y v:V)(H':Hp):Prop:=(∃s k,H a=a7 (.dK s)/\y=kV k/\s.length<sizeLine/\H'=v8 H a (.dK<|yC s k v)) \/∃s k b,H a=a7 (.dT s)/\y=.ref b/\H b=a7 (.tup<|k.map kV)/\s.length<sizeLine/\H'=v8 H a (.dT<|yC s k v)
def t5.big(I:t5 X pins σ H s):d9<s.heap.objs.size:=by have h:f6<s.heap.objs.size:=(I.mod.glob.keeps I.bk).lt;exact Nat.lt_trans b0 h
def Be(x:A.units+1<k7)(I:t5 X pins σ H s)(g:DGet H a y (a7 v))(n:aR y u)(h:∀w' s',t5 X pins σ H s'->aR v w'->Q w' s'):i0 (i4 X.prog X.w) A (m5 (.ref a) u) Q E s:=by
 rcases g with⟨m,k,e,f,l⟩|⟨m,k,b,e,f,L,l⟩
 subst f;obtain⟨z,q,vs,r,d⟩:=GI I.hok e;obtain⟨w',j,c⟩:=yE.some_of (v:=v) (o:=valueAt vs k) (by rw[l];exact r.val k);exact wpAny_getItem_of (Gg n) d.mapOf j<|h w' _ (I.tok _) c;subst f;cases (show u=F8 b from n);obtain⟨z,q,xs,r,d⟩:=GB I.hok e;obtain⟨w',j,c⟩:=yE.some_of (v:=v) (o:=(atKey xs k).map (·.2)) (by rw[l];exact r.val k);obtain⟨p,t,i⟩:=PH.mp j;refine wpAny_getItem_heap (tupleKind_room_in1 x) (Av I.hok L) d t ?_;rw[i];exact h w' _ (I.tok _) c
def Ba(I:t5 X pins σ H s)(m:Oy (H a))(hs:NB a s.heap h')(i:∃q,h'.get? a=a7 q)(n:cB X.prog X.w (v8 H a ob) h' a ob):t5 X pins σ (v8 H a ob) { s with heap:=h',toks:=t' }:=I.write (x:=a) (e:=a) m (.inl rfl) (λb q d z=>(hs.2 b d).trans z) i n
def JS(z:kvs.length<=sizeLine)(d:(a==d9)=c5)(r:KV kvs vs)(dd:h'.DictOf (cx P w) a vs):cB P w H' h' a (.dK kvs):=⟨z,d,vs,r,dd⟩
def Bb(N:A.units+1<k7)(I:t5 X pins σ H s)(g:DPut H a y v H')(D:aR y u)(C:aR v r)(h:∀s',t5 X pins σ H' s'->Q () s'):i0 (i4 X.prog X.w) A (setItem (.ref a) u r) Q E s:=by
 rcases g with⟨d,k,e,o,l,n⟩|⟨d,k,b,e,o,L,l,n⟩
 subst o n;obtain⟨z,p,vs,f,m⟩:=dk_of I.hok e;have x:vs.length<=sizeLine:=by rw[<-f.length];exact z
 have t:(yC d k v).length<=sizeLine:=by have:=nJ d k v;lia
 refine wpAny_setItem_pairs (hsz:=x) (Gg D) m λh' i hs=>h _ ?_;have M:∃q,h'.get? a=a7 q:=let ⟨q,_,_,j,_⟩:=i;⟨q,j⟩
 exact Ba I (by rw[e];exact Na) hs M<|JS t p (f.put k C) i;subst o n;cases (show u=F8 b from D);obtain⟨z,p,xs,f,m⟩:=dt_of I.hok e;have x:xs.length<=sizeLine:=by rw[<-Pb f];exact z
 have t:(yC d k v).length<=sizeLine:=by have:=nJ d k v;lia
 refine wpAny_setItem_heap (hsz:=x) (tupleKind_room_in1 N) (Av I.hok L) m λh' i hs=>h _ ?_;obtain⟨q,es,F,j,h2,G,J,_,K⟩:=i;refine Ba I (by rw[e];exact Na) hs ⟨q,j⟩ ⟨t,p,_,(f.put k L C).keeps λc ys B=>?_,q,es,F,j,h2,G,J,K⟩;rw[am<|ne_of B e<|λz=>nomatch z];exact B
def NoSl(i:i3):Prop:=∀b a,subscripted i c5 b a=operate [b,a] (m5 b a)
theorem EJ{prog:d5}{w:c9}{A:f8}{E:c6->f9->Prop}{s:f9}{env:g7}{a e:i3}{pos:i5}{T id:String}{Q:c6->f9->Prop}(g:typeLookup (.type T) "__getitem__" = pure (a7<|.builtin id)) (hs:NoSl e)(h:i0 (i4 prog w) A (eval a env) (λo s₁=>i0 (i4 prog w) A (eval e env) (λi s₂=>s₂.TypeIs o T/\i0 (i4 prog w) A (m5 o i) Q E s₂) E s₁) E s):i0 (i4 prog w) A (eval (.Subscript a e pos) env) Q E s:=by
 refine Subscript_<|D3 h (λo s₁ h₁=>D3 h₁ (λi s₂ b=>?_) λ_ _ x=>x) λ_ _ x=>x;obtain⟨m,b⟩:=b;unfold subscriptTail;refine t4 ?_;rw[getitemInPython_of_ne m.not_modules];refine t4<|N6 m g ?_;have n:i0 (i4 prog w) A (subscripted e c5 o i) (λr c=>i0 (i4 prog w) A (letTemporaryGo a o r >>= λ_=>pure r) Q E c) E s₂:=by rw[hs o i];exact wpAny_operating<|D3 b (λr c d=>t4<|wpAny_letTemporaryGo<|u5 d) λ_ _ x=>x
 first
  |exact u5 (t4 n)
  |exact t4 (u5 (t4 n))
  |exact t4 n
def vM(I:t5 X pins σ H s)(g:DGet H a y o):s.TypeIs (.ref a) "dict":=by
 rcases g with⟨c,k,e,_,_⟩|⟨c,k,b,e,_,_,_⟩
 obtain⟨_,_,vs,_,d⟩:=GI I.hok e;exact d.typeIs;obtain⟨_,_,xs,_,d⟩:=GB I.hok e;exact d.typeIs
def tDGet(d t:TE):TE:=λσ H Q=>d σ H λx H1=>t σ H1 λy b=>∃a v,x=.ref a/\DGet b a y (a7 v)/\Q v b
def sDPut(t f e:TE):TS:=λD σ H=>e σ H λv H1=>t σ H1 λx b=>f σ b λy d=>∃a c,x=.ref a/\DPut d a y v c/\D.nx σ c
def Fi(k:X.A.units+1<k7)(B:PE X o td)(hi:PE X i ty)(hs:NoSl i):PE X (.Subscript o i pos) (tDGet td ty):=by intro p s σ H Q I h;refine EJ PySem.F.slot_dict_getitem.lookup hs<|v6 (B p s σ H _ I h) ?_;rintro u n ⟨x,H1,e,r,q⟩;refine v6 (hi p n σ H1 _ e q) ?_;rintro t w ⟨y,c,d,m,a,v,j,g,l⟩;subst j;obtain rfl:u=F8 a:=r;exact⟨vM d g,Be k d g m λY z f b=>⟨v,c,f,b,l⟩⟩
def Fd(k:X.A.units+1<k7)(B:PE X o td)(hi:PE X i ty)(l:PE X value tv)(hs:j0 value (a7<|.Subscript o i pos') pos.line X.env=pure c5):PS X (.Assign [.Subscript o i pos'] value pos) (sDPut td ty tv):=by intro p s σ H D I h;refine wpAny_Assign_Subscript (v6 (l p s σ H _ I h) λr E ⟨v,H1,d,w,q⟩=>v6 (B p E σ H1 _ d q) λu F ⟨x,b,e,z,m⟩=>v6 (hi p F σ b _ e m) ?_) hs;rintro J K ⟨y,G,f,C,a,c,j,g,n⟩;subst j;obtain rfl:u=F8 a:=z;exact Bb k f g C w λP t=>⟨σ,c,t,n⟩
def Du(h:d8)(d:d9<h.objs.size):cB P w H (h.push { cls:=.type "dict",data:=.dict #[] }) h.objs.size (.dK []):=⟨B0 _,beq_eq_false_iff_ne.mpr<|A8<|A4 d,[],.nil,Heap.DictOf.new h⟩
def Hs:TE:=λ_ H Q=>∀p,H p=a8->Q (.ref p) (v8 H p<|.dK [])
def Cs:PE X (.Dict [] [] pos) Hs:=λp s σ H Q I h =>
 wpAny_Dict_empty ⟨.ref s.heap.objs.size,_,I.laid (a:=s.heap.objs.size) (o:=.dK []) (t':=s.toks) (λ_ _ q=>w5 _ q) (v7 _)<|Du s.heap I.big,rfl,h _<|I.hok.fresh<|v7 _⟩
end L2
namespace DL
open PySem
def jx(env:g7):∀(names:List (c8×l6)) (acc:List (c8×d6)),(∀p∈names,p.2=Lg->∃c,env.cells.lookup p.1=a7 c) ->∃cl,(forIn (m:=Sem) names acc λ(p:c8×l6) (r:List (c8×d6)) =>
    if (p.2==Lg)=a9 then(do let a <-cellOf env p.1;pure (Pk<|(p.1,a)::r))else pure (Pk r))=pure cl /\
   (∀z c,cl.lookup z=a7 c->acc.lookup z=a7 c\/env.cells.lookup z=a7 c) /\
   (∀z c,acc.lookup z=a7 c->∃c',cl.lookup z=a7 c') /\
   (∀p∈names,p.2=Lg->∃c,cl.lookup p.1=a7 c)
 | [],acc,_=>⟨acc,rfl,λ_ _ h=>.inl h,λz c h=>⟨c,h⟩,λ_ h=>nomatch h⟩
 |(n,k)::aO,acc,hyp=>by
  by_cases hk:k=Lg;subst hk;obtain⟨c0,hc0⟩:=hyp (n,.free) A9 rfl;obtain⟨cl,e,h1,h2,h3⟩:=jx env aO ((n,c0)::acc) λp hp=>hyp p<|C4 _ hp;have ce:cellOf env n=pure c0:=by unfold cellOf;rw[hc0]
  have own:∃c',cl.lookup n=a7 c':=h2 n c0 (by simp[Mx]);refine⟨cl,?_,λz c hz=>?_,λz c hz=>?_,λp hp hf=>?_⟩;rw[Pj];simp only[r9,p9,ce,pure_bind];exact e;rcases h1 z c hz with q|q;rw[Mx]at q;by_cases hz':(z==n)=a9;rw[hz']at q;have:z=n:=by simpa using hz'
  subst this;cases q;exact .inr hc0;have hz'':(z==n)=c5:=by simpa using hz'
  rw[hz'']at q;exact .inl q;exact .inr q;by_cases hz':z=n;subst hz';exact own;refine h2 z c ?_;rw[Mx];have hz'':(z==n)=c5:=by simpa using hz'
  rw[hz''];exact hz;rcases z7.mp hp with rfl|hp;exact own;exact h3 p hp hf;have hb:(k==Lg)=c5:=by simpa using hk
  obtain⟨cl,e,h1,h2,h3⟩:=jx env aO acc λp hp=>hyp p<|C4 _ hp;refine⟨cl,?_,h1,h2,λp hp hf=>?_⟩;rw[Pj];simp only[hb,C8,p8,pure_bind];exact e;rcases z7.mp hp with rfl|hp;exact p5 hf hk;exact h3 p hp hf
def iD(h:∀p∈scope.names,p.2=Lg->∃c,env.cells.lookup p.1=a7 c):∃cl,closureFor scope env=pure cl/\(∀z c,cl.lookup z=a7 c->env.cells.lookup z=a7 c)/\(∀p∈scope.names,p.2=Lg->∃c,cl.lookup p.1=a7 c):=by obtain⟨cl,e,h1,h2,a⟩:=jx env scope.names [] h;refine⟨cl,?_,λz c b=>?_,a⟩;unfold closureFor;simp only[bind_pure];exact e;rcases h1 z c b with q|q;simp at q;exact q
def io{env:g7}:∀{names:List (c8×l6)}{x:c8}{k:l6},(names.map λ(p:c8×l6)=>if (p.2==Lg&&env.scope.kind==.function&&env.kindOf p.1==a7 .cell)=a9 then(p.1,Ng)else(p.1,p.2)).lookup x=a7 k ->(names.lookup x=a7 k\/(k=Ng/\names.lookup x=a7 .free))
 | [],_,_,h=>by simp at h
 |(n,j)::aO,x,k,h=>by
  have ih:=@io env aO x k;rw[B9,Mx]at h;by_cases hx:(x==n)=a9;have hl:List.lookup x ((n,j)::aO)=a7 j:=by rw[Mx,hx]
  rw[hl];by_cases hc:(j==Lg&&env.scope.kind==.function&&env.kindOf n==a7 .cell)=a9;simp only[hc,p9,hx]at h;cases h;have:j=Lg:=by simp only[A2]at hc;simpa using hc.1.1
  exact .inr ⟨rfl,by rw[this]⟩;simp only[hc,C8,p8,hx]at h;exact .inl h;have hx':(x==n)=c5:=by simpa using hx
  have hl:List.lookup x ((n,j)::aO)=List.lookup x aO:=by rw[Mx,hx']
  rw[hl];refine ih ?_;by_cases hc:(j==Lg&&env.scope.kind==.function&&env.kindOf n==a7 .cell)=a9;simp only[hc,p9,hx']at h;exact h;simp only[hc,C8,p8,hx']at h;exact h
def qo(s:List i3)(env:g7):compTests s env =
  (forIn s a9 λc r=>if r=a9 then do let ok <-isTrue c env (eval c env);pure (Pk ok)else pure (Pk r)):=by unfold compTests;simp only[bind_pure]
def qf(J:Nat->f9->Prop)(F:c6->f9->Prop)(b:∀e s',F e s'->notedBy (i4 prog w) A env (λe s'=>R (.error e) s') e s')(M:∀n s,J n s->i0 (i4 prog w) A (j4 it) (λr s1=>match r with
   |none=>R (.ok .next) s1
   |some v=>i0 (i4 prog w) A (j5 target it v) (λ_ s2=>i0 (i4 prog w) A (j2 target env v) (λ_ s3 =>
     i0 (i4 prog w) A (compTests ifs env) (λok s4 =>
      if ok=a9 then i0 (i4 prog w) A (eval elt env) (λy s5=>i0 (i4 prog w) A (call (.builtin "list.append") [acc,y]) (λ_ s6=>∃m,m<n/\J m s6) F s5) F s4
      else ∃m,m<n/\J m s4) F s3) F s2) F s1) F s)
  (n:Nat) (h:J n s):k9 (i4 prog w) A (.compLoop (.ListComp elt [⟨target,iter,ifs,0⟩] scope pos) 0 it acc env) R s:=by
 refine codeAny_loop rfl J (λn s f=>?_) n h;show i0 _ A ((compTurn (.ListComp elt [⟨target,iter,ifs,0⟩] scope pos) 0 it acc env).onRaise<|λx=>do m7 x env;theTreesLotGoes x) _ _ s;refine wpAny_noted ?_;rw[compTurn_list];refine t4<|wpAny_standAt<|t4<|D3 (M n s f) (λr s1 h1=>?_) b;cases r with
 |none=>exact u5 h1
 |some v =>
  refine t4<|D3 h1 (λ_ s2 h2=>?_) b;refine t4<|D3 h2 (λ_ s3 a=>?_) b;rw[qo]at a;refine t4<|D3 a (λok s4 d=>?_) b;cases ok with
  |false=>exact u5 ⟨rfl,d⟩
  |true=>exact t4<|t4<|D3 d (λy s5 k=>t4<|D3 k (λ_ s6 c=>u5<|u5 ⟨rfl,c⟩) b) b
end DL
namespace L2
open PySem PySem.Spec PyProof.Rows DL
def kZ{env:g7}:∀{names:List (c8×l6)}{x:c8},names.lookup x=a7 .free ->((names.map λ(p:c8×l6)=>if (p.2==Lg&&env.scope.kind==.function&&env.kindOf p.1==a7 .cell)=a9 then(p.1,Ng)else(p.1,p.2)).lookup x=a7 .cell \/ (names.map λ(p:c8×l6)=>if (p.2==Lg&&env.scope.kind==.function&&env.kindOf p.1==a7 .cell)=a9 then(p.1,Ng)else(p.1,p.2)).lookup x=a7 .free)
 | [],_,h=>by simp at h
 |(n,j)::aO,x,h=>by
  have ih:=@kZ env aO x;rw[B9,Mx];rw[Mx]at h;by_cases hc:(j==Lg&&env.scope.kind==.function&&env.kindOf n==a7 .cell)=a9;by_cases hx:(x==n)=a9;simp[hc,hx];have hx':(x==n)=c5:=by simpa using hx
  rw[hx']at h;simp only[hc,p9,hx'];exact ih h;by_cases hx:(x==n)=a9;rw[hx]at h;cases h;right;simp only[hc,C8,p8,hx];have hx':(x==n)=c5:=by simpa using hx
  rw[hx']at h;simp only[hc,C8,p8,hx'];exact ih h
noncomputable def z6(X:Cx)(N':List c8)(scope:g8)(l:List (c8×d6))(s₀:f9)(H₀:Hp)(ex:List d6):Cx:={ X with N:=N',s₀:=s₀,H₀:=H₀,env:=m9 scope l s₀.heap.objs.size X.env,outer:=X.stack,ex:=ex,fn:=λx=>scope.names.lookup x==a7 .cell,pn:=[],xe:=λ_ _=>False }
structure BlkSc(X:Cx)(N':List c8)(nt:Nat)(js:List Nat)(scope:g8):Prop where
 kind:scope.kind=.function
 nocell:∀y∈scope.names,y.2≠.cell
 loc:∀y∈scope.names,y.2=.local->scope.names.lookup y.1=a7 .local
 free:∀y∈scope.names,y.2=.free->(X.env.kindOf y.1=a7 .cell\/X.env.kindOf y.1=a7 .free)
 len:N'.length=nt+js.length
 fr:∀(k j:Nat),js[k]?=a7 j->∃x,N'[nt+k]?=a7 x/\X.N[j]?=a7 x/\scope.names.lookup x=a7 .free/\(X.env.kindOf x=a7 .cell\/X.env.kindOf x=a7 .free)
noncomputable def bst(t:Nat)(s:List Nat)(σ:St):St:=J0 t a8++s.map λj=>(σ[j]?).join
def Bq(t:Nat)(s:List Nat)(σ:St):(bst t s σ).length=t+s.length:=by simp[bst]
def GT(h:(bst nt js σ)[i]?=a7 (a7 v)):∃k j,i=nt+k/\js[k]?=a7 j/\σ[j]?=a7 (a7 v):=by
 unfold bst at h;by_cases hi:i<nt;rw[G4 (by simpa using hi),PK]at h;simp[hi]at h;rw[LK (by simpa using Mp.mp hi),PC,F5]at h;cases e:js[i-nt]? with
 |none=>rw[e]at h;cases h
 |some j =>
  rw[e]at h;refine⟨i-nt,j,b7,e,?_⟩;have h':(σ[j]?).join=a7 v:=by simpa using h
  cases q:σ[j]? with
  |none=>rw[q]at h';cases h'
  |some o=>rw[q]at h';exact q9 a7 h'
def Ly(X:Cx)(i:List i3)(t:TT):Prop:=∀(p:List (d6×d7)) (s:f9) (σ:St) (H:Hp) (Q:Bool->Hp->Prop),t5 X p σ H s->t σ H Q->i0 (i4 X.prog X.w) X.A (compTests i X.env) (TP X p σ Q) X.xe s
def ttNil:TT:=λ_ H Q=>Q a9 H
def EY:Ly X [] ttNil:=λp s σ H Q I h=>by rw[qo];exact wpAny_tests_nil ⟨H,I,h⟩
def EX(h:PT X c t):Ly X [c] t:=λp s σ H Q I q=>by rw[qo];exact wpAny_tests_one<|h p s σ H Q I q
def On(t:Nat)(s:List Nat)(wi:TI)(g:TG)(tt:TT)(te:TE):TE:=λσ H Q=>wi σ H λJ H1=>∃W:Nat->Nat->List V->St->Hp->Prop,(∃m,W 0 m [] (bst t s σ) H1) /\∀i m vs τ H,W i m vs τ H->(J.stop i H/\∀p,H p=a8->Q (.ref p) (v8 H p<|.lst vs)) \/(J.go i H/\∀x H',J.yld i H x H'->g x τ H' λa e=>tt a e λb d=>if b=a9 then te a d λy f=>vs.length<sizeLine/\∃c,c < m/\W (i+1) c (vs++[y]) a f else ∃c,c < m/\W (i+1) c vs a d)
noncomputable abbrev bz(its:List c6)(k:Nat):d7:={ cls:=.type "list",data:=.seq its.toArray k }
structure TurnX(X:Cx)(tg:i3)(J:It)(fp:List d6)(it:d6)(tn:Nat->d8->Prop):Prop where
 item:∀(i:Nat) (pins:List (d6×d7)) (s:f9) (σ:St) (H:Hp) (E:c6->f9->Prop),t5 X pins σ H s->(∀b∈fp,oy X pins H b)->tn i s.heap->J.go i H ->i0 (i4 X.prog X.w) X.A (j4<|.ref it) (λr s1=>∃u,r=a7 u /\ i0 (i4 X.prog X.w) X.A (j5 tg (.ref it) u) (λ_ s2=>∃x H',t5 X pins σ H' s2/\aR x u/\J.yld i H x H'/\tn (i+1) s2.heap/\∀b∈fp,H' b=a8) E s1) E s
 done:∀(i:Nat) (pins:List (d6×d7)) (s:f9) (σ:St) (H:Hp) (E:c6->f9->Prop),t5 X pins σ H s->(∀b∈fp,oy X pins H b)->tn i s.heap->J.stop i H ->i0 (i4 X.prog X.w) X.A (j4<|.ref it) (λr s1=>r=a8/\t5 X pins σ H s1) E s
def Turn.at(T:Turn X.prog X.w X.K tg J fp it tn)(f:X.calm=a9):TurnX X tg J fp it tn:=⟨T.item X rfl rfl rfl f,T.done X rfl rfl rfl f⟩
def t5.blkOk(B:BlkSc X N' nt js scope)(I:t5 X pins σ H s)(a:∀z c,cl.lookup z=a7 c->X.env.cells.lookup z=a7 c) (f:∀p∈scope.names,p.2=Lg->∃c,cl.lookup p.1=a7 c) (i:∀b∈fp,oy X pins H b) (j:∀b∈fp,b<s.heap.objs.size):(z6 X N' scope cl { s with heap:=s.heap.push ob } H<|s.heap.objs.size::fp).Ok:=by
 have J:t5 X pins σ H { s with heap:=s.heap.push ob }:=I.kept (t':=s.toks) λb o e=>w5 _ e;have ltc:∀z c,cl.lookup z=a7 c->c<s.heap.objs.size:=λz c e=>by obtain⟨v,q⟩:=I.cell z c<|a z c e;exact q.lt
 have C:(s.heap.push ob).objs.size=s.heap.objs.size+1:=KG ..;refine⟨I.ok.mod,B.kind,I.ok.glob,I.ok.blt,v7 _,λy z c h1 h2=>I.ok.inj y z c (a y c h1)<|a z c h2,λy O=>?_,λy c h=>?_,I.ok.hd,I.ok.frames,.inl rfl,λb d=>?_,λb o e=>?_,?_,λb o e d=>?_,λb d=>?_,J.stack,I.stkFree⟩;have l:scope.names.lookup y=a7 .free:=by
  rcases O with O|O;rcases io (env:=X.env) (names:=scope.names) (x:=y) (k:=.cell) O with q|⟨_,q⟩
  exact p5 rfl<|B.nocell _<|MT q;exact q;rcases io (env:=X.env) (names:=scope.names) (x:=y) (k:=.free) O with q|⟨q,_⟩
  exact q;cases q
 exact f (y,.free) (MT l) rfl;exact p5 rfl<|B.nocell _<|MT<|beq_iff_eq.mp<|show (scope.names.lookup y==a7 Ng)=a9 from h;show b≠(s.heap.push ob).objs.size/\∀x c,cl.lookup x=a7 c->c≠b;rw[C];rcases z7.mp d with rfl|d;exact⟨A4<|K5 _,λx c e=>A4<|ltc x c e⟩;exact⟨A4<|Mj<|j b d,λx c e=>(i b d).2.2.2.2.1 x c<|a x c e⟩;exact⟨w5 _ (I.bs b o e).1,(I.bs b o e).2⟩;show X.base.objs.size<=(s.heap.push ob).objs.size;rw[C];exact Nat.le_succ_of_le<|KY I.ok.bsz I.sz;rcases z7.mp d with rfl|d;exact p5 (z8 (I.bs _ o e).1)<|E8 _;rcases(i b d).2.2.2.1 with z|z;exact I.ok.noex b o e z;exact p5 (E5 (z8 (I.ok.bs b o e).1) z)<|E8 _;intro m;have g:=I.stkSub b m;rcases z7.mp d with rfl|d;rcases z7.mp g with q|q;exact p5 I.lt (by rw[<-q];exact E8 _);exact I.nofs (v7 _) q;rcases z7.mp g with q|q;exact(i b d).2.1 q;exact(i b d).2.2.1 q
def t5.blkStart(B:BlkSc X N' nt js scope)(I:t5 X pins σ H s)(a:∀z c,cl.lookup z=a7 c->X.env.cells.lookup z=a7 c) (f:∀p∈scope.names,p.2=Lg->∃c,cl.lookup p.1=a7 c) (J:∀b∈fp,oy X pins H b) (m:∀b∈fp,b<s.heap.objs.size)(g:∀b o,(s.heap.push<|bz [] 0).get? b=a7 o->h1.get? b=a7 o) (K:h1.Ns (s.heap.push<|bz [] 0).objs.size mm):t5 (z6 X N' scope cl { s with heap:=s.heap.push (bz [] 0) } H<|s.heap.objs.size::fp) [(s.heap.objs.size,bz [] 0)] (bst nt js σ) H { s with heap:=h1,toks:=tk }:=by
 have d:∀b o,s.heap.get? b=a7 o->h1.get? b=a7 o:=λb o e=>g b o<|w5 _ e;have C:(s.heap.push<|bz [] 0).objs.size=s.heap.objs.size+1:=KG ..;refine⟨I.blkOk B a f J m,rfl,I.bare,Un.kept g,⟨mm,K,λi x v D E T=>?_⟩,λx c e=>?_,?_,λx c e=>I.freeC x c<|a x c e,λp N=>?_,I.hok.kept d,?_⟩;obtain⟨k,j,rfl,L,t⟩:=GT E;obtain⟨S,Q,R,A,y⟩:=B.fr k j L;have F:x=S:=C1<|D.symm.trans Q;subst F;obtain⟨W,M,n⟩:=I.loc;have w:Nt X.env.scope x:=y.elim (λz=>.inr<|.inl z) λz=>.inr<|.inr z;obtain⟨u,r,h⟩:=n j x v R t w;refine⟨u,r,?_⟩;rcases h with⟨q,_⟩|⟨q,c,G,l⟩
 rcases y with z|z<;>(rw[q]at z;cases z)
 obtain⟨U,O⟩:=f (x,.free) (MT A) rfl;have:U=c:=C1<|(a x U O).symm.trans G;subst this;exact .inr ⟨kZ (env:=X.env) A,U,O,l.keeps d⟩;obtain⟨v,q⟩:=I.cell x c<|a x c e;exact⟨v,q.keeps d⟩;exact I.hok.fresh (by show s.heap.objs.size<=(s.heap.push<|bz [] 0).objs.size;rw[C];exact NY _);have e:p=(s.heap.objs.size,bz [] 0):=by simpa [z6]using N
 subst e;refine⟨g _ _<|B6 _ rfl,I.hok.fresh<|v7 _,?_,?_,λv z=>by cases z⟩;show s.heap.objs.size≠(s.heap.push<|bz [] 0).objs.size;rw[C];exact A4<|K5 _;intro P;rcases z7.mp (I.stkSub _ P)with q|q;exact p5 I.lt (by rw[<-q];exact E8 _);exact I.nofs (v7 _) q;rw[Bq];exact B.len.symm
def t5.blkEnd(I:t5 X pins σ H s)(E:∀b∈fp,oy X pins H b)(t:t5 (z6 X N' scope cl { s with heap:=s.heap.push (bz [] 0) } H<|s.heap.objs.size::fp) [(s.heap.objs.size,bz its k)] τ H' s')(L:az vs its) (G:vs.length<=sizeLine) (T:NB (s.heap.push<|bz [] 0).objs.size s'.heap h'):t5 X pins σ (v8 H' s.heap.objs.size<|.lst vs) { s' with heap:=h' }:=by
 have j:(s.heap.push<|bz [] 0).objs.size=s.heap.objs.size+1:=KG ..;have C:s.heap.objs.size≠(s.heap.push<|bz [] 0).objs.size:=by rw[j];exact A4<|K5 _
 obtain⟨K,D,_⟩:=t.pin (s.heap.objs.size,bz its k) (by simp[z6]);have g:s'.heap.get? s.heap.objs.size=a7 (bz its k):=K;have f:H' s.heap.objs.size=a8:=D;have i:H' (s.heap.push<|bz [] 0).objs.size=a8:=t.free;have u:Un (frs X.stack) (s.heap.objs.size::fp) H H' (s.heap.push<|bz [] 0) s'.heap:=t.base;have F:∀b o,s.heap.get? b=a7 o->b≠s.heap.objs.size/\b≠(s.heap.push<|bz [] 0).objs.size:=λb o e=>by have:=z8 e;exact⟨A4 this,by rw[j];exact A4<|Mj this⟩
 have p:∀b o,s.heap.get? b=a7 o->(s.heap.push<|bz [] 0).get? b=a7 o:=λb o e=>w5 _ e;have a:∀b o,s.heap.get? b=a7 o->b∉fp->b∉s.heap.objs.size::fp:=λb o e x J=>by rcases z7.mp J with q|q;exact(F b o e).1 q;exact x q
 refine I.call' (s':={ s' with heap:=h' }) (ch:=fp) t.os ⟨λb o e n d x=>?_,λb o e n d x=>?_,λb o e n x=>?_,λb o e x=>?_,λb xs e=>?_,λb o w e=>?_,λb ps e=>?_⟩ (λb w q=>?_) t.bare λb d=>?_;exact(T.2 b (F b o e).2).trans<|u.keep b o (p b o e) n d<|a b o e x;obtain⟨M,z⟩:=u.slot b o (p b o e) n d<|a b o e x;exact⟨M,(T.2 b (F b o e).2).trans z⟩;rw[am (F b o e).1];exact u.free b o (p b o e) n<|a b o e x;obtain⟨o',z⟩:=u.there b o (p b o e)<|a b o e x;exact⟨o',(T.2 b (F b o e).2).trans z⟩;have z:=u.tups b xs e;rw[am<|ad z f];exact z;have z:=u.frzs b o w e;rw[am<|ad z f];exact z;obtain⟨m,z⟩:=u.tbls b ps e;exact⟨m,by rw[am<|ad z f];exact z⟩;by_cases d:b=s.heap.objs.size;subst d;rw[aI]at q;cases q;exact⟨G,its,k,L,(T.2 _ C).trans g⟩;rw[am d]at q;refine(t.hok b w q).stay (λc v h r=>(T.2 c ?_).trans r) (λc z=>by rw[am<|ad z f];exact z) λc xs z=>by rw[am<|ad z f];exact z
 rcases h with rfl|h;exact ad q i;exact ad h i;obtain⟨_,l,_,y,A,B⟩:=E b d;exact⟨y,l,A,B⟩
def Af{C tg O:i3}{N:List i3}{scope:g8}{pos:i5}{N':List c8}{l:List (c8×d6)}{J:It}{fp:List d6}{it:d6}{tn:Nat->d8->Prop}{g:TG}{tt:TT}{te:TE}{Q:VK}{W:Nat->Nat->List V->St->Hp->Prop}{R:Result->f9->Prop}{s0:f9}{H0:Hp}{D:d6} (TX:TurnX (z6 X N' scope l s0 H0<|D::fp) tg J fp it tn)(hg:PG (z6 X N' scope l s0 H0<|D::fp) tg g) (ht:Ly (z6 X N' scope l s0 H0<|D::fp) N tt) (he:PE (z6 X N' scope l s0 H0<|D::fp) C te)(T:Turn X.prog X.w X.K tg J fp it tn) (M:D∉fp)(U:∀i m vs τ H,W i m vs τ H->(J.stop i H/\∀p,H p=a8->Q (.ref p) (v8 H p<|.lst vs)) \/ (J.go i H/\∀x H',J.yld i H x H'->g x τ H' λτ2 H2=>tt τ2 H2 λb f=>if b=a9 then te τ2 f λy H4=>vs.length<sizeLine/\∃m',m' < m/\W (i+1) m' (vs++[y]) τ2 H4 else ∃m',m' < m/\W (i+1) m' vs τ2 f))(t:∀b∈fp,b≠s0.heap.objs.size/\b∉frs X.stack/\∀x c,l.lookup x=a7 c->c≠b) (L:D≠s0.heap.objs.size) (as:D∉frs X.stack) (ap:∀x c,l.lookup x=a7 c->c≠D)(ai:∀τ H' s' vs its k,t5 (z6 X N' scope l s0 H0<|D::fp) [(D,bz its k)] τ H' s'->az vs its->vs.length<=sizeLine->Q (.ref D) (v8 H' D<|.lst vs)->R (.ok .next) s')
  (m0:Nat) {s:St}{s3:f9}{f:Hp} (I3:t5 (z6 X N' scope l s0 H0<|D::fp) [(D,bz [] 0)] s f s3) (aS:tn 0 s3.heap) (aj:∀b∈fp,f b=a8) (w0:W 0 m0 [] s f) :
  k9 (i4 X.prog X.w) X.A (.compLoop (.ListComp C [⟨tg,O,N,0⟩] scope pos) 0 (.ref it) (.ref D)<|m9 scope l s0.heap.objs.size X.env) R s3:=by
 have h:∀{ob:d7}{H':Hp},(∀b∈fp,H' b=a8)->∀b∈fp,oy (z6 X N' scope l s0 H0<|D::fp) [(D,ob)] H' b:=λ{ob H'} hn b d=>by
  obtain⟨a1,a2,a3⟩:=t b d;refine⟨hn b d,a1,a2,.inl<|C4 _ d,a3,λp j z=>?_⟩;have e:p=(D,ob):=by simpa [z6]using j
  subst e;exact M<|by rw[show D=b from z];exact d
 refine qf (λn s'=>∃i τ H' vs its k,t5 (z6 X N' scope l s0 H0<|D::fp) [(D,bz its k)] τ H' s'/\tn i s'.heap/\(∀b∈fp,H' b=a8)/\az vs its/\vs.length<=sizeLine/\W i n vs τ H') (λ_ _=>False) (λ_ _ z=>z.elim) ?_ m0 ⟨0,s,f,[],[],0,I3,aS,aj,.nil,B0 _,w0⟩;rintro n s' ⟨i,τ,H',vs,its,k,I',P,I,rv,hl,w'⟩;rcases U i n vs τ H' w' with⟨stop,q⟩|⟨go,S⟩
 refine v6 (TX.done i _ s' τ H' (λ_ _=>False) I' (h I) P stop) ?_;rintro r s4 ⟨hr,I4⟩;subst hr;exact ai τ H' s4 vs its k I4 rv hl<|q D (I'.pin (D,bz its k)<|by simp[z6]).2.1;refine v6 (TX.item i _ s' τ H' (λ_ _=>False) I' (h I) P go) ?_;rintro r s4 ⟨u,hr,h4⟩;subst hr;refine v6 h4 ?_;rintro _ s5 ⟨x,H5,I5,r5,y5,B,an⟩;have ab:=I5.pinned (h an)<|T.obj _ _ B;refine v6 (hg _ s5 τ H5 x u _ ab r5<|S x H5 y5) ?_;rintro _ s6 ⟨a,H6,I6,q6⟩;refine v6 (ht _ s6 a H6 _ I6 q6) ?_;rintro ok s7 ⟨H7,Z,q7⟩;have F:∀{b:d6}{o:d7},b∈fp->s5.heap.get? b=a7 o->(b,o)∈(z6 X N' scope l s0 H0<|D::fp).pn++([(D,bz its k)]++eE fp s5.heap):=λd e=>E3 _<|E3 _<|du d e;cases ok with
 |false =>
  obtain⟨m',hm,w7⟩:=(show ∃m',m' < n/\W (i+1) m' vs a H7 from q7)
  refine⟨m',hm,i+1,a,H7,vs,its,k,Z.unpinned,T.keep _ _ _ B λb d o e=>(Z.pin (b,o)<|F d e).1,λb d=>?_,rv,hl,w7⟩;obtain⟨o,e,_⟩:=T.obj _ _ B b d;exact(Z.pin (b,o)<|F d e).2.1
 |true =>
  refine v6 (he _ s7 a H7 _ Z q7) ?_;rintro yv s8 ⟨y,Y,I8,r8,q8⟩;obtain⟨aD,m',hm,w8⟩:=q8;obtain⟨oD,fD,_⟩:=I8.pin (D,bz its k) (E3 _<|NK _<|by simp);have E:Y D=a8:=fD;refine append_at (its:=its.toArray) (n:=k) oD (λh9 aP o9=>?_) (by rw[A5,<-rv.length];exact hl);have J8:t5 (z6 X N' scope l s0 H0<|D::fp) (eE fp s5.heap) a Y s8:=I8.pins_of λp j=>I8.pin p<|E3 _<|E3 _ j;have J9:t5 (z6 X N' scope l s0 H0<|D::fp) (eE fp s5.heap) a Y { s8 with heap:=h9 }:=J8.turned (t':=s8.toks) (it:=D) (λb o d e=>(aP.2 b d).trans e) E L (.inl A9) ap λp j z=>by
   have ax:p∈eE fp s5.heap:=by simpa [z6]using j
   exact M<|by rw[<-z];exact(nD ax).1
  have G:∀{b:d6}{o:d7},b∈fp->s5.heap.get? b=a7 o->(b,o)∈(z6 X N' scope l s0 H0<|D::fp).pn++eE fp s5.heap:=λd e=>E3 _<|du d e;refine⟨m',hm,i+1,a,Y,vs++[y],its++[yv],k+1,J9.pins_of λp j=>?_,T.keep _ _ _ B λb d o e=>(J9.pin (b,o)<|G d e).1,λb d=>?_,rv.append<|.cons r8 .nil,?_,w8⟩;have e:p=(D,bz (its++[yv])<|k+1):=by simpa using j
  subst e;refine⟨?_,E,L,as,λv z=>by cases z⟩;rw[show bz (its++[yv]) (k+1)=({ cls:=.type "list",data:=.seq (its.toArray.push yv) (k+1) }:d7) by rw[List.push_toArray]];exact o9;obtain⟨o,e,_⟩:=T.obj _ _ B b d;exact(J9.pin (b,o)<|G d e).2.1;rw[E2];exact aD
def QJ(X:Cx)(PP:It->List d6->d6->(Nat->d8->Prop)->Prop)(r:i3)(wi:TI):Prop:=∀(p:List (d6×d7)) (s:f9) (σ:St) (H:Hp) (R:It->Hp->Prop),t5 X p σ H s->wi σ H R ->i0 (i4 X.prog X.w) X.A (eval r X.env) (λv c=>i0 (i4 X.prog X.w) X.A (j6 v) (λi n=>∃it C tn J H',i=.ref it/\t5 X p σ H' n/\PP J C it tn/\tn 0 n.heap/\(∀b∈C,oy X p H' b)/\R J H') X.xe c) X.xe s
theorem DZ(B:BlkSc X N' nt js scope)(V:∀J fp it tn,PP J fp it tn->Turn X.prog X.w X.K tg J fp it tn/\∀pins σ H s cl s0 ex,t5 X pins σ H s->TurnX (z6 X N' scope cl s0 H ex) tg J fp it tn)(hi:QJ X PP iter wi)(hg:∀cl s0 H0 ex,PG (z6 X N' scope cl s0 H0 ex) tg g) (ht:∀cl s0 H0 ex,Ly (z6 X N' scope cl s0 H0 ex) ifs tt) (Y:∀cl s0 H0 ex,PE (z6 X N' scope cl s0 H0 ex) elt te)(hs:∀x,j8 iter X.env x=pure x:=by intro _;rfl):PE X (.ListComp elt [⟨tg,iter,ifs,0⟩] scope pos) (On nt js wi g tt te):=by
 intro pins s σ H Q I h;rw[eval_ListComp];obtain⟨cl,E,a,i⟩:=iD (scope:=scope) (env:=X.env) λp hp Z=>I.ok.has p.1<|B.free p hp Z;refine Qz (use:=a8) rfl hs E B.kind B.loc ?_;refine v6 (hi pins s σ H _ I h) λv s1 h1=>v6 h1 λab n h2=>?_;obtain⟨it,fp,tn,J,P,e,d,T,U,M,W,⟨m0,w0⟩,D⟩:=h2;obtain⟨T,S⟩:=V _ _ _ _ T;subst e;refine KJ<|wpAny_newFunctionEnv B.nocell (by intro y hy;simp at hy) (λh1 m r=>?_) B.kind;have j:∀b∈fp,b<n.heap.objs.size:=λb f=>by obtain⟨o,e,_⟩:=T.obj _ _ U b f;exact z8 e
 have O:(n.heap.push<|bz [] 0).objs.size=n.heap.objs.size+1:=KG ..;have u:∀b o,(n.heap.push<|bz [] 0).get? b=a7 o->h1.get? b=a7 o:=λb o e=>(r.2 b<|A4<|z8 e).trans<|w5 _ e;have R:=d.blkStart (tk:=n.toks+([]:List (c8×c6)).length) B a i M j u m;have C:tn 0 h1:=T.keep _ _ _ U λb _ o e=>u b o<|w5 _ e;have G:n.heap.objs.size∉fp:=λz=>E8 _<|j _ z;have L:n.heap.objs.size∉frs X.stack:=λz=>by rcases z7.mp (d.stkSub _ z)with q|q;exact p5 d.lt (by rw[<-q];exact E8 _);exact d.nofs (v7 _) q
 have F:n.heap.objs.size≠(n.heap.push<|bz [] 0).objs.size:=by rw[O];exact A4<|K5 _
 have ltc:∀z c,cl.lookup z=a7 c->c<n.heap.objs.size:=λz c e=>by obtain⟨v,q⟩:=d.cell z c<|a z c e;exact q.lt
 have t:∀b∈fp,b≠(n.heap.push<|bz [] 0).objs.size/\b∉frs X.stack/\∀x c,cl.lookup x=a7 c->c≠b:=λb f=>by refine⟨by rw[O];exact A4<|Mj<|j b f,λz=>?_,λx c e=>(M b f).2.2.2.2.1 x c<|a x c e⟩;rcases z7.mp (d.stkSub b z)with q|q;exact(M b f).2.1 q;exact(M b f).2.2.1 q
 have l:k9 (i4 X.prog X.w) X.A (.compLoop (.ListComp elt [⟨tg,iter,ifs,0⟩] scope pos) 0 (.ref it) (.ref n.heap.objs.size)<|m9 scope cl (n.heap.push<|bz [] 0).objs.size X.env) (compPost (i4 X.prog X.w) X.A X.xe a8 (EP X pins σ Q) (.ref n.heap.objs.size) (n.heap.push<|bz [] 0).objs.size) { n with heap:=h1,toks:=n.toks+([]:List (c8×c6)).length }:=by refine Af (s0:={ n with heap:=n.heap.push (bz [] 0) }) (H0:=P) (N':=N') (Q:=Q) (S _ _ _ _ _ _ _ d) (hg _ _ _ _) (ht _ _ _ _) (Y _ _ _ _) T G D t F L (λx c e=>A4<|ltc x c e) ?_ m0 R C (λb f=>(M b f).1) w0;intro τ H' s' vs its k N rv hl q;obtain⟨mm,hn,_⟩:=id N.loc;exact⟨mm,hn,λh' sb=>⟨.ref n.heap.objs.size,_,d.blkEnd M N rv hl sb,rfl,q⟩⟩
 exact Qw l<|T.self _ 0 _ _ _ C l
def pe_lc{C t r:i3}{i:List i3}{scope:g8}{pos:i5}{N':List c8}{n:Nat}{j:List Nat}{wi:TI}{g:TG}{tt:TT}{te:TE}(B:BlkSc X N' n j scope)(h:X.calm=a9)(hi:PI X t r wi)(S:∀cl s0 H0 ex,PG (z6 X N' scope cl s0 H0 ex) t g) (D:∀cl s0 H0 ex,Ly (z6 X N' scope cl s0 H0 ex) i tt) (e:∀cl s0 H0 ex,PE (z6 X N' scope cl s0 H0 ex) C te)(hs:∀x,j8 r X.env x=pure x:=by intro _;rfl):PE X (.ListComp C [⟨t,r,i,0⟩] scope pos) (On n j wi g tt te):=DZ B (λJ f it tn (T:Turn X.prog X.w X.K t J f it tn)=>⟨T,λ_ _ _ _ cl s0 ex _=>Turn.at T h⟩)
  (λp s σ H R I q=>v6 (hi p s σ H R I q) λv k h1=>v6 h1 λd l ⟨it,f,tn,J,H',m,a,M,b,c,y⟩=>⟨it,f,tn,J,H',m,a,M,b,c,y⟩) S D e hs
section
inductive D where
 |non|bl (b:Bool)|int (i:Int)|str (x:c8)|ty (n:String)|tup (ds:List D)|ref (n:Nat)
structure Xn where
 nm:c8
 fs:List (c8×D)
instance:Coe c8 Xn:=⟨λx=>⟨x,[]⟩⟩
inductive MO where
 |lst (xs:List D)
 |fz (xs:List D)
 |kl (xs:List D)
 |dct (kvs:List (c8×D))
 |dkt (kvs:List (D×D))
 |dkq (e:Nat) (kvs:List (D×D))
 |dkm (kvs:List (D×D))
 |fdc (o:d7) (kvs:List (c8×D))
 |tb (x:c8) (b:Bool)
 |exc (x:Xn) (e:d6)
 |ins (c:c8) (fs:List (c8×D))
 |tl (x:c8) (p:i5) (q:c8) (e:List (i5×d6))
noncomputable abbrev t7:=List MO
noncomputable def MO.isL:MO->Bool
 |.dct _=>c5
 |.dkt _=>c5
 |.dkq _ _=>c5
 |.fdc _ _=>c5
 |.dkm _=>c5
 |.tb _ _=>c5
 |.exc _ _=>c5
 |.ins _ _=>c5
 |.tl _ _ _ _=>c5
 |_=>a9
noncomputable def oM(s:List c8)(vs:List V):List (E1×V):=(s.zip vs).map λp=>(AC6 p.1,p.2)
mutual
inductive u7(K:u6)(ρ:List d6)(H:Hp):D->V->Prop
 |non:u7 K ρ H .non .non
 |bl (b:Bool):u7 K ρ H (.bl b) (.bl b)
 |int (i:Int):u7 K ρ H (.int i) (.int i)
 |str (x:c8):u7 K ρ H (.str x) (.str x)
 |ty (n:String):u7 K ρ H (.ty n) (.ty n)
 |tup {a:d6}{vs:List V}{ds:List D} (h:D0 K H a vs) (r:Reps K ρ H ds vs):u7 K ρ H (.tup ds) (.ref a)
 |ref {n:Nat}{a:d6} (h:ρ[n]?=a7 a):u7 K ρ H (.ref n) (.ref a)
inductive Reps(K:u6)(ρ:List d6)(H:Hp):List D->List V->Prop
 |nil:Reps K ρ H [] []
 |cons {d:D}{v:V}{ds:List D}{vs:List V} (h:u7 K ρ H d v) (t:Reps K ρ H ds vs):Reps K ρ H (d::ds) (v::vs)
end
def KList(K:u6)(a:d6)(xs:List V):Prop:=∃(o:d7) (its:Array c6) (n:Nat),K.lookup a=a7 o/\o.cls=.type "list"/\o.dict=a8/\o.data=.seq its n/\its.size<=sizeLine/\az xs its.toList
noncomputable def iL:Nat->D->Bool
 |_,.str _=>a9
 |_,.int _=>a9
 |n+1,.tup ds=>ds.all<|iL n
 |_,_=>c5
noncomputable def C7(w:c9):Nat->D->Int
 |_,.str x=>hashStr w x
 |_,.int i=>hashInt i
 |n+1,.tup ds=>reduceHash<|PM<|ds.map<|C7 w n
 |_,_=>0
def dX(a:d6)(xs:List (D×d6×c6)):d5->c9->d8->Prop:=λ_ w h =>
 ∃(o:d7) (es:Array DictEntry),h.get? a=a7 o/\o.ExactDict/\o.data=.dict es xs.length/\es.toList=xs.map λx=>⟨C7 w 8 x.1,.ref x.2.1,x.2.2⟩
def dQ(a:d6)(e:Nat)(xs:List (D×d6×c6)):d5->c9->d8->Prop:=λ_ w h =>
 ∃(o:d7) (es:Array DictEntry),h.get? a=a7 o/\o.ExactDict/\o.data=.dict es e/\es.toList=xs.map λx=>⟨C7 w 8 x.1,.ref x.2.1,x.2.2⟩
noncomputable def keyM:D->Bool
 |.non=>a9
 |.tup ks=>iL 8<|.tup ks
 |_=>c5
noncomputable def hkM(w:c9):D->Int
 |.non=>reduceHash 0xFCA86420
 |d=>C7 w 8 d
noncomputable def entM(hs:D->Int)(x:D×c6×c6):DictEntry:=⟨hs x.1,x.2.1,x.2.2⟩
def dM(a:d6)(xs:List (D×c6×c6)):d5->c9->d8->Prop:=λ_ w h =>
 ∃(o:d7) (es:Array DictEntry),h.get? a=a7 o/\o.ExactDict/\o.data=.dict es xs.length/\es.toList=xs.map (entM<|hkM w)
def O6(K:u6)(ρ:List d6)(H:Hp)(p:D×D)(q:D×c6×c6):Prop:=p.1=q.1/\keyM p.1=a9/\(∃u,u7 K ρ H p.1 u/\aR u q.2.1)/\∃v,u7 K ρ H p.2 v/\aR v q.2.2
def Ew(K:u6)(ρ:List d6)(H:Hp)(p:D×D)(q:D×d6×c6):Prop:=p.1=q.1/\iL 8 p.1=a9/\u7 K ρ H p.1 (.ref q.2.1)/\∃v,u7 K ρ H p.2 v/\aR v q.2.2
def K9(o:d7)(C:c6):Prop:=o.cls=C/\∃vs,o.data=.fields vs/\vs[2]?=a7 .none
def Kn(K:u6)(H:Hp):Option d6->List (c8×D)->Prop
 |none,fs=>fs=[]
 |some dx,fs=>∃o vs mA,H dx=a7 (.frz o<|.own dx)/\(∀h:d8,h.get? dx=a7 o->h.Ns1 dx mA)/\(∀f,yE (((fs.map (·.1)).zip vs).lookup f)<|mA f)/\Reps K [] H (fs.map (·.2)) vs
noncomputable def uD(es:List (i5×d6)):Array c6:=(es.flatMap λp=>[j7 p.1.line,j7 p.1.col,.ref p.2]).toArray
def yw(K:u6)(ρ:List d6)(H:Hp)(a:d6):MO->Prop
 |.lst ds=>∃vs,H a=a7 (.lst vs)/\Reps K ρ H ds vs
 |.fz ds=>∃o vs,H a=a7 (.frz o<|.lst vs)/\Reps K ρ H ds vs
 |.kl ds=>∃vs,KList K a vs/\Reps K ρ H ds vs
 |.dct kvs=>∃vs,H a=a7 (.dK (oM (kvs.map (·.1)) vs))/\Reps K ρ H (kvs.map (·.2)) vs
 |.dkt kvs=>kvs.length<=sizeLine/\(a==d9)=c5/\(kvs.map (·.1)).Nodup/\∃xs,H a=a7 (.ext<|dX a xs)/\Paired (Ew K ρ H) kvs xs
 |.dkq e kvs=>kvs.length<=sizeLine/\(a==d9)=c5/\(kvs.map (·.1)).Nodup/\∃xs,H a=a7 (.ext<|dQ a e xs)/\Paired (Ew K ρ H) kvs xs
 |.dkm kvs=>kvs.length<=sizeLine/\(a==d9)=c5/\(kvs.map (·.1)).Nodup/\∃xs,H a=a7 (.ext<|dM a xs)/\Paired (O6 K ρ H) kvs xs
 |.fdc o kvs=>∃vs,H a=a7 (.frz o (.dK (oM (kvs.map (·.1)) vs)))/\Reps K ρ H (kvs.map (·.2)) vs
 |.tb x b=>(∃c,PySem.W.tabIn K x=a7 (c,a)/\∀h:d8,K.In h->PySem.W.CodeHd h c a)/\∃ps,H a=a7 (.tbl ps)/\(b=c5->ps = #[])
 |.exc x e=>e=a/\∃C o,LF K f6 x.nm=a7 (a7<|.ref C)/\K9 o (.ref C)/\Kn K H o.dict x.fs/\H a=a7 (.frz o<|.own a)
 |.ins c fs=>∃C dx vs,LF K f6 c=a7 (a7<|.ref C)/\H a=a7 (.ins C dx ((fs.map (·.1)).zip vs))/\Reps K ρ H (fs.map (·.2)) vs
 |.tl x p q e=>(∃c,PySem.W.tabIn K x=a7 (c,a)/\∀h:d8,K.In h->PySem.W.CodeHd h c a)/\H a=a7 (.tbl<|uD e)/\∀p∈e,∃o vs t,H p.2=a7 (.frz o<|.own p.2)/\o.data=.fields vs/\vs[1]?=a7 (.str q t)
def Lx(mo:Option MO):Prop:=∃ds,mo=a7 (.kl ds)
def ah(M:t7)(n:Nat)(xs:List D):Prop:=M[n]?=a7 (.lst xs)\/M[n]?=a7 (.fz xs)\/M[n]?=a7 (.kl xs)
structure v4(K:u6)(ρ:List d6)(M:t7)(H:Hp):Prop where
 nd:∀(n m:Nat) (a:d6),n≠m->ρ[n]?=a7 a->ρ[m]?=a7 a->Lx M[n]?\/Lx M[m]?
 len:ρ.length=M.length
 obj:∀(n:Nat) (a:d6) (mo:MO),ρ[n]?=a7 a->M[n]?=a7 mo->yw K ρ H a mo
structure Grow(K:u6)(ρ:List d6)(H:Hp)(ρ':List d6)(H':Hp):Prop where
 pre:ρ <+: ρ'
 tup:∀a xs,D0 K H a xs->D0 K H' a xs
 fr:∀a o,H a=a7 (.frz o<|.own a)->H' a=a7 (.frz o<|.own a)
def Grow.refl{K:u6}{ρ:List d6}{H:Hp}:Grow K ρ H ρ H:=⟨Lc,λ_ _ h=>h,λ_ _ h=>h⟩
def Grow.trans{K:u6}{ρ c d:List d6}{H H1 e:Hp}(a:Grow K ρ H c H1)(b:Grow K c H1 d e):Grow K ρ H d e:=⟨a.pre.trans b.pre,λx xs h=>b.tup x xs<|a.tup x xs h,λx o h=>b.fr x o<|a.fr x o h⟩
def aW{α:Type}{l l':List α}(h:l <+: l'){n:Nat}{a:α}(e:l[n]?=a7 a):l'[n]?=a7 a:=by obtain⟨t,rfl⟩:=h;rw[G4 (B5.mp e).1];exact e
def u7.grow{K:u6}{ρ a:List d6}{H H':Hp}(g:Grow K ρ H a H'){d:D}{v:V}(h:u7 K ρ H d v):u7 K a H' d v:=u7.rec (motive_1:=λd v _=>u7 K a H' d v) (motive_2:=λds vs _=>Reps K a H' ds vs) .non .bl .int .str .ty (λh _ r=>.tup (g.tup _ _ h) r) (λh=>.ref<|aW g.pre h) .nil (λ_ _ h t=>.cons h t) h
def Reps.grow{K:u6}{ρ a:List d6}{H H':Hp}(g:Grow K ρ H a H'){ds:List D}{vs:List V}(h:Reps K ρ H ds vs):Reps K a H' ds vs:=Reps.rec (motive_1:=λd v _=>u7 K a H' d v) (motive_2:=λds vs _=>Reps K a H' ds vs) .non .bl .int .str .ty (λh _ r=>.tup (g.tup _ _ h) r) (λh=>.ref<|aW g.pre h) .nil (λ_ _ h t=>.cons h t) h
section
variable{K:u6}{ρ ρ':List d6}{H H':Hp}{M:t7}
def Reps.length(h:Reps K ρ H ds vs):ds.length=vs.length:=Reps.rec (motive_1:=λ_ _ _=>True) (motive_2:=λds vs _=>ds.length=vs.length) trivial (λ_=>trivial) (λ_=>trivial) (λ_=>trivial) (λ_=>trivial) (λ_ _ _=>trivial) (λ_=>trivial) rfl (λ_ _ _ t=>q9 Nat.succ t) h
def Reps.append(h:Reps K ρ H ds vs)(s:Reps K ρ H es ws):Reps K ρ H (ds++es) (vs++ws):=Reps.rec (motive_1:=λ_ _ _=>True) (motive_2:=λds vs _=>Reps K ρ H (ds++es)<|vs++ws) trivial (λ_=>trivial) (λ_=>trivial) (λ_=>trivial) (λ_=>trivial) (λ_ _ _=>trivial) (λ_=>trivial) s (λh _ _ t=>.cons h t) h
def Reps.get:∀{ds:List D}{vs:List V}{i:Nat}{d:D},Reps K ρ H ds vs->ds[i]?=a7 d->∃v,vs[i]?=a7 v/\u7 K ρ H d v
 |_,_,_,_,.nil,e=>by simp at e
 |_,_,0,_,.cons r _,e=>by simp at e;subst e;exact⟨_,rfl,r⟩
 |_,_,i+1,d,.cons _ t,e=>by obtain⟨v,h1,h2⟩:=Reps.get (i:=i) (d:=d) t (by simpa using e);exact⟨v,by simpa using h1,h2⟩
def Reps.getV:∀{ds:List D}{vs:List V}{i:Nat}{v:V},Reps K ρ H ds vs->vs[i]?=a7 v->∃d,ds[i]?=a7 d/\u7 K ρ H d v
 |_,_,_,_,.nil,e=>by simp at e
 |_,_,0,_,.cons r _,e=>by simp at e;subst e;exact⟨_,rfl,r⟩
 |_,_,i+1,d,.cons _ t,e=>by obtain⟨v,h1,h2⟩:=Reps.getV (i:=i) (v:=d) t (by simpa using e);exact⟨v,by simpa using h1,h2⟩
def Reps.take:∀{ds:List D}{vs:List V} (n:Nat),Reps K ρ H ds vs->Reps K ρ H (ds.take n) (vs.take n)
 |_,_,0,_=>by simpa using .nil
 |_,_,_+1,.nil=>.nil
 |_,_,n+1,.cons r t=>.cons r<|Reps.take n t
def Reps.drop:∀{ds:List D}{vs:List V} (n:Nat),Reps K ρ H ds vs->Reps K ρ H (ds.drop n) (vs.drop n)
 |_,_,0,r=>r
 |_,_,_+1,.nil=>.nil
 |_,_,n+1,.cons _ t=>Reps.drop n t
def D0.laid(b:H p=a8)(h:D0 K H a xs):D0 K (v8 H p o) a xs:=by
 rcases h with h|h;rcases h with h|⟨c,h⟩
 exact .inl (.inl<|by rw[am<|ad h b];exact h);exact .inl<|.inr ⟨c,by rw[am<|ad h b];exact h⟩;exact .inr h
noncomputable def HO.noT:HO->Bool
 |.tup _=>c5
 |.frz _ _=>c5
 |_=>a9
def D0.written(b:H p=a7 o')(t:o'.noT=a9)(h:D0 K H a xs):D0 K (v8 H p o) a xs:=by
 have F:∀u,u.noT=c5->H a=a7 u->a≠p:=λu q e z=>by rw[z,b]at e;cases e;rw[t]at q;cases q
 rcases h with h|h;rcases h with h|⟨c,h⟩
 exact .inl (.inl<|by rw[am<|F _ rfl h];exact h);exact .inl<|.inr ⟨c,by rw[am<|F _ rfl h];exact h⟩;exact .inr h
def Grow.laid(a:H p=a8):Grow K ρ H ρ (v8 H p o):=⟨Lc,λ_ _ h=>D0.laid a h,λ_ _ h=>(am<|ad h a).trans h⟩
def Grow.laidR(a:H p=a8):Grow K ρ H (ρ++[p]) (v8 H p o):=⟨Kv _ _,λ_ _ h=>D0.laid a h,λ_ _ h=>(am<|ad h a).trans h⟩
def v4.tracked(S:v4 K ρ M H){n:Nat}{a:d6}(e:ρ[n]?=a7 a):(∃o,H a=a7 o)\/Lx M[n]?:=by
 have f:n<M.length:=by rw[<-S.len];exact(B5.mp e).1
 have m:M[n]?=a7 M[n]:=A1 f;have h:=S.obj n a _ e m;rw[m];cases d:M[n] with
 |lst ds=>rw[d]at h;obtain⟨vs,h,_⟩:=h;exact .inl ⟨_,h⟩
 |fz ds=>rw[d]at h;obtain⟨o,vs,h,_⟩:=h;exact .inl ⟨_,h⟩
 |kl ds=>exact .inr ⟨ds,rfl⟩
 |dct s=>rw[d]at h;obtain⟨vs,h,_⟩:=h;exact .inl ⟨_,h⟩
 |dkt s=>rw[d]at h;obtain⟨_,_,_,xs,h,_⟩:=h;exact .inl ⟨_,h⟩
 |dkq _ s=>rw[d]at h;obtain⟨_,_,_,xs,h,_⟩:=h;exact .inl ⟨_,h⟩
 |fdc o s=>rw[d]at h;obtain⟨vs,h,_⟩:=h;exact .inl ⟨_,h⟩
 |dkm s=>rw[d]at h;obtain⟨_,_,_,xs,h,_⟩:=h;exact .inl ⟨_,h⟩
 |tb x b=>rw[d]at h;obtain⟨_,ps,h,_⟩:=h;exact .inl ⟨_,h⟩
 |exc x e=>rw[d]at h;obtain⟨_,_,_,_,_,_,h⟩:=h;exact .inl ⟨_,h⟩
 |ins c g=>rw[d]at h;obtain⟨_,_,_,_,h,_⟩:=h;exact .inl ⟨_,h⟩
 |tl x p q e=>rw[d]at h;obtain⟨_,h,_⟩:=h;exact .inl ⟨_,h⟩
def Kn.grow(g:Grow K ρ H ρ' H')(h:Kn K H od fs):Kn K H' od fs:=by
 cases od with
 |none=>exact h
 |some dx=>obtain⟨o,vs,A,e,n,l,r⟩:=h;exact⟨o,vs,A,g.fr _ _ e,n,l,r.grow ⟨Lc,g.tup,g.fr⟩⟩
def yw.grow(g:Grow K ρ H ρ' H')(hs:H' a=H a\/Lx (a7 mo))(h:yw K ρ H a mo):yw K ρ' H' a mo:=by
 by_cases z:Lx (a7 mo);obtain⟨ds,z⟩:=z;cases z;obtain⟨vs,e,r⟩:=h;exact⟨vs,e,r.grow g⟩;have d:=hs.resolve_right z;clear hs;have B:∀{s:List (D×D)}{xs:List (D×d6×c6)},Paired (Ew K ρ H) s xs->Paired (Ew K ρ' H') s xs:=λr=>Paired.mapP r λ_ _ ⟨k,l,m,v,A,N⟩=>⟨k,l,m.grow g,v,A.grow g,N⟩
 cases mo with
 |lst ds=>obtain⟨vs,e,r⟩:=h;exact⟨vs,d.trans e,r.grow g⟩
 |fz ds=>obtain⟨o,vs,e,r⟩:=h;exact⟨o,vs,d.trans e,r.grow g⟩
 |kl ds=>exact p5 ⟨ds,rfl⟩ z
 |dct s=>obtain⟨vs,e,r⟩:=h;exact⟨vs,d.trans e,r.grow g⟩
 |dkt s=>obtain⟨h1,h2,j,xs,e,r⟩:=h;exact⟨h1,h2,j,xs,d.trans e,B r⟩
 |dkq _ s=>obtain⟨h1,h2,j,xs,e,r⟩:=h;exact⟨h1,h2,j,xs,d.trans e,B r⟩
 |dkm s=>obtain⟨h1,h2,j,xs,e,r⟩:=h;exact⟨h1,h2,j,xs,d.trans e,Paired.mapP r λ_ _ ⟨k,l,⟨u,m,w⟩,v,A,N⟩=>⟨k,l,⟨u,m.grow g,w⟩,v,A.grow g,N⟩⟩
 |fdc o s=>obtain⟨vs,e,r⟩:=h;exact⟨vs,d.trans e,r.grow g⟩
 |tb x b=>obtain⟨c,ps,e,q⟩:=h;exact⟨c,ps,d.trans e,q⟩
 |exc x e=>obtain⟨E,C,o,e,i,F,q⟩:=h;exact⟨E,C,o,e,i,F.grow g,d.trans q⟩
 |ins c I=>obtain⟨C,dx,vs,n,e,r⟩:=h;exact⟨C,dx,vs,n,d.trans e,r.grow g⟩
 |tl x p q G=>obtain⟨c,e,r⟩:=h;refine⟨c,d.trans e,λy O=>?_⟩;obtain⟨o,vs,t,f,r⟩:=r y O;exact⟨o,vs,t,g.fr _ _ f,r⟩
def v4.keeps{p:d6}{o:HO}(S:v4 K ρ M H)(h:H p=a8){n:Nat}{a:d6}{mo:MO}(t:ρ[n]?=a7 a)(l:M[n]?=a7 mo):v8 H p o a=H a\/Lx (a7 mo):=by rcases S.tracked t with⟨c,b⟩|q;exact .inl<|am<|ad b h;rw[l]at q;exact .inr q
def v4.laid{p:d6}{o:HO}(S:v4 K ρ M H)(h:H p=a8):v4 K ρ M (v8 H p o):=⟨S.nd,S.len,λn a m t l=>(S.obj n a m t l).grow (Grow.laid h)<|S.keeps h t l⟩
def ci{α:Type}{l:List α}{x y:α}{n:Nat}(h:(l++[x])[n]?=a7 y):l[n]?=a7 y\/(n=l.length/\y=x):=by
 by_cases f:n<l.length;rw[G4 f]at h;exact .inl h;have a:n=l.length:=by have:=(B5.mp h).1;rw[E2,Oj]at this;lia
 subst a;rw[LK<|v7 _,LD]at h;simp at h;exact .inr ⟨rfl,h.symm⟩
def Lx.more{mo:MO}{n:Nat}(h:Lx M[n]?):Lx (M++[mo])[n]?:=by obtain⟨ds,e⟩:=h;exact⟨ds,by rw[G4 (B5.mp e).1];exact e⟩
def v4.laidM(S:v4 K ρ M H)(c:H p=a8)(ok:yw K (ρ++[p]) (v8 H p o) p mo):v4 K (ρ++[p]) (M++[mo]) (v8 H p o):=by
 have g:Grow K ρ H (ρ++[p]) (v8 H p o):=Grow.laidR c;have d:∀(n:Nat),ρ[n]?=a7 p->Lx M[n]?:=λn e=>by rcases S.tracked e with⟨o,q⟩|q;rw[c]at q;cases q;exact q
 refine⟨λn m a h t l=>?_,by rw[E2,E2,S.len];rfl,λn a i t l=>?_⟩;rcases ci t with f|⟨f,g1⟩
 rcases ci l with b|⟨b,j⟩
 exact(S.nd n m a h f b).elim (λz=>.inl z.more) λz=>.inr z.more;subst j;exact .inl (d n f).more;rcases ci l with b|⟨b,j⟩
 subst g1;exact .inr (d m b).more;exact p5 (f.trans b.symm) h;rcases ci t with f|⟨f,g1⟩
 have k:n<M.length:=by rw[<-S.len];exact(B5.mp f).1
 rw[G4 k]at l;exact(S.obj n a i f l).grow g<|S.keeps c f l;subst g1 f;rw[S.len,LK<|v7 _,LD]at l;simp at l;subst l;exact ok
def v4.laidL{p:d6}{ds:List D}{vs:List V}(S:v4 K ρ M H)(h:H p=a8)(r:Reps K ρ H ds vs):v4 K (ρ++[p]) (M++[.lst ds]) (v8 H p<|.lst vs):=S.laidM h ⟨vs,aI,r.grow<|Grow.laidR h⟩
def v4.last(S:v4 K ρ M H):(ρ++[p])[M.length]?=a7 p:=by rw[<-S.len,LK<|v7 _,LD];rfl
def v4.writeG(S:v4 K ρ M H)(t:ρ[n]?=a7 a)(c:¬Lx M[n]?)(r:H a=a7 o')(s:o'.noT=a9)(ok:Grow K ρ H ρ (v8 H a o)->yw K ρ (v8 H a o) a mo):v4 K ρ (M.set n mo) (v8 H a o)/\Grow K ρ H ρ (v8 H a o):=by
 have g:Grow K ρ H ρ (v8 H a o):=⟨Lc,λ_ _ h=>D0.written r s h,λb _ h=>(am λz=>by rw[z,r]at h;cases h;cases s).trans h⟩
 have l:∀m,m≠n->(M.set n mo)[m]?=M[m]?:=λm e=>KO<|A8 e;refine⟨⟨λm p b i d f=>?_,by rw[Ld];exact S.len,λm b j d f=>?_⟩,g⟩;have q:=S.nd m p b i d f;by_cases h1:m=n;subst h1;rw[l p<|A8 i];exact .inr<|q.resolve_left c;rw[l m h1];by_cases h2:p=n;subst h2;exact .inl<|q.resolve_right c;rw[l p h2];exact q;by_cases e:m=n;subst e;have k:b=a:=C1<|d.symm.trans t;subst k;rw[Lj<|by rw[<-S.len];exact(B5.mp t).1]at f;cases f;exact ok g;rw[l m e]at f;by_cases k:b=a;subst k;have u:=(S.nd m n b e d t).resolve_right c;rw[f]at u;exact(S.obj m b j d f).grow g<|.inr u;exact(S.obj m b j d f).grow g<|.inl<|am k
def v4.write(S:v4 K ρ M H)(t:ρ[n]?=a7 a)(b:M[n]?=a7 (.lst ds))(h:H a=a7 (.lst vs))(r:Reps K ρ H ds' vs'):v4 K ρ (M.set n<|.lst ds') (v8 H a<|.lst vs')/\Grow K ρ H ρ (v8 H a<|.lst vs'):=S.writeG t (λ⟨_,z⟩=>by rw[b]at z;cases z) h rfl λg=>⟨vs',aI,r.grow g⟩
def ah.seq(S:v4 K ρ M H)(h:ah M n xs)(e:ρ[n]?=a7 a):∃vs,Kx K H a vs/\Reps K ρ H xs vs:=by rcases h with h|h|h;obtain⟨vs,q,r⟩:=S.obj n a _ e h;exact⟨vs,.inl<|.inl q,r⟩;obtain⟨o,vs,q,r⟩:=S.obj n a _ e h;exact⟨vs,.inl<|.inr ⟨o,q⟩,r⟩;obtain⟨vs,q,r⟩:=S.obj n a _ e h;exact⟨vs,.inr q,r⟩
def v4.get(S:v4 K ρ M H){n:Nat}{mo:MO}(e:M[n]?=a7 mo):∃a,ρ[n]?=a7 a/\yw K ρ H a mo:=by
 have f:n<ρ.length:=by rw[S.len];exact(B5.mp e).1
 exact⟨ρ[n],A1 f,S.obj n _ mo (A1 f) e⟩
end
noncomputable abbrev SD:=List<|Option D
structure SRep(K:u6)(ρ:List d6)(H:Hp)(S:SD)(σ:St):Prop where
 len:S.length=σ.length
 get:∀(i:Nat) (d:D),S[i]?=a7 (a7 d)->∃v,σ[i]?=a7 (a7 v)/\u7 K ρ H d v
def SRep.grow{K:u6}{ρ a:List d6}{H H':Hp}{S:SD}{σ:St}(r:SRep K ρ H S σ)(g:Grow K ρ H a H'):SRep K a H' S σ:=⟨r.len,λi d e=>let ⟨v,h1,h2⟩:=r.get i d e;⟨v,h1,h2.grow g⟩⟩
def SRep.set{K:u6}{ρ:List d6}{H:Hp}{S:SD}{σ:St}(r:SRep K ρ H S σ)(i:Nat){d:D}{v:V}(h:u7 K ρ H d v):SRep K ρ H (S.set i<|a7 d) (σ.set i<|a7 v):=by refine⟨by rw[Ld,Ld];exact r.len,λj e L=>?_⟩;by_cases a:i=j;subst a;by_cases g:i<S.length;rw[Lj g]at L;cases L;exact⟨v,by rw[Lj<|by rw[<-r.len];exact g],h⟩;rw[MU<|by rw[Ld];lia]at L;cases L;rw[KO a]at L;rw[KO a];exact r.get j e L
abbrev DK:=D->t7->Prop
abbrev A3:=SD->t7->DK->Prop
abbrev G9:=SD->t7->(Bool->t7->Prop)->Prop
abbrev I9:=SD->t7->(List D->t7->Prop)->Prop
structure DEnds where
 nx:SD->t7->Prop
 rt:DK
 bk:SD->t7->Prop:=λ_ _=>False
 ct:SD->t7->Prop:=λ_ _=>False
abbrev t9:=DEnds->SD->t7->Prop
abbrev KR:=D->SD->t7->(SD->t7->Prop)->Prop
abbrev Hb:=List D->SD->t7->(SD->t7->Prop)->Prop
abbrev J4:=D->D->t7->DK->Prop
abbrev OA:=D->t7->DK->Prop
abbrev J3:=List D->t7->DK->Prop
section
variable(K:u6)
inductive VQ(ρ:List d6)(H:Hp)(Q:DK)(v:V)(H':Hp):Prop
 |mk (d:D) (M':t7) (ρ':List d6) (s:v4 K ρ' M' H') (g:Grow K ρ H ρ' H') (r:u7 K ρ' H' d v) (q:Q d M')
inductive BQ(ρ:List d6)(H:Hp)(Q:Bool->t7->Prop)(b:Bool)(H':Hp):Prop
 |mk (M':t7) (ρ':List d6) (s:v4 K ρ' M' H') (g:Grow K ρ H ρ' H') (q:Q b M')
inductive AQ(ρ:List d6)(H:Hp)(Q:List D->t7->Prop)(vs:List V)(H':Hp):Prop
 |mk (ds:List D) (M':t7) (ρ':List d6) (s:v4 K ρ' M' H') (g:Grow K ρ H ρ' H') (r:Reps K ρ' H' ds vs) (q:Q ds M')
inductive SQ(ρ:List d6)(H:Hp)(Q:SD->t7->Prop)(σ':St)(H':Hp):Prop
 |mk (S':SD) (M':t7) (ρ':List d6) (s:v4 K ρ' M' H') (g:Grow K ρ H ρ' H') (r:SRep K ρ' H' S' σ') (q:Q S' M')
structure Ou(ρ:List d6)(H:Hp)(F:DEnds)(E:Ends):Prop where
 nx:∀σ' H',SQ K ρ H F.nx σ' H'->E.nx σ' H'
 rt:∀v H',VQ K ρ H F.rt v H'->E.rt v H'
 bk:∀σ' H',SQ K ρ H F.bk σ' H'->E.bk σ' H'
 ct:∀σ' H',SQ K ρ H F.ct σ' H'->E.ct σ' H'
inductive lowE(t:A3)(σ:St)(H:Hp)(R:VK):Prop
 |mk (S:SD) (M:t7) (ρ:List d6) (Q:DK) (s:v4 K ρ M H) (sr:SRep K ρ H S σ) (q:t S M Q) (k:∀v H',VQ K ρ H Q v H'->R v H')
inductive lowT(t:G9)(σ:St)(H:Hp)(R:Bool->Hp->Prop):Prop
 |mk (S:SD) (M:t7) (ρ:List d6) (Q:Bool->t7->Prop) (s:v4 K ρ M H) (sr:SRep K ρ H S σ) (q:t S M Q) (k:∀v H',BQ K ρ H Q v H'->R v H')
inductive lowA(t:I9)(σ:St)(H:Hp)(R:List V->Hp->Prop):Prop
 |mk (S:SD) (M:t7) (ρ:List d6) (Q:List D->t7->Prop) (s:v4 K ρ M H) (sr:SRep K ρ H S σ) (q:t S M Q) (k:∀v H',AQ K ρ H Q v H'->R v H')
inductive lowS(t:t9)(E:Ends)(σ:St)(H:Hp):Prop
 |mk (S:SD) (M:t7) (ρ:List d6) (F:DEnds) (s:v4 K ρ M H) (sr:SRep K ρ H S σ) (q:t F S M) (k:Ou K ρ H F E)
inductive lowG(g:KR)(v:V)(σ:St)(H:Hp)(R:St->Hp->Prop):Prop
 |mk (d:D) (S:SD) (M:t7) (ρ:List d6) (Q:SD->t7->Prop) (s:v4 K ρ M H) (sr:SRep K ρ H S σ) (r:u7 K ρ H d v) (q:g d S M Q) (k:∀σ' H',SQ K ρ H Q σ' H'->R σ' H')
inductive lowGs(g:Hb)(vs:List V)(σ:St)(H:Hp)(R:St->Hp->Prop):Prop
 |mk (ds:List D) (S:SD) (M:t7) (ρ:List d6) (Q:SD->t7->Prop) (s:v4 K ρ M H) (sr:SRep K ρ H S σ) (r:Reps K ρ H ds vs) (q:g ds S M Q) (k:∀σ' H',SQ K ρ H Q σ' H'->R σ' H')
inductive lowR(r:J4)(vx vy:V)(H:Hp)(R:VK):Prop
 |mk (x y:D) (M:t7) (ρ:List d6) (Q:DK) (s:v4 K ρ M H) (r1:u7 K ρ H x vx) (r2:u7 K ρ H y vy) (q:r x y M Q) (k:∀v H',VQ K ρ H Q v H'->R v H')
inductive lowU(r:OA)(vx:V)(H:Hp)(R:VK):Prop
 |mk (x:D) (M:t7) (ρ:List d6) (Q:DK) (s:v4 K ρ M H) (r1:u7 K ρ H x vx) (q:r x M Q) (k:∀v H',VQ K ρ H Q v H'->R v H')
inductive BC(r:J3)(vs:List V)(H:Hp)(R:VK):Prop
 |mk (ds:List D) (M:t7) (ρ:List d6) (Q:DK) (s:v4 K ρ M H) (r1:Reps K ρ H ds vs) (q:r ds M Q) (k:∀v H',VQ K ρ H Q v H'->R v H')
end
def DE(X:Cx)(e:i3)(t:A3):Prop:=PE X e<|lowE X.K t
def DT(X:Cx)(e:i3)(t:G9):Prop:=PT X e<|lowT X.K t
def DW(X:Cx)(e:i3)(t:G9):Prop:=PW X e<|lowT X.K t
def DA(X:Cx)(es:List i3)(t:I9):Prop:=PA X es<|lowA X.K t
def DS(X:Cx)(st:i8)(t:t9):Prop:=PS X st<|lowS X.K t
def Ma(X:Cx)(st:List i8)(t:t9):Prop:=Kz X st<|lowS X.K t
def DG(X:Cx)(t:i3)(g:KR):Prop:=PG X t<|lowG X.K g
def OB(X:Cx)(t:List i3)(g:Hb):Prop:=Ox X t<|lowGs X.K g
def J2(X:Cx)(f:c6->c6->Sem c6)(r:J4):Prop:=D8 X f<|lowR X.K r
def Qa(X:Cx)(f:c6->Sem c6)(r:OA):Prop:=O3 X f<|lowU X.K r
def ou(X:Cx)(f:c6)(r:J3):Prop:=gK X f<|BC X.K r
section
variable{K:u6}{ρ ρ1:List d6}{H H1:Hp}
def VQ.trans(g:Grow K ρ H ρ1 H1)(h:VQ K ρ1 H1 Q v H'):VQ K ρ H Q v H':=by obtain⟨d,M,a,s,b,r,q⟩:=h;exact⟨d,M,a,s,g.trans b,r,q⟩
def BQ.trans(g:Grow K ρ H ρ1 H1)(h:BQ K ρ1 H1 Q v H'):BQ K ρ H Q v H':=by obtain⟨M,a,s,b,q⟩:=h;exact⟨M,a,s,g.trans b,q⟩
def SQ.trans(g:Grow K ρ H ρ1 H1)(h:SQ K ρ1 H1 Q v H'):SQ K ρ H Q v H':=by obtain⟨d,M,a,s,b,r,q⟩:=h;exact⟨d,M,a,s,g.trans b,r,q⟩
def Ou.trans(g:Grow K ρ H ρ1 H1)(h:Ou K ρ H F E):Ou K ρ1 H1 F E:=⟨λa H' q=>h.nx a H'<|SQ.trans g q,λv H' q=>h.rt v H'<|VQ.trans g q,λa H' q=>h.bk a H'<|SQ.trans g q,λa H' q=>h.ct a H'<|SQ.trans g q⟩
def VQ.now(s:v4 K ρ M H)(r:u7 K ρ H d v)(q:Q d M):VQ K ρ H Q v H:=⟨d,M,ρ,s,.refl,r,q⟩
end
section
variable{K:u6}{ρ:List d6}{H:Hp}{v:V}{vs:List V}
def u7.inv_non(h:u7 K ρ H .non v):v=.non:=by cases h;rfl
def u7.inv_bl(h:u7 K ρ H (.bl b) v):v=.bl b:=by cases h;rfl
def u7.inv_int(h:u7 K ρ H (.int i) v):v=.int i:=by cases h;rfl
def u7.inv_str(h:u7 K ρ H (.str x) v):v=.str x:=by cases h;rfl
def u7.inv_ty(h:u7 K ρ H (.ty n) v):v=.ty n:=by cases h;rfl
def u7.inv_tup(h:u7 K ρ H (.tup ds) v):∃a vs,v=.ref a/\D0 K H a vs/\Reps K ρ H ds vs:=by cases h with|tup h r=>exact⟨_,_,rfl,h,r⟩
def u7.inv_ref(h:u7 K ρ H (.ref n) v):∃a,v=.ref a/\ρ[n]?=a7 a:=by cases h with|ref h=>exact⟨_,rfl,h⟩
def az.inv_cons(h:az (x::vs) us):∃u ws,us=u::ws/\aR x u/\az vs ws:=by cases h with|cons h t=>exact⟨_,_,rfl,h,t⟩
def az.inv_nil(h:az [] us):us=[]:=by cases h;rfl
def Reps.inv_nil(h:Reps K ρ H [] vs):vs=[]:=by cases h;rfl
def Reps.inv_cons(h:Reps K ρ H (d::ds) vs):∃v ws,vs=v::ws/\u7 K ρ H d v/\Reps K ρ H ds ws:=by cases h with|cons h t=>exact⟨_,_,rfl,h,t⟩
end
end
def PE.imp(h:PE X e t')(i:∀σ H R,t σ H R->t' σ H R):PE X e t:=λp s σ H R I q=>h p s σ H R I<|i σ H R q
def PT.imp(h:PT X e t')(i:∀σ H R,t σ H R->t' σ H R):PT X e t:=λp s σ H R I q=>h p s σ H R I<|i σ H R q
def PW.imp(h:PW X e t')(i:∀σ H R,t σ H R->t' σ H R):PW X e t:=λw p s σ H R I q=>h w p s σ H R I<|i σ H R q
def PA.imp(h:PA X e t')(i:∀σ H R,t σ H R->t' σ H R):PA X e t:=λa p s σ H R I q=>h a p s σ H R I<|i σ H R q
def PS.imp(h:PS X e t')(i:∀E σ H,t E σ H->t' E σ H):PS X e t:=λp s σ H R I q=>h p s σ H R I<|i R σ H q
def Kz.imp(h:Kz X e t')(i:∀E σ H,t E σ H->t' E σ H):Kz X e t:=λp s σ H R I q=>h p s σ H R I<|i R σ H q
def D8.imp(h:D8 X f r')(i:∀x y H R,r x y H R->r' x y H R):D8 X f r:=λp s σ H x y v u R I a b q=>h p s σ H x y v u R I a b<|i x y H R q
def gK.imp(h:gK X f r')(i:∀xs H R,r xs H R->r' xs H R):gK X f r:=λp s σ H xs us R I a q=>h p s σ H xs us R I a<|i xs H R q
section
variable{X:Cx}{a b c:i3}{ta tb tc:A3}{pos:i5}
def ac(i:Nat):A3:=λS M Q=>match S[i]? with
 |some (a7 d)=>Q d M
 |_=>False
def dC(d:D):A3:=λ_ M Q=>Q d M
def CM{K:u6}{i:Nat}(σ:St)(H:Hp)(R:VK)(h:lowE K (ac i) σ H R):tVar i σ H R:=by
 obtain⟨S,M,ρ,Q,s,r,q,k⟩:=h;unfold ac at q;cases e:S[i]? with
 |none=>rw[e]at q;exact q.elim
 |some o =>
  cases o with
  |none=>rw[e]at q;exact q.elim
  |some d=>rw[e]at q;obtain⟨v,c,a⟩:=r.get i d e;exact⟨v,c,k v H<|VQ.now s a q⟩
def d_var(h:X.N[i]?=a7 x:=by rfl)(c:Nt X.env.scope x:=by first|exact Or.inl rfl|exact Or.inr (Or.inl rfl)|exact Or.inr<|Or.inr rfl)(a:(x==("__debug__":c8))=c5:=by decide)(d:(x==("__classdict__":c8))=c5:=by decide):DE X (.Name x pos) (ac i):=PE.imp (DY h c a d) CM
noncomputable def cV:D->Option V
 |.non=>a7 .non
 |.bl b=>a7<|.bl b
 |.int i=>a7<|.int i
 |.str x=>a7<|.str x
 |.ty n=>a7<|.ty n
 |_=>a8
def Bo{K:u6}{ρ:List d6}{H:Hp}{d:D}{v:V}(h:cV d=a7 v):u7 K ρ H d v:=by
 cases d with
 |non=>cases h;exact .non
 |bl b=>cases h;exact .bl b
 |int b=>cases h;exact .int b
 |str b=>cases h;exact .str b
 |ty b=>cases h;exact .ty b
 |tup b=>cases h
 |ref b=>cases h
def pX{K:u6}{d:D}{v:V}(a:cV d=a7 v)(σ:St)(H:Hp)(R:VK)(h:lowE K (dC d) σ H R):tC v σ H R:=by obtain⟨S,M,ρ,Q,s,r,q,k⟩:=h;exact k v H<|VQ.now s (Bo a) q
def d_int{i:Int}{j:Nat}:DE X (.Constant (.int i) j pos) (dC<|.int i):=PE.imp Ii<|pX rfl
def d_bl{i:Bool}{j:Nat}:DE X (.Constant (.bool i) j pos) (dC<|.bl i):=PE.imp pe_bl<|pX rfl
def d_non{j:Nat}:DE X (.Constant .none j pos) (dC .non):=PE.imp Ig<|pX rfl
def d_str{i:c8}{j:Nat}:DE X (.Constant (.str i) j pos) (dC<|.str i):=PE.imp Ib<|pX rfl
def JZ(m:X.mg x=a7 u)(h:cV d=a7 v)(r:aR v u)(S:Gl X x:=by rfl)(b:(x==("__debug__":c8))=c5:=by decide):DE X (.Name x pos) (dC d):=PE.imp (zL S m r b)<|pX h
def JY{x:c8}{T:String}(m:X.mg x=a8)(c:f7 x=a7 (.type T))(S:Gl X x:=by rfl)(f:x≠"__name__":=by decide)(d:(x==("__debug__":c8))=c5:=by decide):DE X (.Name x pos) (dC<|.ty T):=PE.imp (zN (v:=.ty T) S m c rfl f d)<|pX rfl
def low2{K:u6}{S:SD}{M:t7}{ρ:List d6}{σ:St}{H:Hp}{P:D->D->t7->Prop}{G:V->V->Hp->Prop}(s:v4 K ρ M H)(r:SRep K ρ H S σ)(h:ta S M λx M1=>tb S M1 λy M2=>P x y M2)(k:∀x y vx vy M2 ρ2 H2,v4 K ρ2 M2 H2->Grow K ρ H ρ2 H2->u7 K ρ2 H2 x vx->u7 K ρ2 H2 y vy->P x y M2->G vx vy H2):lowE K ta σ H λvx H1=>lowE K tb σ H1 λvy H2=>G vx vy H2:=by refine⟨S,M,ρ,_,s,r,h,?_⟩;rintro vx H1 ⟨x,M1,c,d,g1,a,b⟩;refine⟨S,M1,c,_,d,r.grow g1,b,?_⟩;rintro vy H2 ⟨y,M2,ρ2,n,j,l,g⟩;exact k x y vx vy M2 ρ2 H2 n (g1.trans j) (a.grow j) l g
def t6(r:J4)(t c:A3):A3:=λS M Q=>t S M λx a=>c S a λy b=>r x y b Q
def qM{K:u6}{r:J4}(σ:St)(H:Hp)(R:VK)(h:lowE K (t6 r ta tb) σ H R):Om (lowR K r) (lowE K ta) (lowE K tb) σ H R:=by obtain⟨S,M,ρ,Q,s,c,q,k⟩:=h;exact low2 s c q λx y f i b d e n j a l g=>⟨x,y,b,d,Q,n,a,l,g,λv H' w=>k v H'<|VQ.trans j w⟩
def d_op(B:J2 X (j9 op) r)(f:DE X a ta)(d:DE X b tb):DE X (.BinOp a op b pos) (t6 r ta tb):=PE.imp (pe_op B f d) qM
def d_cmp(B:J2 X (k4 op) r)(f:DE X a ta)(d:DE X b tb)(m:k6 op b=c5:=by with_unfolding_all rfl):DE X (.Compare a [op] [b] pos) (t6 r ta tb):=PE.imp (Fj B f d m) qM
def ar(t:A3):G9:=λS M Q=>t S M λx a=>match x with
 |.bl b=>Q b a
 |_=>False
def nG{K:u6}{t:A3}(σ:St)(H:Hp)(R:Bool->Hp->Prop)(h:lowT K (ar t) σ H R):EH (lowE K t) σ H R:=by
 obtain⟨S,M,ρ,Q,s,r,q,k⟩:=h;refine⟨S,M,ρ,_,s,r,q,?_⟩;rintro v H' ⟨d,c,a,s',g,r',j⟩;cases r' with
 |bl b=>exact⟨b,rfl,k b H' ⟨c,a,s',g,j⟩⟩
 |_=>exact j.elim
def JL(B:J2 X (k4 op) r)(f:DE X a ta)(d:DE X b tb)(m:k6 op b=c5:=by with_unfolding_all rfl):DT X (.Compare a [op] [b] pos) (ar<|t6 r ta tb):=by refine PT.imp (EZ B f d m) λσ H R h=>?_;obtain⟨S,M,ρ,Q,s,c,q,k⟩:=nG σ H R h;exact qM σ H _ ⟨S,M,ρ,Q,s,c,q,k⟩
def JJ(h:DE X e t)(i:∀whole,isTrue e X.env whole=(do let v <-whole;standAt e.pos;i9 [v] (truthy v)):=by intro _;rfl):DT X e (ar t):=PT.imp (HN h i) nG
def P5(z:D)(k:Bool->Prop):Prop:=match z with
 |.bl b=>k b
 |_=>False
def wI{b:Bool}{k:Bool->Prop}:P5 (.bl b) k=k b:=rfl
def gF(r r':J4)(t f g:A3):A3:=λS M Q=>t S M λx c=>f S c λy d=>r x y d λz a=>P5 z λb=>if b=a9 then g S a λw e=>r' y w e Q else Q (.bl c5) a
def pW{K:u6}{r r':J4}(σ:St)(H:Hp)(R:VK)(h:lowE K (gF r r' ta tb tc) σ H R):zg (lowR K r) (lowR K r') (lowE K ta) (lowE K tb) (lowE K tc) σ H R:=by
 obtain⟨S,M,ρ,Q,s,m,q,k⟩:=h;refine low2 s m q λx y G I o e D B j A l t=>⟨x,y,o,e,_,B,A,l,t,?_⟩
 rintro J n ⟨z,c,a,i,g3,C,d⟩;cases C with
 |bl b =>
  cases b with
  |false=>exact⟨c5,rfl,fP<|k _ n ⟨_,c,a,i,j.trans g3,.bl c5,(show Q (.bl c5) c from d)⟩⟩
  |true=>refine⟨a9,rfl,eG ⟨S,c,a,_,i,m.grow<|j.trans g3,(show tc S c _ from d),?_⟩⟩;rintro F E ⟨w,p,f,P,g,L,u⟩;exact⟨y,w,p,f,Q,P,l.grow<|g3.trans g,L,u,λv H' Y=>k v H'<|VQ.trans ((j.trans g3).trans g) Y⟩
 |_=>exact d.elim
def GO(B:J2 X (k4 op) r)(h:J2 X (k4 op') r')(f:DE X a ta)(d:DE X b tb)(e:DE X c tc)(m:lastMarks [op,op'] [b,c]=c5:=by with_unfolding_all rfl):DE X (.Compare a [op,op'] [b,c] pos) (gF r r' ta tb tc):=PE.imp (Ct B h f d e m) pW
def Ds(B:J2 X (k4 op) r)(d:J2 X (k4 op') r')(f:DE X a ta)(e:DE X b tb)(g:DE X c tc)(m:lastMarks [op,op'] [b,c]=c5:=by with_unfolding_all rfl):DT X (.Compare a [op,op'] [b,c] pos) (ar<|gF r r' ta tb tc):=by refine PT.imp (Cm B d f e g m) λσ H R h=>?_;obtain⟨S,M,ρ,Q,s,i,q,k⟩:=nG σ H R h;exact pW σ H _ ⟨S,M,ρ,Q,s,i,q,k⟩
variable{tA tB:G9}{aO:List i3}
def Ke(t u:G9):G9:=λS M Q=>t S M λb a=>if b=a9 then u S a Q else Q c5 a
def Fn(t u:G9):G9:=λS M Q=>t S M λb a=>if b=a9 then Q a9 a else u S a Q
def cM(t:G9):G9:=λS M Q=>t S M λb a=>Q (!b) a
def Gy(f:DT X a tA):DW X (.BoolOp .And [a] pos) tA:=EV f
def JF(f:DT X a tA):DW X (.BoolOp .Or [a] pos) tA:=HL f
def JG(h:DT X a tA)(i:DW X (.BoolOp .And (b::aO) pos) tB):DW X (.BoolOp .And (a::b::aO) pos) (Ke tA tB):=by
 refine PW.imp (HM h i) ?_;rintro σ H R ⟨S,M,ρ,Q,s,r,q,k⟩;refine⟨S,M,ρ,_,s,r,q,?_⟩;rintro c H1 ⟨e,d,g,g1,f⟩;cases c with
 |true=>exact eG ⟨S,e,d,Q,g,r.grow g1,(show tB S e Q from f),λv H' w=>k v H'<|BQ.trans g1 w⟩
 |false=>exact fP<|k c5 H1 ⟨e,d,g,g1,f⟩
def dw_or(h:DT X a tA)(i:DW X (.BoolOp .Or (b::aO) pos) tB):DW X (.BoolOp .Or (a::b::aO) pos) (Fn tA tB):=by
 refine PW.imp (pw_or h i) ?_;rintro σ H R ⟨S,M,ρ,Q,s,r,q,k⟩;refine⟨S,M,ρ,_,s,r,q,?_⟩;rintro c H1 ⟨e,d,g,g1,f⟩;cases c with
 |false=>exact fP ⟨S,e,d,Q,g,r.grow g1,(show tB S e Q from f),λv H' w=>k v H'<|BQ.trans g1 w⟩
 |true=>exact eG<|k a9 H1 ⟨e,d,g,g1,f⟩
def dw_t(h:DW X e t):DT X e t:=PW.pt h
def JK(f:DT X a tA):DT X (.UnaryOp .Not a pos) (cM tA):=by refine PT.imp (HP f) ?_;rintro σ H R ⟨S,M,ρ,Q,s,r,q,k⟩;refine⟨S,M,ρ,_,s,r,q,?_⟩;rintro c H1 ⟨d,b,g,g1,e⟩;exact k (!c) H1 ⟨d,b,g,g1,e⟩
def eu(t c:A3):A3:=λS M Q=>t S M λx a=>P5 x λb=>if b=a9 then c S a Q else Q (.bl c5) a
def Bf(t:A3):A3:=λS M Q=>t S M λx a=>match x with
 |.bl b=>Q (.bl<|!b) a
 |_=>False
def d_one{op}(h:DE X a ta):DE X (.BoolOp op [a] pos) ta:=Ic h
def d_and(i:DE X a ta)(j:DE X (.BoolOp .And (b::aO) pos) tb):DE X (.BoolOp .And (a::b::aO) pos) (eu ta tb):=by
 refine PE.imp (Ij i j) ?_;rintro σ H R ⟨S,M,ρ,Q,s,r,q,k⟩;refine⟨S,M,ρ,_,s,r,q,?_⟩;rintro v H1 ⟨d,f,e,h,g1,l,g⟩;cases l with
 |bl c =>
  cases c with
  |true=>exact⟨a9,rfl,eG ⟨S,f,e,Q,h,r.grow g1,(show tb S f Q from g),λv H' w=>k v H'<|VQ.trans g1 w⟩⟩
  |false=>exact⟨c5,rfl,fP<|k _ H1 ⟨_,f,e,h,g1,.bl c5,(show Q (.bl c5) f from g)⟩⟩
 |_=>exact g.elim
def d_not(h:DE X a ta):DE X (.UnaryOp .Not a pos) (Bf ta):=by
 refine PE.imp (Ie h) ?_;rintro σ H R ⟨S,M,ρ,Q,s,i,q,k⟩;refine⟨S,M,ρ,_,s,i,q,?_⟩;rintro v H1 ⟨d,f,b,g,g1,r,e⟩;cases r with
 |bl c=>exact⟨c,rfl,k _ H1 ⟨_,f,b,g,g1,.bl<|!c,e⟩⟩
 |_=>exact e.elim
variable{e:i3}{es:List i3}{te:A3}{t:I9}
def af:I9:=λ_ M Q=>Q [] M
def aa(te:A3)(t:I9):I9:=λS M Q=>te S M λd a=>t S a λds b=>Q (d::ds) b
def JX:DA X [] af:=by refine PA.imp zP ?_;rintro σ H R ⟨S,M,ρ,Q,s,c,q,k⟩;exact k [] H ⟨[],M,ρ,s,.refl,.nil,q⟩
def GL(h:DE X e te)(i:DA X es t)(hs:i7 (e::es) X.env=(c5,eval e X.env)::i7 es X.env:=by rfl):DA X (e::es) (aa te t):=by refine PA.imp (ng h i hs) ?_;rintro σ H R ⟨S,M,ρ,Q,s,r,q,k⟩;refine⟨S,M,ρ,_,s,r,q,?_⟩;rintro v H1 ⟨d,f,c,p,g1,n,l⟩;refine⟨S,f,c,_,p,r.grow g1,l,?_⟩;rintro vs b ⟨ds,g,a,u,j,o,m⟩;exact k _ b ⟨d::ds,g,a,u,g1.trans j,.cons (n.grow j) o,m⟩
def bc(t:I9):A3:=λS M Q=>t S M λds a=>ds.length<=sizeLine/\Q (.tup ds) a
def cq(t:I9):A3:=λS M Q=>t S M λds a=>ds.length<=sizeLine/\Q (.ref a.length) (a++[.lst ds])
def VQ.laidT{K:u6}{ρ c:List d6}{H H1:Hp}{a:t7}{ds:List D}{vs:List V}{Q:DK}{p:d6}(s:v4 K c a H1)(g1:Grow K ρ H c H1)(r:Reps K c H1 ds vs)(h:H1 p=a8)(q:Q (.tup ds) a):VQ K ρ H Q (.ref p) (v8 H1 p<|.tup vs):=⟨.tup ds,a,c,s.laid h,g1.trans<|Grow.laid h,.tup (D0.of aI)<|r.grow<|Grow.laid h,q⟩
def VQ.laidL{K:u6}{ρ c:List d6}{H H1:Hp}{a:t7}{ds:List D}{vs:List V}{Q:DK}{p:d6}(s:v4 K c a H1)(g1:Grow K ρ H c H1)(r:Reps K c H1 ds vs)(h:H1 p=a8)(q:Q (.ref a.length) (a++[.lst ds])):VQ K ρ H Q (.ref p) (v8 H1 p<|.lst vs):=⟨.ref a.length,a++[.lst ds],c++[p],s.laidL h r,g1.trans<|Grow.laidR h,.ref s.last,q⟩
def d_tup{x1}(h:DA X es t):DE X (.Tuple es x1 pos) (bc t):=by refine PE.imp (Ia h) ?_;rintro σ H R ⟨S,M,ρ,Q,s,d,q,k⟩;refine⟨S,M,ρ,_,s,d,q,?_⟩;rintro vs H1 ⟨ds,f,e,c,g1,r,z,b⟩;exact⟨by rw[<-r.length];exact z,λp a=>k _ _<|VQ.laidT c g1 r a b⟩
def d_lst(h:DA X es t):DE X (.List es pos) (cq t):=by refine PE.imp (Ih h) ?_;rintro σ H R ⟨S,M,ρ,Q,s,d,q,k⟩;refine⟨S,M,ρ,_,s,d,q,?_⟩;rintro vs H1 ⟨ds,f,e,c,g1,r,z,b⟩;exact⟨by rw[<-r.length];exact z,λp a=>k _ _<|VQ.laidL c g1 r a b⟩
def u0(r:J3)(t:I9):A3:=λS M Q=>t S M λds a=>r ds a Q
def Aa{K:u6}{r:J3}(σ:St)(H:Hp)(R:VK)(h:lowE K (u0 r t) σ H R):PZ (BC K r) (lowA K t) σ H R:=by obtain⟨S,M,ρ,Q,s,f,q,k⟩:=h;refine⟨S,M,ρ,_,s,f,q,?_⟩;rintro vs H1 ⟨ds,a,c,e,g1,d,b⟩;exact⟨ds,a,c,Q,e,d,b,λv H' w=>k v H'<|VQ.trans g1 w⟩
theorem GP{x:c8}{p:i5}{id:String}{r:J3}(c:ou X (.builtin id) r)(d:X.mg x=a8)(v:f7 x=a7 (.builtin id))(f:DA X (e::es) t)(S:Gl X x:=by rfl)(n:x≠"__name__":=by decide)(b:(x==("__debug__":c8))=c5:=by decide)(i:i7 (e::es) X.env=(c5,eval e X.env)::i7 es X.env:=by rfl) (l:(i6 pos<|i7 es X.env).any (·.1)=c5:=by rfl):DE X (.Call (.Name x p) (e::es) [] pos) (u0 r t):=PE.imp (qD c S d v f n b i l) Aa
def Dy(c:ou X (.type T) r)(d:X.mg x=a8)(v:f7 x=a7 (.type T))(f:DA X (e::es) t)(S:Gl X x:=by rfl)(n:x≠"__name__":=by decide)(b:(x==("__debug__":c8))=c5:=by decide)(i:i7 (e::es) X.env=(c5,eval e X.env)::i7 es X.env:=by rfl) (l:(i6 pos<|i7 es X.env).any (·.1)=c5:=by rfl):DE X (.Call (.Name x p) (e::es) [] pos) (u0 r t):=PE.imp (zM c S d v f n b i l) Aa
abbrev A7:=List D->t7->DK->Prop
def Lv(K:u6)(P:A7):Sp:=λvs H Q _=>∃ds M ρ R,v4 K ρ M H/\Reps K ρ H ds vs/\P ds M R/\∀v H',VQ K ρ H R v H'->Q v H'
def zZ{K:u6}{P:A7}(σ:St)(H:Hp)(R:VK)(h:lowE K (u0 P t) σ H R):Hu (Lv K P) [] E0 (lowA K t) σ H R:=by obtain⟨S,M,ρ,Q,s,e,q,k⟩:=h;exact⟨S,M,ρ,_,s,e,q,λvs H1 ⟨ds,a,c,d,g1,r,b⟩=>⟨ds,a,c,Q,d,by rw[Lh];exact r,b,λv H' w=>k v H'<|VQ.trans g1 w⟩⟩
def Kc(F:FnOk X.prog X.w X.K X.mg X.base G3 k f fd ps (Lv X.K P))(r:Room k X.A)(m:X.mg x=a7 (.ref f))(h:Mt X.K (.ref f)=a9)(d:oR X.K fd ps [])(a:DA X (e::es) t) (S:Gl X x:=by rfl) (b:(x==("__debug__":c8))=c5:=by decide) (i:i7 (e::es) X.env=(c5,eval e X.env)::i7 es X.env:=by rfl) (l:(i6 pos<|i7 es X.env).any (·.1)=c5:=by rfl):DE X (.Call (.Name x p) (e::es) [] pos) (u0 P t):=PE.imp (Fm F r S m h d .nil pass0 a b i l) zZ
end
def aK:t9:=λE S M=>E.nx S M
def aC(t u:t9):t9:=λE S M=>t { E with nx:=λb a=>u E b a } S M
def JP:Ma X [] aK:=by refine Kz.imp Fb ?_;rintro E σ H ⟨S,M,ρ,F,s,c,q,k⟩;exact k.nx σ H ⟨S,M,ρ,s,.refl,c,q⟩
def JO{X:Cx}{st:i8}{t:t9}(h:DS X st t):Ma X [st] t:=Fa h
def GE{X:Cx}{st:i8}{aO:List i8}{t u:t9}(h1:DS X st t)(h2:Ma X aO u):Ma X (st::aO) (aC t u):=by refine Kz.imp (Cn h1 h2) ?_;rintro E σ H ⟨S,M,ρ,F,s,r,q,k⟩;exact⟨S,M,ρ,_,s,r,q,⟨λe H' ⟨d,c,b,s',g,a,j⟩=>⟨d,c,b,F,s',a,j,k.trans g⟩,k.rt,k.bk,k.ct⟩⟩
def nZ(te:A3):t9:=λE S M=>te S M λ_ a=>E.nx S a
def GC(i:DE X e te)(hs:j0 e a8 pos.line X.env=pure c5:=by rfl):DS X (.Expr e pos) (nZ te):=by refine PS.imp (Fc i hs) ?_;rintro E σ H ⟨S,M,ρ,F,s,r,q,k⟩;refine⟨S,M,ρ,_,s,r,q,?_⟩;rintro v H1 ⟨d,a,c,f,g1,g,b⟩;exact k.nx σ H1 ⟨S,a,c,f,g1,r.grow g1,b⟩
def be(te:A3):t9:=λE S M=>te S M E.rt
def JN(i:DE X e te):DS X (.Return (a7 e) pos) (be te):=by refine PS.imp (HR i) ?_;rintro E σ H ⟨S,M,ρ,F,s,c,q,k⟩;exact⟨S,M,ρ,_,s,c,q,λv H1 w=>k.rt v H1 w⟩
def A6(c:G9)(t u:t9):t9:=λE S M=>c S M λb a=>if b=a9 then t E S a else u E S a
def ds_if(j:DT X c tc)(h:Ma X a t)(i:Ma X b u):DS X (.If c a b pos) (A6 tc t u):=by
 refine PS.imp (ps_if j h i) ?_;rintro E σ H ⟨S,M,ρ,F,s,r,q,k⟩;refine⟨S,M,ρ,_,s,r,q,?_⟩;rintro c H1 ⟨e,d,g,g1,f⟩;cases c with
 |true=>exact eG ⟨S,e,d,F,g,r.grow g1,(show t F S e from f),k.trans g1⟩
 |false=>exact fP ⟨S,e,d,F,g,r.grow g1,(show u F S e from f),k.trans g1⟩
def bD(te:A3)(i:Nat):t9:=λE S M=>te S M λd a=>E.nx (S.set i<|a7 d) a
def JM(h:X.N.Nodup)(b:DE X e te)(hi:X.N[i]?=a7 x:=by rfl)(g:MZ X.env.scope x:=by first|exact Or.inl rfl|exact Or.inr rfl)(hs:j0 e (a7<|.Name x pos') pos.line X.env=pure c5:=by rfl)(f:X.fn x=a9\/X.env.scope.names.lookup x=a7 .local:=by first|exact .inl rfl|exact .inr rfl|assumption):DS X (.Assign [.Name x pos'] e pos) (bD te i):=by refine PS.imp (HQ h hi g b hs f) ?_;rintro E σ H ⟨S,M,ρ,F,s,r,q,k⟩;refine⟨S,M,ρ,_,s,r,q,?_⟩;rintro v H1 ⟨d,a,c,m,g1,l,j⟩;exact k.nx _ H1 ⟨_,a,c,m,g1,(r.grow g1).set i l,j⟩
def al(i:Nat):KR:=λd S M Q=>Q (S.set i<|a7 d) M
def vN(h:X.N.Nodup)(hi:X.N[i]?=a7 x:=by rfl)(a:MZ X.env.scope x:=by first|exact Or.inl rfl|exact Or.inr rfl)(f:X.fn x=a9\/X.env.scope.names.lookup x=a7 .local:=by first|exact .inl rfl|exact .inr rfl|assumption):DG X (.Name x pos) (al i):=λp s σ H v u R I r ⟨d,S,M,ρ,Q,m,c,b,q,k⟩=>Fh h hi a f p s σ H v u R I r<|k _ H ⟨_,M,ρ,m,.refl,c.set i b,q⟩
def xC{P:d5}{w:c9}{K:u6}{Z:i3}(it:d6)(n:Nat)(M:Nat->c6->Prop)(PX:Nat->V->Prop)(Sx:Nat->d8->Prop)(W:∀A':f8,A'.handled=a8->Walks P w A' it [it] [it] n M Sx) (l:∀i v,M i v->∃x,aR x v/\PX i x)(j:∀i h,Sx i h->∃(o:d7) (nm:String) (vs:Array c6),h.get? it=a7 o/\o.cls=.type nm/\o.data=.fields vs/\["enumerate","zip","dict_itemiterator","dict_reverseitemiterator","odict_iterator","itertools.zip_longest","itertools.pairwise"].contains nm=c5)(a:∀(i:Nat) (h h':d8),Sx i h->(∀o,h.get? it=a7 o->h'.get? it=a7 o)->Sx i h')(g:∀(A:f8) (i:Nat) (s:f9) (Q:c6->f9->Prop) (E:c6->f9->Prop),Sx i s.heap->Q (.ref it) s->i0 (i4 P w) A (j6<|.ref it) Q E s):Turn P w K Z ⟨λi _=>i<n,λi H x H'=>H'=H/\PX i x,λi _=>i=n⟩ [it] it Sx where
 mem:=by simp
 obj:=λi h st b f=>by
  have e:b=it:=by simpa using f
  subst e;obtain⟨o,nm,vs,e,_,d,_⟩:=j i h st;exact⟨o,e,λv z=>by rw[d]at z;cases z⟩
 keep:=λi h h' st k=>a i h h' st λo e=>k it b9 o e
 item:=by intro X D G C F i p s σ H E I q st S;subst D G C;obtain⟨r,t,O,u,y,B⟩:=q it b9;refine(W X.A<|I.ok.hd F).item i s _ _ S st λv h' L T m J=>?_;obtain⟨x,Y,U⟩:=l i v T;have N:t5 X p σ H { s with heap:=h',toks:=L }:=I.turned (λb o f e=>J b o eh e) r t u y B;obtain⟨o,nm,vs,e,c,d,R⟩:=j _ _ m;exact⟨v,rfl,AJ (s:={ s with heap:=h',toks:=L }) e c d R ⟨x,H,N,Y,⟨rfl,U⟩,m,λb f=>(q b f).1⟩⟩
 done:=by intro X D G C F i p s σ H E I q st S;subst D G C;obtain⟨r,t,O,u,y,B⟩:=q it b9;have hi:i=n:=S;subst hi;exact(W X.A<|I.ok.hd F).done s _ _ st λh' L J=>⟨rfl,I.turned (λb o f e=>J b o eh e) r t u y B⟩
 self:=g
noncomputable def kr(x:c8):List D:=x.cps.toList.map λc=>.str ⟨#[c]⟩
structure O4 where
 items:List D
 ok:t7->Prop
abbrev Lz:=SD->t7->(O4->t7->Prop)->Prop
structure KA(K:u6)(src:O4)(ρ0:List d6)(H0:Hp)(J:It):Prop where
 go:∀(i:Nat) ρ M H,v4 K ρ M H->Grow K ρ0 H0 ρ H->src.ok M->i<src.items.length->J.go i H
 yld:∀(i:Nat) ρ M H x H',v4 K ρ M H->Grow K ρ0 H0 ρ H->src.ok M->i<src.items.length->J.yld i H x H'->∃d ρ',src.items[i]?=a7 d/\v4 K ρ' M H'/\Grow K ρ H ρ' H'/\u7 K ρ' H' d x
 stop:∀(ρ:List d6) M H,v4 K ρ M H->Grow K ρ0 H0 ρ H->src.ok M->J.stop src.items.length H
def IQ(K:u6)(ρ:List d6)(H:Hp)(Q:O4->t7->Prop):It->Hp->Prop:=λJ H'=>∃src M a,v4 K a M H'/\Grow K ρ H a H'/\KA K src a H' J/\Q src M
def lowI(K:u6)(i:Lz):TI:=λσ H R=>∃S M ρ Q,v4 K ρ M H/\SRep K ρ H S σ/\i S M Q/\∀J H',IQ K ρ H Q J H'->R J H'
def DI(X:Cx)(g r:i3)(i:Lz):Prop:=PI X g r<|lowI X.K i
def KA.tup{K:u6}{ρ:List d6}{H:Hp}{a:d6}{vs:List V}{ds:List D}(h:D0 K H a vs)(r:Reps K ρ H ds vs)(q:∀ys,D0 K H a ys->ys=vs):KA K ⟨ds,λ_=>True⟩ ρ H (QL K a) where
 go:=λi b M H' s g _ hi=>by
  have l:i<vs.length:=by rw[<-r.length];exact hi
  exact⟨vs,vs[i],g.tup a vs h,A1 l⟩
 yld:=λi b M H' x f s g _ hi y=>by obtain⟨rfl,y⟩:=y;obtain⟨d,c,e⟩:=(r.grow g).getV<|y vs<|g.tup a vs h;exact⟨d,b,c,s,.refl,e⟩
 stop:=λb M H' s g _=>⟨vs,g.tup a vs h,by rw[<-r.length];exact v7 _⟩
def KA.lst{K:u6}{ρ:List d6}{H:Hp}{n:Nat}{a:d6}{ds:List D}(e:ρ[n]?=a7 a):KA K ⟨ds,λM=>ah M n ds⟩ ρ H (QM K a) where
 go:=λi b M H' s g ok hi=>by
  obtain⟨vs,h,r⟩:=ah.seq s ok<|aW g.pre e;have l:i<vs.length:=by rw[<-r.length];exact hi
  exact⟨vs,vs[i],h,A1 l⟩
 yld:=λi b M H' x j s g ok hi y=>by obtain⟨rfl,y⟩:=y;obtain⟨vs,h,r⟩:=ah.seq s ok<|aW g.pre e;obtain⟨d,c,f⟩:=r.getV<|y vs h;exact⟨d,b,c,s,.refl,f⟩
 stop:=λb M H' s g ok=>by obtain⟨vs,h,r⟩:=ah.seq s ok<|aW g.pre e;exact⟨vs,h,by rw[<-r.length];exact v7 _⟩
def KA.plain{K:u6}{ρ:List d6}{H:Hp}{ds:List D}{J:It}(S:∀i H,i<ds.length->J.go i H)(O:∀i H x H',i<ds.length->J.yld i H x H'->H'=H/\∃d,ds[i]?=a7 d/\cV d=a7 x)(hs:∀H,J.stop ds.length H):KA K ⟨ds,λ_=>True⟩ ρ H J where
 go:=λi a M H' s g _ hi=>S i H' hi
 yld:=λi a M H' x b s g _ hi y=>by obtain⟨rfl,d,h,c⟩:=O i _ x b hi y;exact⟨d,a,h,s,.refl,Bo c⟩
 stop:=λa M H' s g _=>hs H'
def bK(te:A3):Lz:=λS M R=>te S M λd a=>match d with
 |.tup ds=>ds.length<=sizeLine->R ⟨ds,λ_=>True⟩ a
 |.str x=>R ⟨kr x,λ_=>True⟩ a
 |.ref n=>∃xs,ah a n xs/\(xs.length<=sizeLine->R ⟨xs,λM=>ah M n xs⟩ a)
 |_=>False
def JU(hl:DE X l tl):DI X tg l (bK tl):=by
 intro m s σ H R I h;obtain⟨S,M,ρ,Q,sm,sr,q,k⟩:=h;refine v6 (hl m s σ H _ I ⟨S,M,ρ,_,sm,sr,q,λv H' w=>w⟩) ?_;rintro u f ⟨v,H1,g,T,d,D,C,j,g1,r1,B⟩;cases r1 with
 |non=>exact B.elim
 |bl b=>exact B.elim
 |int i=>exact B.elim
 |ty n=>exact B.elim
 |@tup a vs ds J r =>
  cases T;obtain⟨its,rr,p,P⟩:=g.tuple J;refine Pv (show f.heap.IsTuple a its.toArray from p) ?_;refine⟨f.heap.objs.size,[f.heap.objs.size],_,_,H1,rfl,g.kept (t':=f.toks) λb o e=>w5 _ e,oS a _,⟨_,B6 _ rfl,rfl,rfl⟩,λb G=>?_,k _ H1 ⟨⟨ds,λ_=>True⟩,D,C,j,g1,KA.tup J r λys hy=>g.tuple_inj hy J,?_⟩⟩;have e:b=f.heap.objs.size:=by simpa using G
  subst e;exact g.fpOk (v7 _)<|g.hok.fresh<|v7 _;exact(show ds.length<=sizeLine->Q ⟨ds,λ_=>True⟩ D from B)<|by rw[r.length];exact P
 |@ref n a V =>
  cases T;obtain⟨xs,hL,q2⟩:=(show ∃xs,ah D n xs/\(xs.length<=sizeLine->Q ⟨xs,λM=>ah M n xs⟩ D)from B)
  obtain⟨vs,J,r⟩:=ah.seq j hL V;obtain⟨its,rr,p,P⟩:=g.list J;refine OQ p.isList ?_;refine⟨f.heap.objs.size,[f.heap.objs.size],_,_,H1,rfl,g.kept (t':=f.toks) λb o e=>w5 _ e,rV a _,⟨_,B6 _ rfl,rfl,rfl⟩,λb G=>?_,k _ H1 ⟨⟨xs,λM=>ah M n xs⟩,D,C,j,g1,KA.lst V,q2<|by rw[r.length];exact P⟩⟩;have e:b=f.heap.objs.size:=by simpa using G
  subst e;exact g.fpOk (v7 _)<|g.hok.fresh<|v7 _
 |str x =>
  obtain⟨t,rfl⟩:=T;have F:∀(z:String) (K:d7),(K.cls=.type z/\K.data=.fields #[.str x t,.int 0 0]) -> (∀L:f8,L.handled=a8->Walks X.prog X.w L f.heap.objs.size [f.heap.objs.size] [f.heap.objs.size] x.cps.size (SignAt x) (λi h=>h.IsStrIter f.heap.objs.size z x t i)) -> (∀(A:f8) (i:Nat) (s:f9) (Q:c6->f9->Prop) (E:c6->f9->Prop),s.heap.IsStrIter f.heap.objs.size z x t i->Q (.ref f.heap.objs.size) s->i0 (i4 X.prog X.w) A (j6<|.ref f.heap.objs.size) Q E s) -> ["enumerate","zip","dict_itemiterator","dict_reverseitemiterator","odict_iterator","itertools.zip_longest","itertools.pairwise"].contains z=c5->(f.heap.push K).IsStrIter f.heap.objs.size z x t 0 -> O5 X m σ tg R (.ref f.heap.objs.size) { f with heap:=f.heap.push K }:=λz K ab W y O st=>by
   refine⟨f.heap.objs.size,[f.heap.objs.size],_,_,H1,rfl,g.kept (t':=f.toks) λb o e=>w5 _ e,xC (PX:=λi v=>∃c,x.cps[i]?=a7 c/\v=.str ⟨#[c]⟩) _ _ _ _ W (λi v ⟨c,u,Y,Z⟩=>⟨.str ⟨#[c]⟩,⟨u,Z⟩,c,Y,rfl⟩) (λi h st=>?_) (λi h h' st k=>?_) y,st,λb G=>?_,k _ H1 ⟨⟨kr x,λ_=>True⟩,D,C,j,g1,KA.plain ?_ ?_ ?_,B⟩⟩;obtain⟨o,e,c,d⟩:=st;exact⟨o,z,_,e,c,d,O⟩;obtain⟨o,e,r⟩:=st;exact⟨o,k o e,r⟩;have e:b=f.heap.objs.size:=by simpa using G
   subst e;exact g.fpOk (v7 _)<|g.hok.fresh<|v7 _;intro i _ hi;simpa [kr]using hi;rintro i H x' H' _ ⟨rfl,c,e,rfl⟩;exact⟨rfl,.str ⟨#[c]⟩,by simp[kr,e],rfl⟩;intro H;simp[kr]
  cases U:x.cps.all (· < 128);exact wpAny_pyIter_wide U<|F _ _ ⟨rfl,rfl⟩ (λL N=>Walks.strWide N _ x t) (λ_ _ _ _ _ st h=>wpAny_pyIter_striter_wide st h) b0 ⟨_,B6 _ rfl,rfl,rfl⟩;exact wpAny_pyIter_ascii U<|F _ _ ⟨rfl,rfl⟩ (λL N=>Walks.strAscii N _ x t) (λ_ _ _ _ _ st h=>wpAny_pyIter_striter_ascii st h) b0 ⟨_,B6 _ rfl,rfl,rfl⟩
noncomputable def kY(lo:Int)(n:Nat):List D:=(B7 n).map λi=>.int<|lo+((i:Nat):Int)
def KA.rng{K:u6}{ρ:List d6}{H:Hp}(lo:Int)(n:Nat):KA K ⟨kY lo n,λ_=>True⟩ ρ H (Nw lo n):=by
 refine KA.plain (λi _ hi=>?_) (λi H x H' hi y=>?_) λH=>?_;show i<n;simpa [kY]using hi;obtain⟨e,rfl⟩:=y;have h:i<n:=by simpa [kY]using hi
 exact⟨e,.int<|lo+i,by simp[kY,h],rfl⟩;show n<=(kY lo n).length;simp[kY]
def bJ(t:I9):Lz:=λS M R=>t S M λds a=>match ds with
 | [.int j]=>(-(2 ^ 62)<=j/\j<2 ^ 62)/\R ⟨kY 0 j.toNat,λ_=>True⟩ a
 |_=>False
def jv(t:I9):Lz:=λS M R=>t S M λds a=>match ds with
 | [.int i,.int j]=>(-(2 ^ 62)<=i/\i<2 ^ 62/\-(2 ^ 62)<=j/\j<2 ^ 62)/\R ⟨kY i (j-i).toNat,λ_=>True⟩ a
 |_=>False
def PI.imp(h:PI X tg iter t')(i:∀σ H R,t σ H R->t' σ H R):PI X tg iter t:=λp s σ H R I q=>h p s σ H R I<|i σ H R q
def nH{K:u6}{d:I9}(σ:St)(H:Hp)(R:It->Hp->Prop)(h:lowI K (bJ d) σ H R):Gn (lowA K d) σ H R:=by
 obtain⟨S,M,ρ,Q,s,i,q,k⟩:=h;refine⟨S,M,ρ,_,s,i,q,?_⟩;rintro vs H1 ⟨ds,e,c,f,g1,a,b⟩
 try dsimp only at b
 split at b;rename_i j;obtain⟨⟨h1,h2⟩,g⟩:=b
 first|have z:=Reps.inv_cons a|have z:=az.inv_cons a
 clear a;obtain⟨_,_,rfl,r,t⟩:=z;cases r;cases t;exact⟨j,rfl,h1,h2,k _ H1 ⟨_,e,c,f,g1,KA.rng 0 j.toNat,g⟩⟩;exact b.elim
def AZ(d:X.mg "range" = a8)(f:DA X [a] ta)(S:Gl X "range":=by rfl)(hs:i7 [a] X.env=[(c5,eval a X.env)]:=by rfl):DI X tg (.Call (.Name "range" p) [a] [] pos) (bJ ta):=PI.imp (zH S d f hs) nH
def AY(n:X.mg "range" = a8)(l:DA X [a,b] ta)(m:Gl X "range":=by rfl)(hs:i7 [a,b] X.env=[(c5,eval a X.env),(c5,eval b X.env)]:=by rfl)(d:i7 [b] X.env=[(c5,eval b X.env)]:=by rfl):DI X tg (.Call (.Name "range" p) [a,b] [] pos) (jv ta):=by
 refine PI.imp (zG m n l hs d) ?_;rintro σ H R ⟨S,M,ρ,Q,s,v,q,k⟩;refine⟨S,M,ρ,_,s,v,q,?_⟩;rintro vs H1 ⟨ds,g,f,u,g1,e,c⟩
 try dsimp only at c
 split at c;rename_i i j;obtain⟨h,o⟩:=c
 first|have z:=Reps.inv_cons e|have z:=az.inv_cons e
 clear e;obtain⟨_,_,rfl,r,t⟩:=z;cases r;cases t with
 |cons r t=>cases r;cases t;exact⟨i,j,rfl,h,k _ H1 ⟨_,g,f,u,g1,KA.rng i (j-i).toNat,o⟩⟩
 exact c.elim
section
mutual
inductive D5(k:Nat):D->Prop
 |non:D5 k .non
 |bl (b:Bool):D5 k (.bl b)
 |int (i:Int):D5 k (.int i)
 |str (x:c8):D5 k (.str x)
 |ty (n:String):D5 k (.ty n)
 |tup {ds:List D} (h:Bels k ds):D5 k (.tup ds)
 |ref {n:Nat} (h:n<k):D5 k (.ref n)
inductive Bels(k:Nat):List D->Prop
 |nil:Bels k []
 |cons {d:D}{ds:List D} (h:D5 k d) (t:Bels k ds):Bels k (d::ds)
end
noncomputable def MO.items:MO->List D
 |.lst xs=>xs
 |.fz xs=>xs
 |.kl xs=>xs
 |.dct kvs=>kvs.map (·.2)
 |.dkt kvs=>kvs.map (·.2)
 |.dkq _ kvs=>kvs.map (·.2)
 |.fdc _ kvs=>kvs.map (·.2)
 |.dkm kvs=>kvs.map (·.2)
 |.tb _ _=>[]
 |.exc _ _=>[]
 |.ins _ fs=>fs.map (·.2)
 |.tl _ _ _ _=>[]
def u7.bel{K:u6}{ρ:List d6}{H:Hp}{d:D}{v:V}(h:u7 K ρ H d v):D5 ρ.length d:=u7.rec (motive_1:=λd v _=>D5 ρ.length d) (motive_2:=λds vs _=>Bels ρ.length ds) .non .bl .int .str .ty (λ_ _ r=>.tup r) (λh=>.ref (B5.mp h).1) .nil (λ_ _ h t=>.cons h t) h
def Reps.bel{K:u6}{ρ:List d6}{H:Hp}{ds:List D}{vs:List V}(h:Reps K ρ H ds vs):Bels ρ.length ds:=Reps.rec (motive_1:=λd v _=>D5 ρ.length d) (motive_2:=λds vs _=>Bels ρ.length ds) .non .bl .int .str .ty (λ_ _ r=>.tup r) (λh=>.ref (B5.mp h).1) .nil (λ_ _ h t=>.cons h t) h
def D5.inv(b:D5 k d):(∀ds,d=.tup ds->Bels k ds)/\∀n,d=.ref n->n<k:=by
 cases b with
 |tup b=>exact⟨(λ_ e=>by injection e with e;exact e ▸ b),(λ_ e=>by cases e)⟩
 |ref b=>exact⟨(λ_ e=>by cases e),(λ_ e=>by injection e with e;exact e ▸ b)⟩
 |_=>exact⟨(λ_ e=>by cases e),(λ_ e=>by cases e)⟩
def Bels.inv{k:Nat}{d:D}{ds:List D}(b:Bels k (d::ds)):D5 k d/\Bels k ds:=by
 cases b with
 |cons b c=>exact⟨b,c⟩
def u7.cut{K:u6}{ρ:List d6}{H:Hp}{k:Nat}{d:D}{v:V}(h:u7 K ρ H d v):D5 k d->u7 K (ρ.take k) H d v:=u7.rec (motive_1:=λd v _=>D5 k d->u7 K (ρ.take k) H d v) (motive_2:=λds vs _=>Bels k ds->Reps K (ρ.take k) H ds vs) (λ_=>.non) (λb _=>.bl b) (λb _=>.int b) (λb _=>.str b) (λb _=>.ty b) (λh _ r b=>.tup h<|r<|b.inv.1 _ rfl)
  (λh b=>.ref<|by rw[NM<|b.inv.2 _ rfl];exact h) (λ_=>.nil) (λ_ _ h t b=>.cons (h b.inv.1)<|t b.inv.2) h
def Reps.cut{K:u6}{ρ:List d6}{H:Hp}{k:Nat}{ds:List D}{vs:List V}(h:Reps K ρ H ds vs):Bels k ds->Reps K (ρ.take k) H ds vs:=Reps.rec (motive_1:=λd v _=>D5 k d->u7 K (ρ.take k) H d v) (motive_2:=λds vs _=>Bels k ds->Reps K (ρ.take k) H ds vs) (λ_=>.non) (λb _=>.bl b) (λb _=>.int b) (λb _=>.str b) (λb _=>.ty b) (λh _ r b=>.tup h<|r<|b.inv.1 _ rfl)
  (λh b=>.ref<|by rw[NM<|b.inv.2 _ rfl];exact h) (λ_=>.nil) (λ_ _ h t b=>.cons (h b.inv.1)<|t b.inv.2) h
def D5.mono{j k:Nat}(h:j<=k){d:D}(b:D5 j d):D5 k d:=D5.rec (motive_1:=λd _=>D5 k d) (motive_2:=λds _=>Bels k ds) .non .bl .int .str .ty (λ_ b=>.tup b) (λb=>.ref<|E5 b h) .nil (λ_ _ b c=>.cons b c) b
def Bels.mono{j k:Nat}(h:j<=k){ds:List D}(b:Bels j ds):Bels k ds:=Bels.rec (motive_1:=λd _=>D5 k d) (motive_2:=λds _=>Bels k ds) .non .bl .int .str .ty (λ_ b=>.tup b) (λb=>.ref<|E5 b h) .nil (λ_ _ b c=>.cons b c) b
def Bels.of:∀{xs:List D},(∀d∈xs,D5 k d)->Bels k xs
 | [],_=>.nil
 |d::ds,h=>.cons (h d A9)<|Bels.of λe he=>h e<|C4 _ he
section
variable{K:u6}{ρ ρ':List d6}{H H':Hp}{M M':t7}
def wS:∀(n:Nat) (d:D),iL n d=a9->D5 k d:=by
 intro n;induction n with
 |zero =>
  intro d h;cases d with
  |str x=>exact .str x
  |int x=>exact .int x
  |_=>cases h
 |succ n i =>
  intro d h;cases d with
  |str x=>exact .str x
  |int x=>exact .int x
  |tup ds=>exact .tup<|Bels.of λx a=>i x<|z5.mp (show ds.all (iL n)=a9 from h) x a
  |_=>cases h
def An(r:Paired (Ew K ρ H) kvs xs):Bels ρ.length (kvs.map (·.2)):=by
 induction r with
 |nil=>exact .nil
 |cons q _ i=>obtain⟨_,_,_,v,u,_⟩:=q;exact .cons u.bel i
def Am(r:Paired (Ew K ρ H) kvs xs)(b:Bels k (kvs.map (·.2))):Paired (Ew K (ρ.take k) H) kvs xs:=by
 induction r with
 |nil=>exact .nil
 |cons q _ i =>
  obtain⟨d,g,j,v,u,N⟩:=q;rw[B9]at b;cases b with
  |cons a c=>exact .cons ⟨d,g,j.cut<|wS _ _ g,v,u.cut a,N⟩<|i c
def Da:∀(d:D),keyM d=a9->D5 k d
 |.non,_=>.non
 |.tup ks,h=>wS 8 _ h
 |.bl _,h=>nomatch h
 |.int _,h=>nomatch h
 |.str _,h=>nomatch h
 |.ty _,h=>nomatch h
 |.ref _,h=>nomatch h
def FQ(r:Paired (O6 K ρ H) kvs xs):Bels ρ.length (kvs.map (·.2)):=by
 induction r with
 |nil=>exact .nil
 |cons q _ i=>obtain⟨_,_,_,v,u,_⟩:=q;exact .cons u.bel i
def FP(r:Paired (O6 K ρ H) kvs xs)(b:Bels k (kvs.map (·.2))):Paired (O6 K (ρ.take k) H) kvs xs:=by
 induction r with
 |nil=>exact .nil
 |cons q _ i =>
  obtain⟨d,g,⟨u,j,w⟩,v,e,N⟩:=q;rw[B9]at b;cases b with
  |cons a c=>exact .cons ⟨d,g,⟨u,j.cut<|Da _ g,w⟩,v,e.cut a,N⟩<|i c
def yw.bels(h:yw K ρ H a mo):Bels ρ.length mo.items:=by
 cases mo with
 |lst ds=>obtain⟨vs,_,r⟩:=h;exact r.bel
 |fz ds=>obtain⟨o,vs,_,r⟩:=h;exact r.bel
 |kl ds=>obtain⟨vs,_,r⟩:=h;exact r.bel
 |dct s=>obtain⟨vs,_,r⟩:=h;exact r.bel
 |dkt s=>obtain⟨_,_,_,xs,_,r⟩:=h;exact An r
 |dkq _ s=>obtain⟨_,_,_,xs,_,r⟩:=h;exact An r
 |fdc o s=>obtain⟨vs,_,r⟩:=h;exact r.bel
 |dkm s=>obtain⟨_,_,_,xs,_,r⟩:=h;exact FQ r
 |tb x b=>exact .nil
 |exc x e=>exact .nil
 |ins c f=>obtain⟨_,_,vs,_,_,r⟩:=h;exact r.bel
 |tl x p q e=>exact .nil
def yw.cut(h:yw K ρ H a mo)(b:Bels k mo.items):yw K (ρ.take k) H a mo:=by
 cases mo with
 |lst ds=>obtain⟨vs,e,r⟩:=h;exact⟨vs,e,r.cut b⟩
 |fz ds=>obtain⟨o,vs,e,r⟩:=h;exact⟨o,vs,e,r.cut b⟩
 |kl ds=>obtain⟨vs,e,r⟩:=h;exact⟨vs,e,r.cut b⟩
 |dct s=>obtain⟨vs,e,r⟩:=h;exact⟨vs,e,r.cut b⟩
 |dkt s=>obtain⟨h1,h2,d,xs,e,r⟩:=h;exact⟨h1,h2,d,xs,e,Am r b⟩
 |dkq _ s=>obtain⟨h1,h2,d,xs,e,r⟩:=h;exact⟨h1,h2,d,xs,e,Am r b⟩
 |fdc o s=>obtain⟨vs,e,r⟩:=h;exact⟨vs,e,r.cut b⟩
 |dkm s=>obtain⟨h1,h2,d,xs,e,r⟩:=h;exact⟨h1,h2,d,xs,e,FP r b⟩
 |tb x b=>exact h
 |exc x e=>exact h
 |ins c f=>obtain⟨C,dx,vs,n,e,r⟩:=h;exact⟨C,dx,vs,n,e,r.cut b⟩
 |tl x p q e=>exact h
def v4.bels(S:v4 K ρ M H){n:Nat}{mo:MO}(e:M[n]?=a7 mo):Bels M.length mo.items:=by obtain⟨a,_,h⟩:=S.get e;rw[<-S.len];exact h.bels
def v4.cut(S:v4 K ρ M H)(k:Nat)(d:∀(n:Nat) (mo:MO),n<k->M[n]?=a7 mo->Bels k mo.items):v4 K (ρ.take k) (M.take k) H:=by
 have lt:∀{n:Nat}{a:d6},(ρ.take k)[n]?=a7 a->n<k/\ρ[n]?=a7 a:=λ{n a} e=>by
  have h1:=(B5.mp e).1;rw[Li]at h1;have h2:n<k:=by lia
  rw[NM h2]at e;exact⟨h2,e⟩
 refine⟨λn m a h t l=>?_,by rw[Li,Li,S.len],λn a mo t l=>?_⟩;obtain⟨b,f⟩:=lt t;obtain⟨g,c⟩:=lt l;rw[NM b,NM g];exact S.nd n m a h f c;obtain⟨b,f⟩:=lt t;rw[NM b]at l;exact(S.obj n a mo f l).cut<|d n mo b l
def SRep.cut(r:SRep K ρ H S σ)(g:S'.length=S.length)(h:∀(i:Nat) d,S'[i]?=a7 (a7 d)->S[i]?=a7 (a7 d)/\D5 k d):SRep K (ρ.take k) H S' σ:=⟨g.trans r.len,λi d e=>let ⟨e',b⟩:=h i d e;let ⟨v,hv,rv⟩:=r.get i d e';⟨v,hv,rv.cut b⟩⟩
def Grow.cut(g:Grow K ρ H ρ' H')(h:ρ.length<=k):Grow K ρ H (ρ'.take k) H':=by refine⟨?_,g.tup,g.fr⟩;obtain⟨t,rfl⟩:=g.pre;rw[List.take_append];rw[Qv h];exact Kv _ _
end
inductive FgtS(k:Nat):SD->SD->Prop
 |nil:FgtS k [] []
 |keep {d:D}{S S':SD} (h:D5 k d) (t:FgtS k S S'):FgtS k (a7 d::S) (a7 d::S')
 |drop {o:Option D}{S S':SD} (t:FgtS k S S'):FgtS k (o::S) (a8::S')
def FgtS.len(h:FgtS k S S'):S'.length=S.length:=by
 induction h with
 |nil=>rfl
 |keep _ _ i=>rw[D4,D4,i]
 |drop _ i=>rw[D4,D4,i]
def FgtS.get(h:FgtS k S S'):∀(i:Nat) d,S'[i]?=a7 (a7 d)->S[i]?=a7 (a7 d)/\D5 k d:=by
 induction h with
 |nil=>intro i d e;simp at e
 |keep b _ a =>
  intro i d e;cases i with
  |zero=>simp at e;subst e;exact⟨rfl,b⟩
  |succ i=>exact a i d<|by simpa using e
 |drop _ a =>
  intro i d e;cases i with
  |zero=>simp at e
  |succ i=>exact a i d<|by simpa using e
def E7(a:t7)(P:SD->t7->Prop)(S:SD)(M:t7):Prop:=P S M\/(∃k b,a.length<=k/\FgtS k S b/\(∀(n:Nat) mo,n<k->M[n]?=a7 mo->Bels k mo.items)/\P b (M.take k))\/∃b,FgtS a.length S b/\a <+: M/\P b a
def BW{α:Type}{l l':List α}(h:l <+: l'):l'.take l.length=l:=by obtain⟨t,rfl⟩:=h;rw[List.take_append_of_le_length<|v7 _,Mw]
def SQ.fgt{K:u6}{ρ:List d6}{H:Hp}{M:t7}{P:SD->t7->Prop}{c:St}{H':Hp}(s0:v4 K ρ M H)(h:SQ K ρ H (E7 M P) c H'):SQ K ρ H P c H':=by
 have f:ρ.length<=M.length:=by rw[s0.len];exact v7 _
 obtain⟨S,d,b,s',g,a,j⟩:=h;rcases j with j|⟨k,S2,h1,h2,i,q⟩|⟨S2,h2,p,q⟩
 exact⟨S,d,b,s',g,a,j⟩;exact⟨S2,d.take k,b.take k,s'.cut k i,g.cut<|KY f h1,a.cut h2.len h2.get,q⟩;have s:=s'.cut M.length λn m l e=>by obtain⟨t,rfl⟩:=p;rw[G4 l]at e;exact s0.bels e
 rw[BW p]at s;exact⟨S2,M,b.take M.length,s,g.cut f,a.cut h2.len h2.get,q⟩
def oP(ok:t7->Prop)(g:KR)(tb:t9)(E:DEnds)(k0:t7):List D->SD->t7->Prop
 | [],S,M=>ok M/\E.nx S M
 |x::xs,S,M=>ok M/\g x S M λS2 M2=>tb ⟨E7 k0<|oP ok g tb E k0 xs,E.rt,E.nx,E7 k0<|oP ok g tb E k0 xs⟩ S2 M2
def nY(i:Lz)(g:KR)(b:t9):t9:=λE S M=>i S M λsrc a=>oP src.ok g b E a src.items S a
def nX{α:Type}{l:List α}{i:Nat}{x:α}(h:l[i]?=a7 x):l.drop i=x::l.drop (i+1):=by obtain⟨hi,e⟩:=B5.mp h;rw[List.drop_eq_getElem_cons hi,e]
def CJ{K:u6}{O:Lz}{g:KR}{u:t9}(E:Ends)(σ:St)(H:Hp)(h:lowS K (nY O g u) E σ H):tFor (lowI K O) (lowG K g) (lowS K u) E σ H:=by
 obtain⟨S,M,ρ,F,s,T,q,k⟩:=h;refine⟨S,M,ρ,_,s,T,q,?_⟩;rintro J H1 ⟨src,o,f,R,g1,it,q1⟩;have C:=k.trans g1;refine⟨λi m τ j=>∃S2 b a,v4 K a b j/\Grow K f H1 a j/\SRep K a j S2 τ/\i<=src.items.length/\m=src.items.length-i/\oP src.ok g u F o (src.items.drop i) S2 b,⟨_,S,o,f,R,.refl,T.grow g1,B0 _,rfl,q1⟩,?_⟩;rintro i m τ j ⟨S2,b,a,B,p,r,hi,rfl,A⟩;by_cases t:i<src.items.length;have P:src.items[i]?=a7 src.items[i]:=A1 t;rw[nX P]at A;obtain⟨ok,D⟩:=(show src.ok b/\g src.items[i] S2 b _ from A)
 refine .inr ⟨it.go i a b j B p ok t,_,λab H' z=>z,λx U y=>?_⟩;obtain⟨d,L,hd,s3,g3,r3⟩:=it.yld i a b j x U B p ok t y;have ed:d=src.items[i]:=C1<|hd.symm.trans P;subst ed;refine⟨_,S2,b,L,_,s3,r.grow g3,r3,D,?_⟩;rintro ai V ⟨Z,W,w,s4,g4,G,q4⟩;have l:=(p.trans g3).trans g4;refine⟨Z,W,w,_,s4,G,q4,?_⟩;have n:∀c Y,SQ K w V (E7 o<|oP src.ok g u F o<|src.items.drop<|i+1) c Y -> ∃Q,Q < src.items.length-i/\∃S2 b a,v4 K a b Y/\Grow K f H1 a Y/\SRep K a Y S2 c/\i+1<=src.items.length/\Q=src.items.length-(i+1)/\oP src.ok g u F o (src.items.drop<|i+1) S2 b:=λc Y z=>by obtain⟨S5,X,N,s5,g5,I,q5⟩:=SQ.fgt (ρ:=f) (H:=H1) R<|SQ.trans l z;exact⟨_,b7,S5,X,N,s5,g5,I,t,rfl,q5⟩
 exact⟨n,λv Y z=>C.rt v Y<|VQ.trans l z,λc Y z=>C.nx c Y<|SQ.trans l z,n⟩;have e:i=src.items.length:=by lia
 subst e;rw[Qu<|v7 _]at A;obtain⟨ok,D⟩:=(show src.ok b/\F.nx S2 b from A)
 exact .inl ⟨it.stop a b j B p ok,C.nx τ j ⟨S2,b,a,B,p,r,D⟩⟩
def JQ(hi:DI X tg iter di)(S:DG X tg g)(d:Ma X body tb)(p:PassesOwn (i4 X.prog X.w) X.A X.env X.xe:=by exact PassesOwn.never)(f:X.calm=a9:=by rfl)(hs:∀x,j8 iter X.env x=pure x:=by intro _;rfl):DS X (.For tg iter body [] pos) (nY di g tb):=PS.imp (HU p f hi S d hs) CJ
noncomputable def Er(t:Nat)(s:List Nat)(S:SD):SD:=J0 t a8++s.map λj=>(S[j]?).join
def fX(ok:t7->Prop)(g:KR)(tt:G9)(te:A3)(Q:DK):List D->List D->SD->t7->Prop
 | [],acc,S,M=>ok M/\Q (.ref M.length) (M++[.lst acc])
 |x::xs,acc,S,M=>ok M/\g x S M λS2 M2=>tt S2 M2 λb M3=>if b=a9 then te S2 M3 λy M4=>acc.length<sizeLine/\fX ok g tt te Q xs (acc++[y]) S2 M4 else fX ok g tt te Q xs acc S2 M3
def E4(t:Nat)(s:List Nat)(i:Lz)(g:KR)(tt:G9)(te:A3):A3:=λS M Q=>i S M λsrc a=>fX src.ok g tt te Q src.items [] (Er t s S) a
def SRep.bst{K:u6}{ρ:List d6}{H:Hp}{S:SD}{σ:St}(r:SRep K ρ H S σ)(t:Nat)(s:List Nat):SRep K ρ H (Er t s S) (L2.bst t s σ):=by
 refine⟨by simp[Er,Bq],λi d e=>?_⟩;unfold Er at e;unfold L2.bst;by_cases hi:i<t;rw[G4 (by simpa using hi),PK]at e;simp[hi]at e;rw[LK (by simpa using Mp.mp hi),PC,F5]at e;rw[LK (by simpa using Mp.mp hi),PC,F5];cases q:s[i-t]? with
 |none=>rw[q]at e;cases e
 |some j =>
  rw[q]at e;have a:(S[j]?).join=a7 d:=by simpa using e
  cases g:S[j]? with
  |none=>rw[g]at a;cases a
  |some o=>rw[g]at a;have l:o=a7 d:=a;subst l;obtain⟨v,c,b⟩:=r.get j d g;exact⟨v,by simp[c],b⟩
def vp{K:u6}{C:Nat}{B:List Nat}{P:Lz}{g:KR}{tt:G9}{te:A3}(σ:St)(H:Hp)(R:VK)(h:lowE K (E4 C B P g tt te) σ H R):On C B (lowI K P) (lowG K g) (lowT K tt) (lowE K te) σ H R:=by
 obtain⟨S,M,ρ,Q,s,V,q,k⟩:=h;refine⟨S,M,ρ,_,s,V,q,?_⟩;rintro J H1 ⟨src,Y,o,s1,g1,it,q1⟩;refine⟨λi m vs τ f=>∃S2 c a acc,v4 K a c f/\Grow K o H1 a f/\SRep K a f S2 τ/\Reps K a f acc vs/\i<=src.items.length/\m=src.items.length-i/\fX src.ok g tt te Q (src.items.drop i) acc S2 c,⟨_,_,Y,o,[],s1,.refl,(V.grow g1).bst C B,.nil,B0 _,rfl,q1⟩,?_⟩;rintro i m vs τ f ⟨S2,c,a,acc,w,n,F,u,hi,rfl,r⟩;by_cases t:i<src.items.length;have T:src.items[i]?=a7 src.items[i]:=A1 t;rw[nX T]at r;obtain⟨ok,D⟩:=(show src.ok c/\g src.items[i] S2 c _ from r)
 refine .inr ⟨it.go i a c f w n ok t,λx W y=>?_⟩;obtain⟨d,I,hd,s3,g3,r3⟩:=it.yld i a c f x W w n ok t y;have ed:d=src.items[i]:=C1<|hd.symm.trans T;subst ed;refine⟨_,S2,c,I,_,s3,F.grow g3,r3,D,?_⟩;rintro ab H4 ⟨Z,M4,L,s4,z,G,q4⟩;refine⟨Z,M4,L,_,s4,G,q4,?_⟩;rintro b H5 ⟨X,N,s5,j,U⟩;have l:=((n.trans g3).trans z).trans j;cases b with
 |false=>exact fP ⟨_,b7,Z,X,N,acc,s5,l,G.grow j,u.grow<|(g3.trans z).trans j,t,rfl,(show fX src.ok g tt te Q (src.items.drop<|i+1) acc Z X from U)⟩
 |true=>refine eG ⟨Z,X,N,_,s5,G.grow j,(show te Z X _ from U),?_⟩;rintro v H6 ⟨y',M6,O,s6,A,r6,hl,q6⟩;have E:=u.grow<|((g3.trans z).trans j).trans A;exact⟨by rw[<-u.length];exact hl,_,b7,Z,M6,O,acc++[y'],s6,l.trans A,G.grow<|j.trans A,E.append<|.cons r6 .nil,t,rfl,q6⟩
 have e:i=src.items.length:=by lia
 subst e;rw[Qu<|v7 _]at r;obtain⟨ok,D⟩:=(show src.ok c/\Q (.ref c.length) (c++[.lst acc])from r)
 exact .inl ⟨it.stop a c f w n ok,λp hp=>k _ _<|VQ.laidL w (g1.trans n) u hp D⟩
def d_lc(B:BlkSc X N' nt js scope)(hi:DI X tg iter di)(S:∀cl s0 H0 ex,DG (z6 X N' scope cl s0 H0 ex) tg g) (D:∀cl s0 H0 ex,Ly (z6 X N' scope cl s0 H0 ex) ifs<|lowT X.K tt) (i:∀cl s0 H0 ex,DE (z6 X N' scope cl s0 H0 ex) elt te) (f:X.calm=a9:=by rfl)(hs:∀x,j8 iter X.env x=pure x:=by intro _;rfl):DE X (.ListComp elt [⟨tg,iter,ifs,0⟩] scope pos) (E4 nt js di g tt te):=PE.imp (pe_lc (g:=lowG X.K g) (tt:=lowT X.K tt) (te:=lowE X.K te) B f hi (λcl s0 H0 ex=>S cl s0 H0 ex) D (λcl s0 H0 ex=>i cl s0 H0 ex) hs) vp
def kg:G9:=λ_ M Q=>Q a9 M
def GA:Ly X [] (lowT X.K kg):=λp s σ H R I ⟨S,M,ρ,Q,m,c,q,k⟩=>EY p s σ H R I<|k a9 H ⟨M,ρ,m,.refl,q⟩
def Gz(h:DT X c t):Ly X [c] (lowT X.K t):=EX h
def LA(M a:t7):Prop:=a.length=M.length/\∀(i:Nat) (m:MO),a[i]?=a7 m->M[i]?=a7 m\/Bels M.length m.items
def LA.refl:LA M M:=⟨rfl,λ_ _ h=>.inl h⟩
def LA.set(c:LA M M1)(b:Bels M.length mo.items):LA M (M1.set n mo):=by refine⟨by rw[Ld];exact c.1,λi m h=>?_⟩;by_cases e:n=i;subst e;by_cases g:n<M1.length;rw[Lj g]at h;cases h;exact .inr b;rw[MU<|by rw[Ld];lia]at h;cases h;rw[KO e]at h;exact c.2 i m h
def aE(M:t7)(R:DK):DK:=λd b=>R d b\/(∃a,LA M a/\D5 M.length d/\a <+: b/\R d a)\/∃a n xs,LA M a/\d=.ref n/\M.length<=n/\b[n]?=a7 (.lst xs)/\a <+: b/\Bels M.length xs/\R (.ref M.length) (a++[.lst xs])
def bV{α:Type}{l l':List α}(h:l <+: l'):l'.take l.length=l:=by obtain⟨t,rfl⟩:=h;rw[List.take_append_of_le_length<|v7 _,Mw]
theorem VQ.endq{K:u6}{ρ:List d6}{M:t7}{H:Hp}{R:DK}{v:V}{H':Hp}(s:v4 K ρ M H)(h:VQ K ρ H (aE M R) v H'):VQ K ρ H R v H':=by
 obtain⟨d,E,D,s',r,r',Y⟩:=h;have k:D.take M.length=ρ:=by rw[<-s.len];exact bV r.pre
 rcases Y with q|⟨g,c,b,f,q⟩|⟨g,n,xs,c,rfl,X,e,f,b,q⟩
 exact⟨d,E,D,s',r,r',q⟩;have i:=s'.cut M.length λn u x e=>by
  have G:g[n]?=a7 u:=by obtain⟨t,rfl⟩:=f;rw[G4<|by rw[c.1];exact x]at e;exact e
  exact(c.2 n u G).elim (λz=>s.bels z) id
 have O:E.take M.length=g:=by rw[<-c.1];exact bV f
 rw[k,O]at i;have C:=r'.cut b;rw[k]at C;exact⟨d,g,ρ,i,⟨Lc,r.tup,r.fr⟩,C,q⟩;have i:=s'.cut M.length λn u x e=>by
  have G:g[n]?=a7 u:=by obtain⟨t,rfl⟩:=f;rw[G4<|by rw[c.1];exact x]at e;exact e
  exact(c.2 n u G).elim (λz=>s.bels z) id
 have O:E.take M.length=g:=by rw[<-c.1];exact bV f
 rw[k,O]at i;obtain⟨a,rfl,x⟩:=u7.inv_ref r';obtain⟨vs,U,Z⟩:=s'.obj n a _ x e;have C:=Z.cut b;rw[k]at C;have Q:Grow K ρ H' (ρ++[a]) H':=⟨Kv _ _,λ_ _ h=>h,λ_ _ h=>h⟩
 have B:∀(m:Nat),ρ[m]?=a7 a->Lx g[m]?:=λm J=>by
  have W:m≠n:=λz=>by
   have:m<M.length:=by rw[<-s.len];exact(B5.mp J).1
   lia
  have q:=s'.nd m n a W (aW r.pre J) x;have L:m<M.length:=by rw[<-s.len];exact(B5.mp J).1
  rcases q with⟨ds,z⟩|⟨ds,z⟩
  refine⟨ds,?_⟩;have o:m<g.length:=by rw[c.1];exact L
  have:=aW f<|A1 o;rw[z]at this;rw[A1 o];exact this.symm;rw[e]at z;cases z
 refine⟨.ref M.length,g++[.lst xs],ρ++[a],⟨λA S F y I l=>?_,by rw[E2,E2,i.len];rfl,λA F u I l=>?_⟩,⟨Kv _ _,r.tup,r.fr⟩,.ref (by have:=i.last (p:=a);rw[c.1]at this;exact this),q⟩;rcases ci I with j|⟨j,P⟩
 rcases ci l with w|⟨w,T⟩
 exact(i.nd A S F y j w).elim (λz=>.inl z.more) λz=>.inr z.more;subst T;exact .inl (B A j).more;rcases ci l with w|⟨w,T⟩
 subst P;exact .inr (B S w).more;exact p5 (j.trans w.symm) y;rcases ci I with j|⟨j,P⟩
 have N:A<g.length:=by rw[<-i.len];exact(B5.mp j).1
 rw[G4 N]at l;exact(i.obj A F u j l).grow Q<|.inl rfl;subst P j;rw[i.len,LK<|v7 _,LD]at l;simp at l;subst l;exact⟨vs,U,C.grow Q⟩
noncomputable def bp(N:List c8)(ds:List D):SD:=ds.map a7++J0 (N.length-ds.length) a8
def SRep.start{K:u6}{ρ:List d6}{H:Hp}{ds:List D}{vs:List V}(r:Reps K ρ H ds vs)(N:List c8):SRep K ρ H (bp N ds) (L2.start N vs):=by
 refine⟨by simp[bp,L2.start,r.length],λi d e=>?_⟩;unfold bp at e;unfold L2.start;by_cases hi:i<ds.length;rw[G4 (by simpa using hi),F5]at e;rw[G4 (by simpa [<-r.length]using hi),F5];have a:ds[i]?=a7 d:=by rw[A1 hi]at e ⊢;simpa using e
 obtain⟨v,c,b⟩:=r.get a;exact⟨v,by rw[c];rfl,b⟩;rw[LK (by simpa using Mp.mp hi),PK]at e;split at e<;>cases e
def d_fn{P:d5}{w:c9}{K:u6}{mg:c8->Option c6}{base:d8}{x l:c8}{st:i8}{f:d6}{e:k8}{N ps:List c8}{k:Nat}(d:A7)(F:LO K x l st f e)(i:FnScope N ps (ao st))(B:∀ds M R,d ds M R->ds.length=ps.length)(y:∀(cdv:c6) (A:f8) (outer:List g7) (s:f9) (H:Hp) (E:XK),Room k (A.deeper<|c7 l (ao st) s.heap.objs.size f cdv) -> ∃t,Ma (jw G3 P w K mg base N l (ao st) f cdv A outer s H E).nox (bG st) t/\∀ds M R,d ds M R->t ⟨λ_ M'=>aE M R .non M',aE M R,λ_ _=>False,λ_ _=>False⟩ (bp N ds) M):FnOk P w K mg base G3 (k+1) f e ps (Lv K d):=by refine F.ok i (λvs H Q E ⟨ds,M,ρ,R,s,r,q,_⟩=>by rw[<-r.length];exact B ds M R q) λcdv A outer s H vs Q E o h=>?_;obtain⟨ds,M,ρ,R,m,r,q,C⟩:=h;obtain⟨t,D,n⟩:=y cdv A outer s H E o;refine⟨lowS K t,D,bp N ds,M,ρ,_,m,SRep.start r N,n ds M R q,⟨λc H' ⟨S,M',a,s',g,b,j⟩=>?_,λv H' z=>C v H'<|VQ.endq m z,λc H' ⟨S,M',a,s',g,b,j⟩=>j.elim,λc H' ⟨S,M',a,s',g,b,j⟩=>j.elim⟩⟩;exact C .non H'<|VQ.endq m ⟨.non,M',a,s',g,.non,j⟩
end
def dfin(I:t5 X pins σ H s)(m:v4 X.K ρ M H)(k:∀v H',VQ X.K ρ H Q v H'->R v H')(c:cV d=a7 v)(r:aR v u)(q:Q d M):EP X pins σ R u s:=⟨v,H,I,r,k v H<|VQ.now m (Bo c) q⟩
def jt(I:t5 X pins σ H s)(m:v4 X.K ρ M H)(k:∀v H',VQ X.K ρ H Q v H'->R v H')(q:Q (.bl b) M):EP X pins σ R (.bool b) s:=⟨.bl b,H,I,rfl,k _ H<|VQ.now m (.bl b) q⟩
def qAdd:J4:=λx y M Q=>match x,y with
 |.int i,.int j=>Q (.int<|i+j) M
 |.str a,.str b=>a.length+b.length<=sizeLine/\Q (.str<|a++b) M
 |.ref n,.ref m=>∃xs ys,M[n]?=a7 (.lst xs)/\M[m]?=a7 (.lst ys)/\xs.length+ys.length<=sizeLine/\Q (.ref M.length) (M++[.lst<|xs++ys])
 |_,_=>False
def Iy:J2 X (j9 .Add) qAdd:=by refine D8.imp (Iq.or<|xK.or Ip) ?_;rintro v i H R ⟨x,y,M,ρ,Q,m,r,l,q,k⟩;unfold qAdd at q;split at q;cases r;cases l;exact .inl ⟨_,_,rfl,rfl,k _ H<|VQ.now m (.int _) q⟩;cases r;cases l;exact .inr<|.inl ⟨_,_,rfl,rfl,q.1,k _ H<|VQ.now m (.str _) q.2⟩;obtain⟨xs,ys,t,e,g,q⟩:=q;obtain⟨_,rfl,h1⟩:=u7.inv_ref r;obtain⟨_,rfl,h2⟩:=u7.inv_ref l;obtain⟨vs,n,g1⟩:=m.obj _ _ _ h1 t;obtain⟨s,f,j⟩:=m.obj _ _ _ h2 e;exact .inr<|.inr ⟨_,_,vs,s,rfl,rfl,n,f,by rw[<-g1.length,<-j.length];exact g,λp h=>k _ _<|VQ.laidL m .refl (g1.append j) h q⟩;exact q.elim
def BB:J4:=λx y M Q=>match x,y with
 |.int i,.int j=>Q (.int<|i-j) M
 |_,_=>False
def Iv:J2 X (j9 .Sub) BB:=by refine D8.imp Ik ?_;rintro f i H R ⟨x,y,M,ρ,Q,m,r,l,q,k⟩;unfold BB at q;split at q;cases r;cases l;exact⟨_,_,rfl,rfl,k _ H<|VQ.now m (.int _) q⟩;exact q.elim
def Ku(i j:Int):Prop:=0<j/\j<340282366920938463463374607431768211456
def Cv:D8 X (j9 .FloorDiv) (rI Ku λi j=>.int<|i / j):=P4 λi j _ _ _ _ _ f q=>by have h1:(0:Int)<j:=f.1;have h2:j<340282366920938463463374607431768211456:=f.2;have a:j.natAbs.log2<128:=(Nat.log2_lt<|by lia).mpr (by rw[show (2:Nat) ^ 128=340282366920938463463374607431768211456 by decide];lia);exact floordiv_int b7 (by rw[Int.fdiv_eq_ediv_of_nonneg i<|by lia];exact q)<|.inl<|PyProof.noPylong_of_log2<|by lia
def ck:J4:=λx y M Q=>match x,y with
 |.int i,.int j=>Ku i j/\Q (.int<|i / j) M
 |_,_=>False
def Fy:J2 X (j9 .FloorDiv) ck:=by refine D8.imp Cv ?_;rintro f i H R ⟨x,y,M,ρ,Q,m,r,l,q,k⟩;unfold ck at q;split at q;cases r;cases l;exact⟨_,_,rfl,rfl,q.1,k _ H<|VQ.now m (.int _) q.2⟩;exact q.elim
def dR:J4:=λx y M Q=>match x,y with
 |.int i,.int j=>0<j/\Q (.int<|i % j) M
 |_,_=>False
def Iw:J2 X (j9 .Mod) dR:=by refine D8.imp Io ?_;rintro f i H R ⟨x,y,M,ρ,Q,m,r,l,q,k⟩;unfold dR at q;split at q;cases r;cases l;exact⟨_,_,rfl,rfl,q.1,k _ H<|VQ.now m (.int _) q.2⟩;exact q.elim
noncomputable def aA(a b:c8):Bool:=decide<|a.cps.toList<b.cps.toList
def MX:J4:=λx y M Q=>match x,y with
 |.int i,.int j=>Q (.bl<|decide<|i<j) M
 |.str a,.str b=>Q (.bl<|aA a b) M
 |_,_=>False
def K7:J4:=λx y M Q=>match x,y with
 |.int i,.int j=>Q (.bl<|decide<|i<=j) M
 |.str a,.str b=>Q (.bl<|!aA b a) M
 |_,_=>False
def NR:J4:=λx y M Q=>match x,y with
 |.int i,.int j=>Q (.bl<|decide<|j<=i) M
 |.str a,.str b=>Q (.bl<|!aA a b) M
 |_,_=>False
def od_lt:J2 X (k4 .Lt) MX:=by rintro p s σ H f a v u R I g i ⟨x,y,M,ρ,Q,m,r,l,q,k⟩;unfold MX at q;split at q;cases r;cases l;exact op_lt p s σ H _ _ v u R I g i ⟨_,_,rfl,rfl,k _ H<|VQ.now m (.bl _) q⟩;cases r;cases l;obtain⟨t,rfl⟩:=g;obtain⟨t',rfl⟩:=i;exact PySem.P.lt_str<|jt I m k q;exact q.elim
def od_le:J2 X (k4 .LtE) K7:=by rintro p s σ H f a v u R I g i ⟨x,y,M,ρ,Q,m,r,l,q,k⟩;unfold K7 at q;split at q;cases r;cases l;exact op_le p s σ H _ _ v u R I g i ⟨_,_,rfl,rfl,k _ H<|VQ.now m (.bl _) q⟩;cases r;cases l;obtain⟨t,rfl⟩:=g;obtain⟨t',rfl⟩:=i;exact PySem.P.le_str<|jt I m k q;exact q.elim
def od_ge:J2 X (k4 .GtE) NR:=by rintro p s σ H f a v u R I g i ⟨x,y,M,ρ,Q,m,r,l,q,k⟩;unfold NR at q;split at q;cases r;cases l;exact op_ge p s σ H _ _ v u R I g i ⟨_,_,rfl,rfl,k _ H<|VQ.now m (.bl _) q⟩;cases r;cases l;obtain⟨t,rfl⟩:=g;obtain⟨t',rfl⟩:=i;exact PySem.P.ge_str<|jt I m k q;exact q.elim
def Nr:J4:=λx y M Q=>match x,y with
 |.bl a,.bl b=>Q (.bl<|a==b) M
 |.non,.non=>Q (.bl a9) M
 |_,.non=>Q (.bl c5) M
 |_,_=>False
def ES{K:u6}{ρ:List d6}{H:Hp}{x:D}{v:V}(r:u7 K ρ H x v)(h:x≠.non):v≠.non:=by cases r<;>first|exact p5 rfl h|(intro z;cases z)
def od_is:J2 X (k4 .Is) Nr:=by
 rintro p s σ H f a v u R I g i ⟨x,y,M,ρ,Q,m,r,l,q,k⟩;unfold Nr at q;split at q;cases r;cases l;cases g;cases i;exact is_bool<|jt I m k q;cases r;cases l;cases g;cases i;exact is_none_gen<|dfin (d:=.bl a9) I m k rfl rfl q;rename_i h1 h2;cases l;cases i;refine is_none_gen<|dfin (d:=.bl c5) I m k rfl ?_ q;have:=ES r λz=>by subst z;exact h2 rfl
 rw[g.none_iff,dF_ this];rfl;exact q.elim
noncomputable def A0(M:t7):D->String
 |.non=>"NoneType"
 |.bl _=>"bool"
 |.int _=>"int"
 |.str _=>"str"
 |.ty _=>"type"
 |.tup _=>"tuple"
 |.ref n=>match M[n]? with
  |some mo=>if mo.isL=a9 then "list" else "?"
  |none=>"?"
noncomputable def fR(t T:String):Bool:=t==T||(t == "bool" && T == "int")
noncomputable def qm:List String:=["NoneType","bool","int","str","list","tuple"]
noncomputable def Hm:List String:=["bool","int","str","list","tuple"]
def FY(K:u6)(D:t∈qm)(m:T∈Hm):Ll K (.type t) (.type T)=a7 (fR t T):=by simp only[qm,Hm,z7,Ls,or_false]at D m;rcases D with rfl|rfl|rfl|rfl|rfl|rfl<;>rcases m with rfl|rfl|rfl|rfl|rfl<;>kernel_rfl
def En(I:t5 X pins σ H s)(k:v4 X.K ρ M H)(r:u7 X.K ρ H d v)(g:aR v u)(j:A0 M d∈qm)(L:∀(Hx:d8->Prop),PySem.W.KitX X.K u (.type<|A0 M d) Hx->Hx s.heap->u≠.builtin "__main__.__loader__#opaque"->i0 (i4 X.prog X.w) X.A (call (.builtin "isinstance") [u,c]) Q X.xe s):i0 (i4 X.prog X.w) X.A (call (.builtin "isinstance") [u,c]) Q X.xe s:=by
 cases r with
 |non=>cases g;exact L _ PySem.W.kitx_none Na<|λz=>nomatch z
 |bl y=>cases g;exact L _ PySem.W.kitx_bool Na<|λz=>nomatch z
 |int i=>obtain⟨t,rfl⟩:=g;exact L _ PySem.W.kitx_int Na<|λz=>nomatch z
 |str i=>obtain⟨t,rfl⟩:=g;exact L _ PySem.W.kitx_str Na<|λz=>nomatch z
 |ty n=>exact p5 j<|by simp only[A0];decide
 |tup h rr=>cases g;obtain⟨its,_,⟨o,h1,h2,_⟩,_⟩:=I.tuple h;exact L _ PySem.W.kitx_tuple ⟨o,h1,h2⟩<|λz=>nomatch z
 |@ref n a e =>
  cases g;have C:n<M.length:=by rw[<-k.len];exact(B5.mp e).1
  have m:M[n]?=a7 M[n]:=A1 C;have f:(match M[n]? with|some mo=>if mo.isL=a9 then "list" else "?" |none=>"?")∈qm:=j;rw[m]at f;have l:M[n].isL=a9:=by
   cases q:M[n].isL with
   |true=>rfl
   |false=>simp only[q,C8,p8]at f;exact p5 f<|by decide
  have B:ah M n M[n].items:=by
   cases q:M[n] with
   |lst xs=>exact .inl<|by rw[m,q];rfl
   |fz xs=>exact .inr<|.inl<|by rw[m,q];rfl
   |kl xs=>exact .inr<|.inr<|by rw[m,q];rfl
   |dct xs=>rw[q]at l;cases l
   |dkt xs=>rw[q]at l;cases l
   |dkq _ xs=>rw[q]at l;cases l
   |fdc o xs=>rw[q]at l;cases l
   |dkm xs=>rw[q]at l;cases l
   |tb x b=>rw[q]at l;cases l
   |exc x e=>rw[q]at l;cases l
   |ins c fs=>rw[q]at l;cases l
   |tl x p q' e=>rw[q]at l;cases l
  obtain⟨vs,D,_⟩:=ah.seq k B e;obtain⟨its,_,⟨o,F,h1,h2,_⟩,_⟩:=I.list D;have E:A0 M (.ref n) = "list":=by
   show (match M[n]? with|some mo=>if mo.isL=a9 then "list" else "?" |none=>"?") = "list"
   rw[m];exact o8 l
  rw[E]at L;exact L _ PySem.W.kitx_list ⟨o,h1,h2⟩<|λz=>nomatch z
def fF:J3:=λds M Q=>match ds with
 | [d,.ty T]=>(A0 M d∈qm/\T∈Hm)/\Q (.bl<|fR (A0 M d) T) M
 | [d,.tup [.ty T,.ty T']]=>(A0 M d∈qm/\T∈Hm/\T'∈Hm)/\Q (.bl<|fR (A0 M d) T||fR (A0 M d) T') M
 |_=>False
def Kh:ou X (.builtin "isinstance") fF:=by
 rintro i s σ H vs us R I v ⟨ds,M,ρ,Q,m,r,q,k⟩;unfold fF at q;split at q;rename_i d T;obtain⟨⟨h1,h2⟩,q⟩:=q
 first|have z:=Reps.inv_cons r|have z:=az.inv_cons r
 clear r;obtain⟨_,_,rfl,f,r⟩:=z
 first|have z:=Reps.inv_cons r|have z:=az.inv_cons r
 clear r;obtain⟨_,_,rfl,g,r⟩:=z;cases r;cases g;obtain⟨u,u',rfl,e,l⟩:=az.two v;cases l;refine En I m f e h1 λHx Z p x=>?_;exact PySem.W.kia_one Z I.kIn p (FY X.K h1 h2) x λh=>jt (I.tok h) m k q;rename_i d T c;obtain⟨⟨h1,h2,A⟩,q⟩:=q
 first|have z:=Reps.inv_cons r|have z:=az.inv_cons r
 clear r;obtain⟨_,_,rfl,f,r⟩:=z
 first|have z:=Reps.inv_cons r|have z:=az.inv_cons r
 clear r;obtain⟨_,_,rfl,g,r⟩:=z;cases r;obtain⟨u,u',rfl,e,l⟩:=az.two v;obtain⟨a,O,rfl,B,t⟩:=u7.inv_tup g;cases l;obtain⟨its,D,⟨o,g1,y,n,g3⟩,_⟩:=I.tuple B
 first|have z:=Reps.inv_cons t|have z:=az.inv_cons t
 clear t;obtain⟨_,_,rfl,E,t⟩:=z
 first|have z:=Reps.inv_cons t|have z:=az.inv_cons t
 clear t;obtain⟨_,_,rfl,F,t⟩:=z;cases t;cases E;cases F;obtain⟨L,N,rfl,j,w⟩:=az.two D;cases j;cases w;obtain⟨oc,J,C,G⟩:=o;cases y;cases g3;refine En I m f e h1 λHx Z p x=>?_;refine PySem.W.kia_tup Z I.kIn p g1 (b:=fR (A0 M d) T||fR (A0 M d) c) ?_ x λh=>jt (I.tok h) m k q;show (match Ll X.K (.type<|A0 M d) (.type T)with|some a9=>a7 a9|some c5=>PySem.W.kitAny X.K (.type<|A0 M d) [.type c]|none=>a8)=_;rw[FY X.K h1 h2];cases fR (A0 M d) T with
 |true=>rfl
 |false=>show (match Ll X.K (.type<|A0 M d) (.type c)with|some a9=>a7 a9|some c5=>a7 c5|none=>a8)=_;rw[FY X.K h1 A];cases fR (A0 M d) c<;>rfl
 exact q.elim
def jR:J3:=λds M Q=>match ds with
 | [.str x]=>x.length<=sizeLine/\Q (.int x.length) M
 | [.tup xs]=>Q (.int xs.length) M
 | [.ref n]=>∃xs,ah M n xs/\Q (.int xs.length) M
 |_=>False
def Kg:ou X (.builtin "len") jR:=by
 refine gK.imp (uk.or uj) ?_;rintro vs H R ⟨ds,M,ρ,Q,m,a,q,k⟩;unfold jR at q;split at q
 first|have z:=Reps.inv_cons a|have z:=az.inv_cons a
 clear a;obtain⟨_,_,rfl,b,a⟩:=z;cases a;cases b;exact .inr ⟨_,rfl,q.1,k _ H<|VQ.now m (.int _) q.2⟩
 first|have z:=Reps.inv_cons a|have z:=az.inv_cons a
 clear a;obtain⟨_,_,rfl,b,a⟩:=z;cases a;cases b with
 |tup h r=>exact .inl ⟨_,_,rfl,.inr h,k _ H<|VQ.now m (by rw[<-r.length];exact .int _) q⟩
 obtain⟨xs,L,q⟩:=q
 first|have z:=Reps.inv_cons a|have z:=az.inv_cons a
 clear a;obtain⟨_,_,rfl,b,a⟩:=z;cases a;obtain⟨_,rfl,e⟩:=u7.inv_ref b;obtain⟨s,c,r⟩:=ah.seq m L e;exact .inl ⟨_,_,rfl,.inl c,k _ H<|VQ.now m (by rw[<-r.length];exact .int _) q⟩;exact q.elim
noncomputable def bls(bs:List Bool):List D:=bs.map .bl
def Reps.bls{K:u6}{ρ:List d6}{H:Hp}:∀{bs:List Bool}{vs:List V},Reps K ρ H (L2.bls bs) vs->vs=bs.map V.bl
 | [],_,h=>by cases h;rfl
 |b::bs,_,h=>by
  cases h with
  |cons r t=>cases r;rw[Reps.bls t];rfl
def vU:∀{bs:List Bool}{us:List c6},az (bs.map V.bl) us->us=bs.map NX
 | [],_,h=>by cases h;rfl
 |b::bs,_,h=>by
  cases h with
  |cons r t=>cases r;rw[vU t];rfl
def yq{pins:List (d6×d7)}{σ:St}{H:Hp}{s:f9}{a:d6}{bs:List Bool}{G:f9->Prop}(I:t5 X pins σ H s)(x:X.calm=a9)(z:Kx X.K H a (bs.map V.bl))(g:∀s',t5 X pins σ H s'->G s'):∀(E:c6->f9->Prop),i0 (i4 X.prog X.w) X.A.in1 (j6<|.ref a) (λit s₂=>∃I fp wr n P St tr,it=F8 I/\Walks X.prog X.w X.A.in1 I fp wr n P St/\St 0 s₂.heap/\TruthOf X.prog X.w X.A.in1 P tr /\ (n=bs.length/\(∀i,i<bs.length->tr i=bs.getD i c5))/\∀h' tk,(∀b o,b∉wr->s₂.heap.get? b=a7 o->h'.get? b=a7 o)->G { s₂ with heap:=h',toks:=tk }) E s:=by
 intro E;obtain⟨its,D,p,J⟩:=I.list z;have c:=vU D;subst c;have l:=p.isList;have t:a<s.heap.objs.size:=by obtain⟨o,n,e,_⟩:=p;exact z8 e
 refine OQ l ?_;have j:t5 X pins σ H { s with heap:=s.heap.push { cls:=.type "list_iterator",data:=.fields #[.ref a,.int 0 0] } }:=I.kept (t':=s.toks) λb o e=>w5 _ e;refine⟨s.heap.objs.size,_,_,_,_,_,λi=>bs.getD i c5,rfl,Walks.list (A:=X.A.in1) (I.ok.hd x) s.heap.objs.size a (A4 t) (bs.map NX).toArray,⟨⟨_,B6 _ rfl,rfl,rfl⟩,l.push _⟩,?_,⟨b9,λi _=>rfl⟩,λh' tk C=>?_⟩;intro i v s' Q' F B Q;have h:(bs.map NX).toArray[i]?=a7 v:=B;rw[Qt,F5]at h;cases e:bs[i]? with
 |none=>rw[e]at h;cases h
 |some b =>
  rw[e]at h;cases h;refine Nl ?_;have:bs.getD i c5=b:=by rw[G8,e];rfl
  have d:Q' (bs.getD i c5) s':=Q;rw[this]at d;exact d
 have f:=I.fpOk (H':=H) (v7 _)<|I.hok.fresh<|v7 _;obtain⟨m,k,M,r,q,y⟩:=f;exact g _<|j.turned (t':=tk) (it:=s.heap.objs.size) (λb o u e=>C b o (by simpa using u) e) m k r q y
theorem Bw{bs:List Bool}{tr:Nat->Bool}(h:∀i,i<bs.length->tr i=bs.getD i c5):(B7 bs.length).all tr=bs.all id:=by rw[NF,z5,z5];constructor;intro g b d;obtain⟨i,hi,e⟩:=List.mem_iff_getElem.mp d;have:=g i<|G1.mpr hi;rw[h i hi,G8,A1 hi]at this;rw[<-e];exact this;intro g i hi;have a:=G1.mp hi;rw[h i a,G8,A1 a];exact g _<|KI a
def yB:J3:=λds M Q=>match ds with
 | [.ref n]=>∃bs,ah M n (bls bs)/\Q (.bl<|bs.all id) M
 |_=>False
theorem Ki(g:X.calm=a9:=by rfl):ou X (.builtin "all") yB:=by
 rintro p s σ H vs us R I v ⟨ds,M,ρ,Q,m,a,q,k⟩;unfold yB at q;split at q;obtain⟨bs,L,q⟩:=q
 first|have z:=Reps.inv_cons a|have z:=az.inv_cons a
 clear a;obtain⟨_,_,rfl,j,a⟩:=z;cases a;obtain⟨u,rfl,t⟩:=az.one v;obtain⟨_,rfl,e⟩:=u7.inv_ref j;cases t;obtain⟨x,h,r⟩:=ah.seq m L e;rw[r.bls]at h;refine call_all_walk<|v6 (yq (G:=λs'=>EP X p σ R (.bool<|bs.all id) s') I g h (λs' b=>jt b m k q) _) ?_;rintro it o ⟨J,C,w,n,P,Sx,tr,t,W,st,T,⟨c,d⟩,f⟩;subst c;exact⟨J,C,w,_,P,Sx,tr,t,W,st,T,λh' l i=>by rw[Bw d];exact f h' l i⟩;exact q.elim
end L2
namespace L2
open PySem PySem.Spec PyProof.Rows DL _root_.HT
theorem rh{t m:d6}{i:Array c6}{l u:c6}{lo hi:Option Int}{Q:c6->f9->Prop}(D:IsTup s.heap t i)(hs:s.heap.IsSliceOf m l u .none)(p:l9 l lo)(f:l9 u hi)(d:sIx i.size 0 lo=0/\sIx i.size i.size hi=i.size) (h:Q (.ref t) s):i0 (i4 prog w) A (m5 (.ref t)<|.ref m) Q E s:=by
 obtain⟨o,b,c,e⟩:=id hs;have a:s.TypeIs (.ref m) "slice":=⟨o,b,c⟩
 unfold m5
 try with_reducible refine J6 ?_
 first|refine t4 (u5 ?_)|skip
 refine t4<|wpAny_sequenceKey D.typeIs b0<|t4<|LZ (name:=x9 "__getitem__") D.typeIs MV<|K6 MV D.typeIs entry_tuple_getitem ?_<|args_tuple_getitem _ _;refine(show i0 (i4 prog w) _ (PN (.ref t) >>= _) _ _ s from t4<|tupleItemsOf_ D<|t4<|Nb a ?_);rw[o8<|by decide];refine t4<|gD hs p f ?_;refine(show i0 (i4 prog w) _ (if (((sIx i.size 0 lo:Nat):Int)==0&&(1:Int)==1&&(sIx i.size i.size hi-sIx i.size 0 lo)==i.size)=a9 then _ else _) _ _ s from ?_);rw[o8<|by rw[d.1,d.2];simp];unfold Builtin.Tuple.tupleIsExact;refine t4<|t4<|Nb D.typeIs<|u5 ?_;rw[o8<|by decide];exact t4<|M9<|u5 ⟨_,rfl,u5 h⟩
end L2
namespace L2
open PySem PySem.Spec PyProof.Rows DL
section
variable{X:Cx}{a b:i3}{ta tb:A3}{pos:i5}
def Lo.imp(h:Lo X r')(i:∀x y H R,r x y H R->r' x y H R):Lo X r:=λa e p s σ H x y v u R I g b q hs=>h a e p s σ H x y v u R I g b (i x y H R q) hs
def Reps.atI{K:u6}{ρ:List d6}{H:Hp}{ds:List D}{vs:List V}{i:Int}{d:D}(r:Reps K ρ H ds vs)(h:L2.atI ds i=a7 d):∃v,L2.atI vs i=a7 v/\u7 K ρ H d v:=by
 unfold L2.atI at h ⊢;rw[r.length]at h;cases e:LL vs.length i with
 |none=>rw[e]at h;cases h
 |some j=>rw[e]at h;obtain⟨v,c,a⟩:=r.get<|show ds[j]?=a7 d from h;exact⟨v,c,a⟩
def v9:J4:=λx y M Q=>match x,y with
 |.tup xs,.int i=>match L2.atI xs i with
  |some d=>Q d M
  |none=>False
 |.str z,.int i=>z.length<=sizeLine/\match L2.atI z.cps.toList i with
  |some c=>Q (.str ⟨#[c]⟩) M
  |none=>False
 |.ref n,.int i=>∃xs,ah M n xs/\match L2.atI xs i with
  |some d=>Q d M
  |none=>False
 |_,_=>False
def Gh:Lo X (lowR X.K v9):=by refine Lo.imp Jk ?_;rintro p s H R ⟨x,y,M,ρ,Q,m,b,l,q,k⟩;unfold v9 at q;split at q;rename_i xs i;split at q;rename_i d e;cases l;obtain⟨_,_,rfl,h,r⟩:=u7.inv_tup b;obtain⟨v,a,f⟩:=r.atI e;exact .inr<|.inl ⟨_,_,_,v,rfl,rfl,h,a,k _ H<|VQ.now m f q⟩;exact q.elim;rename_i z i;obtain⟨o,q⟩:=q;split at q;rename_i c e;cases l;cases b;exact .inr<|.inr ⟨z,i,c,rfl,rfl,o,e,k _ H<|VQ.now m (.str _) q⟩;exact q.elim;rename_i n i;obtain⟨xs,L,q⟩:=q;split at q;rename_i d e;cases l;obtain⟨_,rfl,g⟩:=u7.inv_ref b;obtain⟨vs,j,r⟩:=ah.seq m L g;obtain⟨v,a,f⟩:=r.atI e;exact .inl ⟨_,_,_,v,rfl,rfl,j,a,k _ H<|VQ.now m f q⟩;exact q.elim;exact q.elim
def d_ix(f:DE X a ta)(d:DE X b tb)(hs:vR b:=by intro _ _;rfl):DE X (.Subscript a b pos) (t6 v9 ta tb):=PE.imp (pe_ix Gh f d hs) qM
abbrev Mo:=SD->t7->(Option Int->t7->Prop)->Prop
def Hd(K:u6)(t:Mo):TO:=λσ H R=>∃S M ρ Q,v4 K ρ M H/\SRep K ρ H S σ/\t S M Q/\∀o H',(∃b a,v4 K a b H'/\Grow K ρ H a H'/\Q o b)->R o H'
def aX:Mo:=λ_ M Q=>Q a8 M
def cA(t:A3):Mo:=λS M Q=>t S M λx a=>match x with
 |.int i=>Q (a7 i) a
 |_=>False
def PO.imp(h:PO X e t')(i:∀σ H R,t σ H R->t' σ H R):PO X e t:=λp s σ H R I q=>h p s σ H R I<|i σ H R q
def GG:PO X a8 (Hd X.K aX):=by refine PO.imp Ff ?_;rintro σ H R ⟨S,M,ρ,Q,s,c,q,k⟩;exact k a8 H ⟨M,ρ,s,.refl,q⟩
def GF(h:DE X e te):PO X (a7 e) (Hd X.K<|cA te):=by
 refine PO.imp (Fe h) ?_;rintro σ H R ⟨S,M,ρ,Q,s,g,q,k⟩;refine⟨S,M,ρ,_,s,g,q,?_⟩;rintro v H1 ⟨d,a,c,f,g1,r,b⟩;cases r with
 |int i=>exact⟨i,rfl,k _ H1 ⟨a,c,f,g1,b⟩⟩
 |_=>exact b.elim
def Hz:Ow X (λx lo hi H Q=>∃z,x=.str z/\z.length<=sizeLine/\Q (.str<|Txt.slice z lo hi) H):=by
 intro b s σ H x v w y lo hi n Q I r hs f m h;obtain⟨z,rfl,d,q⟩:=h;obtain⟨t,rfl⟩:=r;have a:∀{v:c6}{o:Option Int},l9 v o->∃p:Option (Int×Tok),v=partValue p/\p.map (·.1)=o:=λh=>by
  cases h with
  |none=>exact⟨a8,rfl,rfl⟩
  |int i t=>exact⟨a7 (i,t),rfl,rfl⟩
 obtain⟨g,rfl,e⟩:=a f;obtain⟨j,rfl,c⟩:=a m;subst e c;refine⟨"str",_,slot_str_getitem.lookup,typeIs_str _ _ _,wpAny_getItem_str_slice (l:=g) (u:=j) (st:=a8) hs rfl ?_⟩;exact post_val_or_str ⟨KY (Txt.slice_le z _ _) d,λt' k=>⟨.str _,H,I.tok k,⟨t',rfl⟩,q⟩⟩
noncomputable def cutD(xs:List D)(lo hi:Option Int):List D:=(xs.drop<|HT.sIx xs.length 0 lo).take<|HT.sIx xs.length xs.length hi-HT.sIx xs.length 0 lo
def Reps.cutD{K:u6}{ρ:List d6}{H:Hp}{ds:List D}{vs:List V}(r:Reps K ρ H ds vs)(lo hi:Option Int):Reps K ρ H (L2.cutD ds lo hi) (Et vs lo hi):=by unfold L2.cutD Et;rw[r.length];exact(r.drop _).take _
def O2:D->Option Int->Option Int->t7->DK->Prop:=λx l hi M Q=>match x with
 |.str z=>z.length<=sizeLine/\Q (.str<|Txt.slice z l hi) M
 |.ref n=>∃xs,ah M n xs/\Q (.ref M.length) (M++[.lst<|cutD xs l hi])
 |.tup xs=>Q (.tup<|cutD xs l hi) M
 |_=>False
def lowSl(K:u6)(r:D->Option Int->Option Int->t7->DK->Prop):V->Option Int->Option Int->Hp->VK->Prop:=λf l hi H R=>∃x M ρ Q,v4 K ρ M H/\u7 K ρ H x f/\r x l hi M Q/\∀v H',VQ K ρ H Q v H'->R v H'
def sld:Ow X (lowSl X.K O2):=by
 rintro b s σ H x v o t l hi j R I g hs c u ⟨d,M,ρ,Q,m,i,q,k⟩;unfold O2 at q;split at q;cases i;exact Hz b s σ H _ v o t l hi j R I g hs c u ⟨_,rfl,q.1,k _ H<|VQ.now m (.str _) q.2⟩;obtain⟨xs,L,q⟩:=q;obtain⟨_,rfl,y⟩:=u7.inv_ref i;obtain⟨vs,z,r⟩:=ah.seq m L y;exact EM b s σ H _ v o t l hi j R I g hs c u ⟨_,vs,rfl,z,λp f=>k _ _<|VQ.laidL m .refl (r.cutD l hi) f q⟩;obtain⟨_,_,rfl,h,r⟩:=u7.inv_tup i;rename_i xs a vs;by_cases w:HT.sIx xs.length 0 l=0/\HT.sIx xs.length xs.length hi=xs.length;cases g;obtain⟨its,A,D,B⟩:=I.tuple h;have n:its.toArray.size=xs.length:=by rw[A5,r.length];exact A.length.symm
 have e:L2.cutD xs l hi=xs:=by unfold L2.cutD;rw[w.1,w.2,List.drop_zero,Nat.sub_zero,Mw]
 rw[e]at q;exact⟨"tuple",_,MV.lookup,D.typeIs,rh D hs c u (by rw[n];exact w) ⟨.ref _,H,I,rfl,k _ H<|VQ.now m (.tup h r) q⟩⟩;exact Hy b s σ H _ v o t l hi j R I g hs c u ⟨_,_,rfl,h,by rw[<-r.length];exact w,λp f=>k _ _<|VQ.laidT m .refl (r.cutD l hi) f q⟩;exact q.elim
def J1(te:A3)(t h:Mo):A3:=λS M Q=>te S M λx a=>t S a λl b=>h S b λu c=>O2 x l u c Q
def GM{e:i3}{te:A3}{lo hi:Option i3}{t h:Mo}{r:i5}(n:DE X e te)(o:PO X lo (Hd X.K t))(p:PO X hi (Hd X.K h)):DE X (.Subscript e (.Slice lo hi a8 r) pos) (J1 te t h):=by refine PE.imp (Cr sld n o p) ?_;rintro σ H R ⟨S,M,ρ,Q,s,c,q,k⟩;refine⟨S,M,ρ,_,s,c,q,?_⟩;rintro v H1 ⟨d,g,a,B,g1,A,x⟩;refine⟨S,g,a,_,B,c.grow g1,x,?_⟩;rintro l E ⟨i,b,C,j,y⟩;refine⟨S,i,b,_,C,c.grow<|g1.trans j,y,?_⟩;rintro u F ⟨m,f,D,g3,z⟩;exact⟨d,m,f,Q,D,A.grow<|j.trans g3,z,λv H' w=>k v H'<|VQ.trans ((g1.trans j).trans g3) w⟩
def mT:J4:=λx y M Q=>match x,y with
 |.int i,.int j=>CMul i j/\Q (.int<|i*j) M
 |.str z,.int n=>(0<=n/\n<2 ^ 63/\z.length*n.toNat<=sizeLine)/\Q (.str<|Txt.mul z n) M
 |_,_=>False
def ve(b:0<=n)(h:z.length*n.toNat<=sizeLine)(f:n<2 ^ 63):MulOk z n:=by
 refine⟨?_,λh1 h2=>?_,λh1 h2=>?_⟩;have a:decide (n < -(2 ^ 63:Int))=c5:=dF_ b7;have l:decide (n ≥ 2 ^ 63)=c5:=dF_ b7;rw[a,l];rfl;have c:(z.length:Int)*n<=2 ^ 24:=by
  have e:((z.length*n.toNat:Nat):Int)=(z.length:Int)*n:=by rw[Int.natCast_mul,Int.toNat_of_nonneg b]
  have h':((z.length*n.toNat:Nat):Int)<=(2 ^ 24:Nat):=Int.ofNat_le.mpr h;rw[e]at h';exact h'
 have s:0<n:=by lia
 intro t;have:=Int.lt_of_lt_of_le (Int.lt_mul_of_ediv_lt s t) c;lia;unfold PySem.Builtin.Str.tooLong;simpa using h
def Fw:J2 X (j9 .Mult) mT:=by
 rintro p s σ H f b v u R I g i ⟨x,y,M,ρ,Q,m,r,l,q,k⟩;unfold mT at q;split at q;cases r;cases l;exact Im p s σ H _ _ v u R I g i ⟨_,_,rfl,rfl,q.1,k _ H<|VQ.now m (.int _) q.2⟩;rename_i z n;cases r;cases l;obtain⟨t,rfl⟩:=g;obtain⟨t',rfl⟩:=i;obtain⟨⟨a,h2,h1⟩,q⟩:=q;exact PySem.SB.mul (ve a h1 h2) λt' j=>⟨.str _,H,I.tok j,⟨t',rfl⟩,k _ H<|VQ.now m (.str _) q⟩
 exact q.elim
variable{o e:i3}{es:List i3}{to:A3}{t:I9}{name:c8}{apos cpos:i5}{id:String}
def lowMs(K:u6)(r:c8->J3):V->List V->Hp->VK->Prop:=λf vs H R=>∃z ds M ρ Q,f=.str z/\v4 K ρ M H/\Reps K ρ H ds vs/\r z ds M Q/\∀v H',VQ K ρ H Q v H'->R v H'
def CL(K:u6)(r:Nat->J3):V->List V->Hp->VK->Prop:=λf vs H R=>∃n a ds M ρ Q,f=.ref a/\ρ[n]?=a7 a/\v4 K ρ M H/\Reps K ρ H ds vs/\r n ds M Q/\∀v H',VQ K ρ H Q v H'->R v H'
def Mm(r:Nat->J3)(d:A3)(t:I9):A3:=λS M Q=>d S M λx a=>match x with
 |.ref n=>(∃xs,ah a n xs)/\t S a λds b=>r n ds b Q
 |_=>False
theorem d_ml(slot:Slot "list" name id)(y:typeOf (.builtin id)=pure (.type "method_descriptor"))(C:Nv X id (CL X.K r))(D:DE X o to)(B:DA X (e::es) t)(b:attributeBase o name X.env (eval o X.env)=eval o X.env:=by rfl)(f:((i6 cpos<|i7 (e::es) X.env).all (λx=>!x.1)&&(backToKw cpos<|keywordEach [] X.env).all (λx=>x.1.isSome) && decide ((e::es).length+([]:List Keyword).length+(if ([]:List Keyword).isEmpty then 0 else 1)<30))=a9:=by rfl)(c:(apos.endLine==cpos.line)=a9:=by rfl) (hs:i7 (e::es) X.env=(c5,eval e X.env)::i7 es X.env:=by rfl) (h:(i6 cpos<|i7 es X.env).any (·.1)=c5:=by rfl):DE X (.Call (.Attribute o name apos) (e::es) [] cpos) (Mm r to t):=by
 refine PE.imp (pe_bm PySem.F.plainAttrs_list slot y C D B b f c hs h) ?_;rintro σ H R ⟨S,M,ρ,Q,s,z,q,k⟩;refine⟨S,M,ρ,_,s,z,q,?_⟩;rintro v H1 ⟨d,i,j,u,g1,I,g⟩;cases I with
 |@ref n a p =>
  obtain⟨⟨xs,L⟩,g⟩:=(show (∃xs,ah i n xs)/\t S i _ from g)
  obtain⟨vs,E,_⟩:=ah.seq u L p;refine⟨.inl ⟨rfl,vs,E⟩,S,i,j,_,u,z.grow g1,g,?_⟩;rintro vs O ⟨ds,A,l,N,m,J,G⟩;exact⟨n,a,ds,A,l,Q,rfl,aW m.pre p,N,J,G,λv H' w=>k v H'<|VQ.trans (g1.trans m) w⟩
 |_=>exact g.elim
def eS(n:Nat):J3:=λds M Q=>match ds with
 | [d]=>∃xs,M[n]?=a7 (.lst xs)/\xs.length<sizeLine/\Q .non (M.set n<|.lst<|xs++[d])
 |_=>False
def xQ:Nv X "list.append" (CL X.K eS):=by
 rintro p s σ H x xs v us R I l j ⟨n,a,ds,M,ρ,Q,c,f,m,b,q,k⟩;unfold eS at q;split at q;rename_i d;obtain⟨ys,e,g,q⟩:=q
 first|have z:=Reps.inv_cons b|have z:=az.inv_cons b
 clear b;obtain⟨_,_,rfl,i,b⟩:=z;cases b;obtain⟨vs,h,r⟩:=m.obj n a _ f e;obtain⟨w,t⟩:=m.write f e h<|r.append<|.cons i .nil;exact zV p s σ H x _ v us R I l j ⟨a,vs,_,c,rfl,h,by rw[<-r.length];exact g,k _ _ ⟨.non,_,ρ,w,t,.non,q⟩⟩;exact q.elim
end
def dq(K:u6)(mg:c8->Option c6)(x:c8)(st:i8)(ps:List c8):Prop:=∃f d,LO K x x st f d/\mg x=a7 (.ref f)/\oR K d ps []
def w4(P:d5)(w:c9)(K:u6)(mg:c8->Option c6)(base:d8)(k:Nat)(x:c8)(ps:List c8)(r:A7):Prop:=∃f d,FnOk P w K mg base G3 k f d ps (Lv K r)/\mg x=a7 (.ref f)/\Mt K (.ref f)=a9/\oR K d ps []
def fnat_mk{K:u6}{h:d8}{mg:c8->Option c6}{x:c8}{st:i8}{ps:List c8}{f:d6}{oc:c6}{j M:Option d6}{o:Array (Option c6)}{kV i U v R:c6}(X:K.In h) (G:h.Ns f6 mg) (a:LF K f6 x=a7 (a7<|.ref f))(l:K.lookup f=a7 ⟨oc,j,.func<|Mf x x (ju st) (bG st) (ao st) .none kV i U M v R,o⟩)(c:OJ K v x=a9) (k:Mt K (.ref f)=a9)(h:∀(kV i U:c6) (M:Option d6) (v R:c6) (us:List c6),us.length=ps.length->bindArgs (Mf x x (ju st) (bG st) (ao st) .none kV i U M v R) ⟨us,[]⟩=pure (ps.zip us)):dq K mg x st ps:=have F:=Jy (st:=st) l c k
 ⟨f,_,F,OF X G a,F.binds h⟩
def w4.of{P:d5}{w:c9}{K:u6}{mg:c8->Option c6}{base:d8}{x:c8}{st:i8}{N ps:List c8}{k:Nat}{d:A7}(F:dq K mg x st ps)(i:FnScope N ps (ao st))(B:∀ds M R,d ds M R->ds.length=ps.length) {t:t9}(r:∀(f:d6) (cdv:c6) (A:f8) (outer:List g7) (s:f9) (H:Hp) (E:XK),Room k (A.deeper<|c7 x (ao st) s.heap.objs.size f cdv)->Ma (jw G3 P w K mg base N x (ao st) f cdv A outer s H E).nox (bG st) t)(p:∀ds M R,d ds M R->t ⟨λ_ M'=>aE M R .non M',aE M R,λ_ _=>False,λ_ _=>False⟩ (bp N ds) M):w4 P w K mg base (k+1) x ps d:=by obtain⟨f,b,a,m,h⟩:=F;exact⟨f,b,d_fn d a i B λcdv A outer s H E c=>⟨t,r f cdv A outer s H E c,p⟩,m,a.kp,h⟩
def Gx{P:d5}{w:c9}{K:u6}{mg:c8->Option c6}{base:d8}{x:c8}{st:i8}{N ps:List c8}{k:Nat}{d:A7}{f:d6}{a:k8}(F:LO K x x st f a)(i:FnScope N ps (ao st))(B:∀ds M R,d ds M R->ds.length=ps.length) {t:t9}(r:∀(f:d6) (cdv:c6) (A:f8) (outer:List g7) (s:f9) (H:Hp) (E:XK),Room k (A.deeper<|c7 x (ao st) s.heap.objs.size f cdv)->Ma (jw G3 P w K mg base N x (ao st) f cdv A outer s H E).nox (bG st) t)(p:∀ds M R,d ds M R->t ⟨λ_ M'=>aE M R .non M',aE M R,λ_ _=>False,λ_ _=>False⟩ (bp N ds) M):FnOk P w K mg base G3 (k+1) f a ps (Lv K d):=d_fn d F i B λcdv A outer s H E h=>⟨t,r f cdv A outer s H E h,p⟩
def FnOk.more{P:d5}{w:c9}{K:u6}{mg:c8->Option c6}{base:d8}{CX:MG}{j k:Nat}{f:d6}{d:k8}{ps:List c8}{sp:Sp}(F:FnOk P w K mg base CX j f d ps sp)(h:j<=k):FnOk P w K mg base CX k f d ps sp:=⟨F.len,λA o s H O us vs Q E i=>F.run A o s H O us vs Q E<|i.mono h⟩
def d_cal(C:w4 X.prog X.w X.K X.mg X.base j x ps P)(r:Room k X.A)(a:DA X (e::es) t)(hj:j<=k:=by decide)(S:Gl X x:=by rfl) (b:(x==("__debug__":c8))=c5:=by decide) (i:i7 (e::es) X.env=(c5,eval e X.env)::i7 es X.env:=by rfl) (l:(i6 pos<|i7 es X.env).any (·.1)=c5:=by rfl):DE X (.Call (.Name x p) (e::es) [] pos) (u0 P t):=by obtain⟨f,c,F,m,h,d⟩:=C;exact Kc F (r.mono hj) m h d a S b i l
def GN(d:∃t,X.mg x=a7 (.int i t))(S:Gl X x:=by rfl)(b:(x==("__debug__":c8))=c5:=by decide):DE X (.Name x pos) (dC<|.int i):=by obtain⟨t,d⟩:=d;exact JZ d rfl ⟨t,rfl⟩ S b
def iz(h:M[n]?=a7 mo)(g:mo.isL=a9):ah M n mo.items:=by
 cases mo with
 |lst xs=>exact .inl h
 |fz xs=>exact .inr<|.inl h
 |kl xs=>exact .inr<|.inr h
 |dct xs=>cases g
 |dkt xs=>cases g
 |dkq _ xs=>cases g
 |fdc o xs=>cases g
 |dkm xs=>cases g
 |tb x b=>cases g
 |exc x e=>cases g
 |ins c s=>cases g
 |tl x p q e=>cases g
def jP{K:u6}{ρ:List d6}{H:Hp}:∀(ns:List Int),Reps K ρ H (ns.map D.int) (ns.map V.int)
 | []=>.nil
 |n::ns=>.cons (.int n)<|jP ns
noncomputable def lz(nm:List (c8×l6))(N N':List c8)(t:Nat)(s:List Nat)(c:g8):Bool:=c.kind==.function&&c.names.all (λy=>y.2 != .cell&&(y.2 != .local||c.names.lookup y.1==a7 .local)&&(y.2 != .free||(nm.lookup y.1==a7 .cell||nm.lookup y.1==a7 .free))) &&
 N'.length==t+s.length&&(B7 s.length).all λk=>match s[k]?,N'[t+k]? with
  |some j,a7 x=>N[j]?==a7 x&&c.names.lookup x==a7 .free&&(nm.lookup x==a7 .cell||nm.lookup x==a7 .free)
  |_,_=>c5
def BlkSc.chk(h:lz X.env.scope.names X.N N' nt js scope=a9):BlkSc X N' nt js scope:=by
 unfold lz at h;simp only[A2,z5,p7,Pi,bne_iff_ne]at h;obtain⟨⟨⟨h1,h2⟩,a⟩,d⟩:=h;refine⟨h1,λy O=>(h2 y O).1.1,λy O e=>((h2 y O).1.2.resolve_left<|λz=>z e),λy O e=>((h2 y O).2.resolve_left<|λz=>z e),a,λk j e=>?_⟩;have b:k<js.length:=(B5.mp e).1;have q:=d k<|G1.mpr b;rw[e]at q;cases f:N'[nt+k]? with
 |none=>rw[f]at q;exact p5 q<|by simp
 |some x=>rw[f]at q;simp only[A2,p7,Pi]at q;exact⟨x,rfl,q.1.1,q.1.2,q.2⟩
def MY(r:OA)(t:A3):A3:=λS M Q=>t S M λx a=>r x a Q
def d_un(B:Qa X (unaryOp op) r)(f:DE X a ta):DE X (.UnaryOp op a pos) (MY r ta):=by refine PE.imp (pe_un B f) ?_;rintro σ H R ⟨S,M,ρ,Q,s,i,q,k⟩;refine⟨S,M,ρ,_,s,i,q,?_⟩;rintro v H1 ⟨d,b,c,h,g1,g,e⟩;exact⟨d,b,c,Q,h,g,e,λv H' w=>k v H'<|VQ.trans g1 w⟩
def Cl:OA:=λx M Q=>match x with
 |.int i=>Q (.int (-i)) M
 |_=>False
def Hl:Qa X (unaryOp .USub) Cl:=by rintro p s σ H f v R I g ⟨x,M,ρ,Q,m,r,q,k⟩;unfold Cl at q;split at q;cases r;exact Hk p s σ H _ v R I g ⟨_,rfl,k _ H<|VQ.now m (.int _) q⟩;exact q.elim
noncomputable def D9(f:D->D->Bool):List D->List D->Bool
 | [],[]=>a9
 |x::xs,y::ys=>f x y&&D9 f xs ys
 |_,_=>c5
noncomputable def u8(M:t7):Nat->D->D->Bool
 |_,.non,.non=>a9
 |_,.bl a,.bl b=>a==b
 |_,.bl a,.int b=>(if a then 1 else 0)==b
 |_,.int a,.bl b=>a==(if b then 1 else 0)
 |_,.int a,.int b=>a==b
 |_,.str a,.str b=>a==b
 |n+1,.tup xs,.tup ys=>D9 (u8 M n) xs ys
 |n+1,.ref i,.ref j=>match M[i]?,M[j]? with
  |some a,a7 b=>D9 (u8 M n) a.items b.items
  |_,_=>c5
 |_,_,_=>c5
noncomputable def u9(M:t7):Nat->D->Bool
 |_,.ty _=>c5
 |n+1,.tup xs=>xs.all<|u9 M n
 |n+1,.ref i=>match M[i]? with
  |some a=>a.isL&&a.items.all (u9 M n)
  |none=>c5
 | 0,.tup _=>c5
 | 0,.ref _=>c5
 |_,_=>a9
def AT:∀{xs ys:List D},D9 f xs ys=a9->xs.length=ys.length
 | [],[],_=>rfl
 | [],_::_,h=>by simp[D9]at h
 |_::_,[],h=>by simp[D9]at h
 |x::xs,y::ys,h=>by simp only[D9,A2]at h;rw[D4,D4,AT h.2]
def Bv(n:Nat)(e:Nat->Bool):(B7<|n+1).all e=(e 0&&(B7 n).all λj=>e<|j+1):=by rw[List.range_succ_eq_map,KL,KD];rfl
def ue:∀{xs ys:List D}{e:Nat->Bool},xs.length=ys.length->(∀(j:Nat) x y,xs[j]?=a7 x->ys[j]?=a7 y->e j=f x y)->(B7 xs.length).all e=D9 f xs ys
 | [],[],e,_,_=>by simp[D9]
 | [],_::_,_,h,_=>by simp at h
 |_::_,[],_,h,_=>by simp at h
 |x::xs,y::ys,e,h,he=>by rw[D4,Bv,D9,he 0 x y rfl rfl,ue (by simpa using h) λj x' y' h1 h2=>he (j+1) x' y' (by simpa using h1)<|by simpa using h2]
def Ep(h:xs.length≠ys.length):D9 f xs ys=c5:=by
 cases q:D9 f xs ys with
 |false=>rfl
 |true=>exact p5 (AT q) h
def jB{vs:List V}{us:List c6}(h:az vs us){j:Nat}{v:V}(e:vs[j]?=a7 v):∃u,us[j]?=a7 u/\aR v u:=by
 induction h generalizing j with
 |nil=>simp at e
 |cons r _ i =>
  cases j with
  |zero=>simp at e;subst e;exact⟨_,rfl,r⟩
  |succ j=>exact i<|by simpa using e
section
variable{X:Cx}{pins:List (d6×d7)}{σ:St}{H:Hp}{s:f9}{ρ:List d6}{M:t7}
def mQ(I:t5 X pins σ H s)(m:v4 X.K ρ M H){i:Nat}{a:d6}{mo:MO}(e:ρ[i]?=a7 a)(d:M[i]?=a7 mo)(g:mo.isL=a9):∃vs its,Kx X.K H a vs/\Reps X.K ρ H mo.items vs/\az vs its/\PlainL s.heap a its.toArray:=by obtain⟨vs,q,r⟩:=ah.seq m (iz d g) e;obtain⟨its,b,p,_⟩:=I.list q;exact⟨vs,its,q,r,b,p⟩
def eW(d:M[i]?=a7 mo)(o:u9 M (n+1) (.ref i)=a9):mo.isL=a9/\mo.items.all (u9 M n)=a9:=by have o':(match M[i]? with|some a=>a.isL&&a.items.all (u9 M n)|none=>c5)=a9:=o;rw[d]at o';exact(A2 _ _).mp o'
def Dr(I:t5 X pins σ H s)(m:v4 X.K ρ M H):∀(n:Nat) (x y:D) (v:V),u7 X.K ρ H x v->u7 X.K ρ H y v->u9 M n x=a9->u9 M n y=a9->u8 M n x y=a9:=by
 have l:∀(n:Nat),(∀(x y:D) (v:V),u7 X.K ρ H x v->u7 X.K ρ H y v->u9 M n x=a9->u9 M n y=a9->u8 M n x y=a9) -> ∀(xs ys:List D) (vs:List V),Reps X.K ρ H xs vs->Reps X.K ρ H ys vs->xs.all (u9 M n)=a9->ys.all (u9 M n)=a9->D9 (u8 M n) xs ys=a9:=by
  intro n t xs;induction xs with
  |nil=>intro ys vs h1 h2 _ _;cases h1;cases h2;rfl
  |cons x xs hi =>
   intro ys vs h1 h2 o1 o2;cases h1 with
   |cons J P =>
    cases h2 with
    |cons N Q=>rw[KL,A2]at o1 o2;rw[D9,t _ _ _ J N o1.1 o2.1,hi _ _ P Q o1.2 o2.2];rfl
 intro n;induction n with
 |zero=>intro x y v h1 h2 o1 o2;cases h1<;>cases h2<;>first|(simp[u9]at o1;done)|rfl|simp[u8]
 |succ n t =>
  intro x y v h1 h2 o1 o2;cases h1 with
  |non=>cases h2;rfl
  |bl b=>cases h2;simp[u8]
  |int b=>cases h2;simp[u8]
  |str b=>cases h2;simp[u8]
  |ty b=>simp[u9]at o1
  |@tup a vs ds q r =>
   cases h2 with
   |tup h r'=>have e:=I.tuple_inj q h;subst e;exact l n t _ _ _ r r' (by simpa [u9]using o1)<|by simpa [u9]using o2
   |@ref i _ e =>
    exfalso;obtain⟨its,_,⟨o,u,w,_⟩,_⟩:=I.tuple q;have hi:i<M.length:=by rw[<-m.len];exact(B5.mp e).1
    obtain⟨k,d,_,_,_,⟨o',E,f,g,_⟩⟩:=mQ I m e (A1 hi) (eW (A1 hi) o2).1;rw[u]at f;cases f;rw[w]at g;injection g with f3;exact p5 f3<|by decide
  |@ref i a e =>
   have hi:i<M.length:=by rw[<-m.len];exact(B5.mp e).1
   have p:=A1 hi;obtain⟨vs,its,q,r,R,F⟩:=mQ I m e p (eW p o1).1;cases h2 with
   |tup h r'=>exfalso;obtain⟨d,_,⟨o,u,w,_⟩,_⟩:=I.tuple h;obtain⟨o',E,f,g,_⟩:=F;rw[u]at f;cases f;rw[w]at g;injection g with f3;exact p5 f3<|by decide
   |@ref j _ B =>
    have L:j<M.length:=by rw[<-m.len];exact(B5.mp B).1
    have c:=A1 L;obtain⟨k,d,h,r',O,G⟩:=mQ I m B c (eW c o2).1;have C:vs=k:=I.list_inj q h;subst C;have z:=(eW p o1).2;have A:=(eW c o2).2;simp only[u8,p,c];exact l n t _ _ _ r r' z A
def nW(I:t5 X pins σ H s)(sm:v4 X.K ρ M H):∀(n:Nat) (A:f8) (x y:D) (vx vy:V) (u v:c6),A.units+n<k7->u7 X.K ρ H x vx->aR vx u->u7 X.K ρ H y vy->aR vy v->u9 M n x=a9->u9 M n y=a9 ->Md A s u v (u8 M n x y)/\SeqAt.RcAt A s u v (u8 M n x y)/\SeqAt.RcNeAt A s u v (!u8 M n x y):=by
 intro n;induction n with
 |zero =>
  intro A x y vx vy u v hu Q w m l o1 o2;cases Q with
  |ty b=>simp[u9]at o1
  |tup b=>simp[u9]at o1
  |ref b=>simp[u9]at o1
  |non =>
   cases w;cases m with
   |ty b=>simp[u9]at o2
   |tup b=>simp[u9]at o2
   |ref b=>simp[u9]at o2
   |non=>cases l;exact⟨SeqAt.EqAt.same _,SeqAt.RcAt.none_none,SeqAt.RcNeAt.none_none⟩
   |bl b=>cases l;exact⟨SeqAt.EqAt.none_bool _,SeqAt.RcAt.none_bool _,SeqAt.RcNeAt.none_bool _⟩
   |int b=>obtain⟨t,rfl⟩:=l;exact⟨SeqAt.EqAt.none_int _ _,SeqAt.RcAt.none_int _ _,SeqAt.RcNeAt.none_int _ _⟩
   |str b=>obtain⟨t,rfl⟩:=l;exact⟨SeqAt.EqAt.none_str _ _,SeqAt.RcAt.none_str _ _,SeqAt.RcNeAt.none_str _ _⟩
  |bl a =>
   cases w;cases m with
   |ty b=>simp[u9]at o2
   |tup b=>simp[u9]at o2
   |ref b=>simp[u9]at o2
   |non=>cases l;exact⟨SeqAt.EqAt.bool_none _,SeqAt.RcAt.bool_none _,SeqAt.RcNeAt.bool_none _⟩
   |bl b=>cases l;exact⟨SeqAt.EqAt.bool_bool _ _,SeqAt.RcAt.bool_bool _ _,SeqAt.RcNeAt.bool_bool _ _⟩
   |int b=>obtain⟨t,rfl⟩:=l;exact⟨SeqAt.EqAt.bool_int _ _ _,SeqAt.RcAt.bool_int _ _ _,SeqAt.RcNeAt.bool_int _ _ _⟩
   |str b=>obtain⟨t,rfl⟩:=l;exact⟨SeqAt.EqAt.bool_str _ _ _,SeqAt.RcAt.bool_str _ _ _,SeqAt.RcNeAt.bool_str _ _ _⟩
  |int a =>
   obtain⟨t0,rfl⟩:=w;cases m with
   |ty b=>simp[u9]at o2
   |tup b=>simp[u9]at o2
   |ref b=>simp[u9]at o2
   |non=>cases l;exact⟨SeqAt.EqAt.int_none _ _,SeqAt.RcAt.int_none _ _,SeqAt.RcNeAt.int_none _ _⟩
   |bl b=>cases l;exact⟨SeqAt.EqAt.int_bool _ _ _,SeqAt.RcAt.int_bool _ _ _,SeqAt.RcNeAt.int_bool _ _ _⟩
   |int b=>obtain⟨t,rfl⟩:=l;exact⟨SeqAt.EqAt.int_int _ _ _ _,SeqAt.RcAt.int_int _ _ _ _,SeqAt.RcNeAt.int_int _ _ _ _⟩
   |str b=>obtain⟨t,rfl⟩:=l;exact⟨Qk _ _ _ _,SeqAt.RcAt.int_str _ _ _ _,SeqAt.RcNeAt.int_str _ _ _ _⟩
  |str a =>
   obtain⟨t0,rfl⟩:=w;cases m with
   |ty b=>simp[u9]at o2
   |tup b=>simp[u9]at o2
   |ref b=>simp[u9]at o2
   |non=>cases l;exact⟨SeqAt.EqAt.str_none _ _,SeqAt.RcAt.str_none _ _,SeqAt.RcNeAt.str_none _ _⟩
   |bl b=>cases l;exact⟨SeqAt.EqAt.str_bool _ _ _,SeqAt.RcAt.str_bool _ _ _,SeqAt.RcNeAt.str_bool _ _ _⟩
   |int b=>obtain⟨t,rfl⟩:=l;exact⟨Qj _ _ _ _,SeqAt.RcAt.str_int _ _ _ _,SeqAt.RcNeAt.str_int _ _ _ _⟩
   |str b=>obtain⟨t,rfl⟩:=l;exact⟨SeqAt.EqAt.str_str _ _ _ _,SeqAt.RcAt.str_str _ _ _ _,SeqAt.RcNeAt.str_str _ _ _ _⟩
 |succ n ih =>
  intro A x y vx vy u v hu Q w m l o1 o2;have c:A.units<k7:=by lia
  have ab:A.in1.units+n<k7:=by show A.units+1+n<k7;lia
  -- what a list or a tuple is,as the heap has it
  have tupAt:∀{a:d6}{vs:List V}{ds:List D},D0 X.K H a vs->Reps X.K ρ H ds vs->∃its:List c6,az vs its/\s.heap.IsTuple a its.toArray/\ds.length=its.length:=λ{a vs ds} q r=>by obtain⟨its,g,p,_⟩:=I.tuple q;exact⟨its,g,p,r.length.trans g.length⟩
  have lstAt:∀{i:Nat}{a:d6},ρ[i]?=a7 a->u9 M (n+1) (.ref i)=a9->∃o,M[i]?=a7 o/\∃vs its,Reps X.K ρ H o.items vs/\az vs its/\s.heap.IsList a its.toArray/\o.items.length=its.length:=λ{i a} e ok=>by
   have hi:i<M.length:=by rw[<-sm.len];exact(B5.mp e).1
   have z:=A1 hi;obtain⟨vs,its,q,r,g,p⟩:=mQ I sm e z (eW z ok).1;exact⟨_,z,vs,its,r,g,p.isList,r.length.trans g.length⟩
  have f:∀{xs ys:List D}{vs W:List V}{its d:List c6},Reps X.K ρ H xs vs->az vs its->Reps X.K ρ H ys W->az W d->xs.all (u9 M n)=a9->ys.all (u9 M n)=a9 -> ∀(j:Nat) (h1:j<its.toArray.size) (h2:j<d.toArray.size),Md A.in1 s its.toArray[j] d.toArray[j] (u8 M n (xs.getD j .non)<|ys.getD j .non):=λ{xs ys vs W its d} Q q1 m q2 o1 o2 j h1 h2=>by
   have l1:j<xs.length:=by rw[Q.length,q1.length];simpa using h1
   have l2:j<ys.length:=by rw[m.length,q2.length];simpa using h2
   obtain⟨v1,g1,p1⟩:=Q.get<|A1 l1;obtain⟨v2,g2,p2⟩:=m.get<|A1 l2;obtain⟨u1,k1,m1⟩:=jB q1 g1;obtain⟨u2,k2,m2⟩:=jB q2 g2;have z1:its.toArray[j]=u1:=by have:=(B5.mp k1).2;simpa using this
   have z2:d.toArray[j]=u2:=by have:=(B5.mp k2).2;simpa using this
   rw[z1,z2];have y1:xs.getD j .non=xs[j]:=by simp[List.getD,A1 l1]
   have y2:ys.getD j .non=ys[j]:=by simp[List.getD,A1 l2]
   rw[y1,y2];exact(ih A.in1 _ _ _ _ _ _ ab p1 m1 p2 m2 (z5.mp o1 _<|KI l1)<|z5.mp o2 _<|KI l2).1
  have U:∀(xs ys:List D),xs.length=ys.length->(B7 xs.length).all (λj=>u8 M n (xs.getD j .non)<|ys.getD j .non)=D9 (u8 M n) xs ys:=λxs ys h=>ue h λj x y h1 h2=>by simp[List.getD,h1,h2]
  have L:∀{a b:d6}{k:Bool},u7 X.K ρ H x (.ref a)->u7 X.K ρ H y (.ref b)->u8 M (n+1) x y=k->SeqAt.RcAt A s (.ref a) (.ref b) k->SeqAt.RcNeAt A s (.ref a) (.ref b) (!k) -> Md A s (.ref a) (.ref b) (u8 M (n+1) x y)/\SeqAt.RcAt A s (.ref a) (.ref b) (u8 M (n+1) x y)/\SeqAt.RcNeAt A s (.ref a) (.ref b) (!u8 M (n+1) x y):=λ{a b k} p1 p2 Y h1 h2=>by subst Y;refine⟨?_,h1,h2⟩;by_cases R:a=b;subst R;rw[Dr I sm (n+1) x y _ p1 p2 o1 o2];exact SeqAt.EqAt.same _;exact SeqAt.EqAt.of_refs R h1
  cases Q with
  |ty b=>simp[u9]at o1
  |non =>
   cases w;cases m with
   |ty b=>simp[u9]at o2
   |tup q r=>cases l;obtain⟨its,g,p,_⟩:=tupAt q r;exact⟨SeqAt.EqAt.none_tuple p c,SeqAt.RcAt.none_tuple p c,SeqAt.RcNeAt.none_tuple p c⟩
   |ref e=>cases l;obtain⟨o,z,vs,its,r,g,p,_⟩:=lstAt e o2;exact⟨SeqAt.EqAt.none_list p c,SeqAt.RcAt.none_list p c,SeqAt.RcNeAt.none_list p c⟩
   |non=>cases l;exact⟨SeqAt.EqAt.same _,SeqAt.RcAt.none_none,SeqAt.RcNeAt.none_none⟩
   |bl b=>cases l;exact⟨SeqAt.EqAt.none_bool _,SeqAt.RcAt.none_bool _,SeqAt.RcNeAt.none_bool _⟩
   |int b=>obtain⟨t,rfl⟩:=l;exact⟨SeqAt.EqAt.none_int _ _,SeqAt.RcAt.none_int _ _,SeqAt.RcNeAt.none_int _ _⟩
   |str b=>obtain⟨t,rfl⟩:=l;exact⟨SeqAt.EqAt.none_str _ _,SeqAt.RcAt.none_str _ _,SeqAt.RcNeAt.none_str _ _⟩
  |bl a =>
   cases w;cases m with
   |ty b=>simp[u9]at o2
   |tup q r=>cases l;obtain⟨its,g,p,_⟩:=tupAt q r;exact⟨SeqAt.EqAt.bool_tuple _ p c,SeqAt.RcAt.bool_tuple _ p c,SeqAt.RcNeAt.bool_tuple _ p c⟩
   |ref e=>cases l;obtain⟨o,z,vs,its,r,g,p,_⟩:=lstAt e o2;exact⟨SeqAt.EqAt.bool_list _ p c,SeqAt.RcAt.bool_list _ p c,SeqAt.RcNeAt.bool_list _ p c⟩
   |non=>cases l;exact⟨SeqAt.EqAt.bool_none _,SeqAt.RcAt.bool_none _,SeqAt.RcNeAt.bool_none _⟩
   |bl b=>cases l;exact⟨SeqAt.EqAt.bool_bool _ _,SeqAt.RcAt.bool_bool _ _,SeqAt.RcNeAt.bool_bool _ _⟩
   |int b=>obtain⟨t,rfl⟩:=l;exact⟨SeqAt.EqAt.bool_int _ _ _,SeqAt.RcAt.bool_int _ _ _,SeqAt.RcNeAt.bool_int _ _ _⟩
   |str b=>obtain⟨t,rfl⟩:=l;exact⟨SeqAt.EqAt.bool_str _ _ _,SeqAt.RcAt.bool_str _ _ _,SeqAt.RcNeAt.bool_str _ _ _⟩
  |int a =>
   obtain⟨t0,rfl⟩:=w;cases m with
   |ty b=>simp[u9]at o2
   |tup q r=>cases l;obtain⟨its,g,p,_⟩:=tupAt q r;exact⟨SeqAt.EqAt.int_tuple _ _ p c,SeqAt.RcAt.int_tuple _ _ p c,SeqAt.RcNeAt.int_tuple _ _ p c⟩
   |ref e=>cases l;obtain⟨o,z,vs,its,r,g,p,_⟩:=lstAt e o2;exact⟨SeqAt.EqAt.int_list _ _ p c,SeqAt.RcAt.int_list _ _ p c,SeqAt.RcNeAt.int_list _ _ p c⟩
   |non=>cases l;exact⟨SeqAt.EqAt.int_none _ _,SeqAt.RcAt.int_none _ _,SeqAt.RcNeAt.int_none _ _⟩
   |bl b=>cases l;exact⟨SeqAt.EqAt.int_bool _ _ _,SeqAt.RcAt.int_bool _ _ _,SeqAt.RcNeAt.int_bool _ _ _⟩
   |int b=>obtain⟨t,rfl⟩:=l;exact⟨SeqAt.EqAt.int_int _ _ _ _,SeqAt.RcAt.int_int _ _ _ _,SeqAt.RcNeAt.int_int _ _ _ _⟩
   |str b=>obtain⟨t,rfl⟩:=l;exact⟨Qk _ _ _ _,SeqAt.RcAt.int_str _ _ _ _,SeqAt.RcNeAt.int_str _ _ _ _⟩
  |str a =>
   obtain⟨t0,rfl⟩:=w;cases m with
   |ty b=>simp[u9]at o2
   |tup q r=>cases l;obtain⟨its,g,p,_⟩:=tupAt q r;exact⟨SeqAt.EqAt.str_tuple _ _ p c,SeqAt.RcAt.str_tuple _ _ p c,SeqAt.RcNeAt.str_tuple _ _ p c⟩
   |ref e=>cases l;obtain⟨o,z,vs,its,r,g,p,_⟩:=lstAt e o2;exact⟨SeqAt.EqAt.str_list _ _ p c,SeqAt.RcAt.str_list _ _ p c,SeqAt.RcNeAt.str_list _ _ p c⟩
   |non=>cases l;exact⟨SeqAt.EqAt.str_none _ _,SeqAt.RcAt.str_none _ _,SeqAt.RcNeAt.str_none _ _⟩
   |bl b=>cases l;exact⟨SeqAt.EqAt.str_bool _ _ _,SeqAt.RcAt.str_bool _ _ _,SeqAt.RcNeAt.str_bool _ _ _⟩
   |int b=>obtain⟨t,rfl⟩:=l;exact⟨Qj _ _ _ _,SeqAt.RcAt.str_int _ _ _ _,SeqAt.RcNeAt.str_int _ _ _ _⟩
   |str b=>obtain⟨t,rfl⟩:=l;exact⟨SeqAt.EqAt.str_str _ _ _ _,SeqAt.RcAt.str_str _ _ _ _,SeqAt.RcNeAt.str_str _ _ _ _⟩
  |@tup a vs ds q r =>
   cases w;obtain⟨its,g,p,P⟩:=tupAt q r;cases m with
   |ty b=>simp[u9]at o2
   |non=>cases l;exact⟨SeqAt.EqAt.tuple_none p c,SeqAt.RcAt.tuple_none p c,SeqAt.RcNeAt.tuple_none p c⟩
   |bl b=>cases l;exact⟨SeqAt.EqAt.tuple_bool _ p c,SeqAt.RcAt.tuple_bool _ p c,SeqAt.RcNeAt.tuple_bool _ p c⟩
   |int b=>obtain⟨t,rfl⟩:=l;exact⟨SeqAt.EqAt.tuple_int _ _ p c,SeqAt.RcAt.tuple_int _ _ p c,SeqAt.RcNeAt.tuple_int _ _ p c⟩
   |str b=>obtain⟨t,rfl⟩:=l;exact⟨SeqAt.EqAt.tuple_str _ _ p c,SeqAt.RcAt.tuple_str _ _ p c,SeqAt.RcNeAt.tuple_str _ _ p c⟩
   |ref e=>cases l;obtain⟨o,z,aj,T,r',O,G,_⟩:=lstAt e o2;exact⟨SeqAt.EqAt.tuple_list p G c,SeqAt.RcAt.tuple_list p G c,SeqAt.RcNeAt.tuple_list p G c⟩
   |@tup b W es J r' =>
    cases l;obtain⟨d,O,G,C⟩:=tupAt J r';have E:ds.all (u9 M n)=a9:=by simpa [u9]using o1
    have ok2:es.all (u9 M n)=a9:=by simpa [u9]using o2
    have ai:((B7<|min its.toArray.size d.toArray.size).all (λj=>u8 M n (ds.getD j .non)<|es.getD j .non)&&its.toArray.size==d.toArray.size)=D9 (u8 M n) ds es:=by rw[A5,A5];by_cases F:ds.length=es.length;rw[<-P,<-C,<-F,Nat.min_self,U ds es F];simp;rw[Ep F,<-P,<-C];simp[F]
    have h1:=SeqAt.RcAt.tuples p G c<|f r g r' O E ok2;have h2:=SeqAt.RcNeAt.tuples p G c<|f r g r' O E ok2;rw[ai]at h1 h2;exact L (.tup q r) (.tup J r') rfl h1 h2
  |@ref i a e =>
   cases w;obtain⟨o,z,vs,its,r,g,p,P⟩:=lstAt e o1;cases m with
   |ty b=>simp[u9]at o2
   |non=>cases l;exact⟨SeqAt.EqAt.list_none p c,SeqAt.RcAt.list_none p c,SeqAt.RcNeAt.list_none p c⟩
   |bl b=>cases l;exact⟨SeqAt.EqAt.list_bool _ p c,SeqAt.RcAt.list_bool _ p c,SeqAt.RcNeAt.list_bool _ p c⟩
   |int b=>obtain⟨t,rfl⟩:=l;exact⟨SeqAt.EqAt.list_int _ _ p c,SeqAt.RcAt.list_int _ _ p c,SeqAt.RcNeAt.list_int _ _ p c⟩
   |str b=>obtain⟨t,rfl⟩:=l;exact⟨SeqAt.EqAt.list_str _ _ p c,SeqAt.RcAt.list_str _ _ p c,SeqAt.RcNeAt.list_str _ _ p c⟩
   |tup J r'=>cases l;obtain⟨T,O,G,_⟩:=tupAt J r';exact⟨SeqAt.EqAt.list_tuple p G c,SeqAt.RcAt.list_tuple p G c,SeqAt.RcNeAt.list_tuple p G c⟩
   |@ref j b Z =>
    cases l;obtain⟨N,S,W,d,r',O,G,C⟩:=lstAt Z o2;have E:o.items.all (u9 M n)=a9:=(eW z o1).2;have ok2:N.items.all (u9 M n)=a9:=(eW S o2).2;have Y:u8 M (n+1) (.ref i) (.ref j)=D9 (u8 M n) o.items N.items:=by simp only[u8,z,S]
    by_cases F:o.items.length=N.items.length;have B:its.toArray.size=d.toArray.size:=by rw[A5,A5,<-P,<-C,F]
    have h1:=SeqAt.RcAt.lists p G B c<|f r g r' O E ok2;have h2:=SeqAt.RcNeAt.lists p G B c<|f r g r' O E ok2;rw[A5,<-P,U _ _ F]at h1 h2;exact L (.ref e) (.ref Z) Y h1 h2;have B:(its.toArray.size != d.toArray.size)=a9:=by rw[A5,A5,<-P,<-C];simpa using F
    have h1:=SeqAt.RcAt.lists_lengths p G B c;have h2:=SeqAt.RcNeAt.lists_lengths p G B c;exact L (.ref e) (.ref Z) (Y.trans<|Ep F) h1 h2
noncomputable def v3:Nat:=30
def G5:J4:=λx y M Q=>(u9 M v3 x=a9/\u9 M v3 y=a9)/\Q (.bl<|u8 M v3 x y) M
def Lw:J4:=λx y M Q=>(u9 M v3 x=a9/\u9 M v3 y=a9)/\Q (.bl<|!u8 M v3 x y) M
noncomputable def Ml(M:t7)(x:D)(ys:List D):Bool:=ys.any λy=>u8 M v3 y x
def DV(g:Bool):J4:=λx y M Q=>match y with
 |.tup ys=>(u9 M v3 x=a9/\ys.all (u9 M v3)=a9)/\Q (.bl<|Ml M x ys != g) M
 |.ref n=>∃ys,ah M n ys/\(u9 M v3 x=a9/\ys.all (u9 M v3)=a9)/\Q (.bl<|Ml M x ys != g) M
 |.str z=>match x with
  |.str p=>Q (.bl<|(!(Builtin.Str.occurrences z p 0 z.length 1).isEmpty) != g) M
  |_=>False
 |_=>False
abbrev P0:J4:=DV c5
abbrev pP:J4:=DV a9
end
def vX(i:Room k A):A.units+v3<k7:=by have:=i.un;unfold v3;lia
def od_eq{X:Cx}(i:Room k X.A):J2 X (k4 .Eq) G5:=by rintro p s σ H f b v u R I g a ⟨x,y,M,ρ,Q,m,r,l,⟨⟨o1,o2⟩,q⟩,k⟩;exact(nW I m v3 X.A x y f b v u (vX i) r g l a o1 o2).2.1 _ _ _ _<|jt I m k q
def od_ne{X:Cx}(i:Room k X.A):J2 X (k4 .NotEq) Lw:=by rintro p s σ H f b v u R I g a ⟨x,y,M,ρ,Q,m,r,l,⟨⟨o1,o2⟩,q⟩,k⟩;exact(nW I m v3 X.A x y f b v u (vX i) r g l a o1 o2).2.2 _ _ _ _<|jt I m k q
def uf{pins:List (d6×d7)}{σ:St}{H:Hp}{s:f9}{ρ:List d6}{M:t7}(I:t5 X pins σ H s)(m:v4 X.K ρ M H):∀(n:Nat) (x y z:D) (v:V),u7 X.K ρ H x v->u7 X.K ρ H y v->u9 M n x=a9->u9 M n y=a9->u8 M n x z=u8 M n y z:=by
 have l:∀(n:Nat),(∀(x y z:D) (v:V),u7 X.K ρ H x v->u7 X.K ρ H y v->u9 M n x=a9->u9 M n y=a9->u8 M n x z=u8 M n y z) -> ∀(xs ys d:List D) (vs:List V),Reps X.K ρ H xs vs->Reps X.K ρ H ys vs->xs.all (u9 M n)=a9->ys.all (u9 M n)=a9->D9 (u8 M n) xs d=D9 (u8 M n) ys d:=by
  intro n w xs;induction xs with
  |nil=>intro ys d vs h1 h2 _ _;cases h1;cases h2;rfl
  |cons x xs hi =>
   intro ys d vs h1 h2 o1 o2;cases h1 with
   |cons N Q =>
    cases h2 with
    |cons O R =>
     cases d with
     |nil=>rfl
     |cons z d=>rw[KL,A2]at o1 o2;rw[D9,D9,w _ _ z _ N O o1.1 o2.1,hi _ d _ Q R o1.2 o2.2]
 intro n;induction n with
 |zero=>intro x y z v h1 h2 o1 o2;cases h1<;>cases h2<;>first|rfl|(cases z<;>rfl)
 |succ n w =>
  intro x y z v h1 h2 o1 o2;cases h1 with
  |non=>cases h2;rfl
  |bl b=>cases h2;rfl
  |int b=>cases h2;rfl
  |str b=>cases h2;rfl
  |ty b=>cases h2;rfl
  |@tup a vs ds u r =>
   cases h2 with
   |tup h r' =>
    have e:=I.tuple_inj u h;subst e;cases z with
    |tup d=>exact l n w _ _ d _ r r' o1 o2
    |_=>rfl
   |@ref i _ e =>
    exfalso;obtain⟨its,_,⟨o,A,B,_⟩,_⟩:=I.tuple u;have hi:i<M.length:=by rw[<-m.len];exact(B5.mp e).1
    obtain⟨q,f,_,_,_,⟨o',F,g,p,_⟩⟩:=mQ I m e (A1 hi) (eW (A1 hi) o2).1;rw[A]at g;cases g;rw[B]at p;injection p with f3;exact p5 f3<|by decide
  |@ref i a e =>
   have hi:i<M.length:=by rw[<-m.len];exact(B5.mp e).1
   have t:=A1 hi;obtain⟨vs,its,u,r,T,G⟩:=mQ I m e t (eW t o1).1;cases h2 with
   |tup h r'=>exfalso;obtain⟨f,_,⟨o,A,B,_⟩,_⟩:=I.tuple h;obtain⟨o',F,g,p,_⟩:=G;rw[A]at g;cases g;rw[B]at p;injection p with f3;exact p5 f3<|by decide
   |@ref j _ C =>
    have L:j<M.length:=by rw[<-m.len];exact(B5.mp C).1
    have c:=A1 L;obtain⟨q,f,h,r',P,J⟩:=mQ I m C c (eW c o2).1;have E:vs=q:=I.list_inj u h;subst E;cases z with
    |ref k =>
     simp only[u8,t,c];cases M[k]? with
     |none=>rfl
     |some S=>exact l n w _ _ _ _ r r' (eW t o1).2 (eW c o2).2
    |_=>rfl
def AB{k:Nat}(E:Room k X.A){pins:List (d6×d7)}{σ:St}{H:Hp}{s:f9}{ρ:List d6}{M:t7}(I:t5 X pins σ H s)(m:v4 X.K ρ M H){x:D}{l:V}{v:c6}(G:u7 X.K ρ H x l)(J:aR l v)(o1:u9 M v3 x=a9):∀{ys:List D}{ws:List V}{its:List c6},Reps X.K ρ H ys ws->az ws its->ys.all (u9 M v3)=a9->∃e:c6->Bool,(∀u∈its,Md X.A.in1 s u v<|e u)/\its.any e=Ml M x ys:=by
 have w:X.A.in1.units+v3<k7:=by have:=E.un;show X.A.units+1+v3<k7;unfold v3;lia
 intro ys ws its i vs ok
 classical
 refine⟨λu=>if h:∃d a,u7 X.K ρ H d a/\aR a u/\u9 M v3 d=a9 then u8 M v3 h.choose x else c5,λu B=>?_,?_⟩;obtain⟨j,L,z⟩:=List.getElem_of_mem B;have y:j<ws.length:=by rw[vs.length];exact L
 obtain⟨d,n,f⟩:=i.getV<|A1 y;obtain⟨u',b,R⟩:=jB vs<|A1 y;have:u'=u:=by rw[A1 L]at b;cases b;exact z
 subst this;have o:=z5.mp ok _<|Kw n;have h:∃d a,u7 X.K ρ H d a/\aR a u'/\u9 M v3 d=a9:=⟨d,_,f,R,o⟩
 show Md X.A.in1 s u' v (if h:_ then _ else _);rw[dif_pos h];obtain⟨a,g,p,c⟩:=h.choose_spec;have C:=aR.inj p R;subst C;rw[uf I m v3 _ d x _ g f c o];exact(nW I m v3 X.A.in1 d x _ l _ v w f R G J (z5.mp ok _<|Kw n) o1).1;clear w o1;unfold Ml;induction ys generalizing ws its with
 |nil=>cases i;cases vs;rfl
 |cons d ds F =>
  cases i with
  |cons r t =>
  cases vs with
  |cons q t' =>
   rename_i a N u us;rw[KL,A2]at ok;have h:∃d a,u7 X.K ρ H d a/\aR a u/\u9 M v3 d=a9:=⟨d,_,r,q,ok.1⟩
   rw[OG,OG,F t t' ok.2,dif_pos h];obtain⟨O,g,p,c⟩:=h.choose_spec;have C:=aR.inj p q;subst C;rw[uf I m v3 _ d x _ g r c ok.1]
def Ea{X:Cx}(g:Bool)(D:Room k X.A):J2 X (k4<|if g then .NotIn else .In) (DV g):=by
 rintro E s σ H K N v u R I B C ⟨x,y,M,ρ,Q,m,n,G,q,k⟩;cases G with
 |non=>exact q.elim
 |bl b=>exact q.elim
 |int b=>exact q.elim
 |ty b=>exact q.elim
 |str z =>
  cases n with
  |str p =>
   obtain⟨t,rfl⟩:=B;obtain⟨t',rfl⟩:=C;cases g with
   |false=>exact in_str<|jt I m k<|by simpa [DV]using q
   |true=>exact notIn_str<|jt I m k<|by simpa [DV]using q
  |_=>exact q.elim
 |@tup a J ys j r =>
  cases C;obtain⟨⟨o1,o2⟩,q⟩:=(show (u9 M v3 x=a9/\_)/\_ from q)
  obtain⟨its,o,l,F⟩:=I.tuple j;obtain⟨e,i,f⟩:=AB D I m n B o1 r o o2;have d:its.toArray.any e=Ml M x ys:=by rw[<-f];simp
  cases g with
  |false=>exact SeqAt.in_tupleAt e l (λw c=>i w<|by simpa using c)<|by rw[d];exact jt I m k<|by simpa using q
  |true=>exact SeqAt.notIn_tupleAt e l (λw c=>i w<|by simpa using c)<|by rw[d];exact jt I m k<|by simpa using q
 |ref h =>
  cases C;obtain⟨ys,L,⟨o1,o2⟩,q⟩:=(show ∃ys,ah M _ ys/\(u9 M v3 x=a9/\_)/\_ from q)
  obtain⟨J,j,r⟩:=ah.seq m L h;obtain⟨its,o,l,F⟩:=I.list j;obtain⟨e,i,f⟩:=AB D I m n B o1 r o o2;have d:its.toArray.any e=Ml M x ys:=by rw[<-f];simp
  cases g with
  |false=>exact SeqAt.in_listAt e l.isList (λw c=>i w<|by simpa using c)<|by rw[d];exact jt I m k<|by simpa using q
  |true=>exact SeqAt.notIn_listAt e l.isList (λw c=>i w<|by simpa using c)<|by rw[d];exact jt I m k<|by simpa using q
def od_in(i:Room k X.A):J2 X (k4 .In) P0:=Ea c5 i
def CC(i:Room k X.A):J2 X (k4 .NotIn) pP:=Ea a9 i
def Kk:f7 "len" = a7 (.builtin "len"):=by decide +kernel
def Km:f7 "all" = a7 (.builtin "all"):=by decide +kernel
def fY:f7 "isinstance" = a7 (.builtin "isinstance"):=by decide +kernel
def uu:f7 "sorted" = a7 (.builtin "sorted"):=by decide +kernel
def Kl:f7 "int" = a7 (.type "int"):=by decide +kernel
def Kj:f7 "str" = a7 (.type "str"):=by decide +kernel
def GX:f7 "bool" = a7 (.type "bool"):=by decide +kernel
def GW:f7 "list" = a7 (.type "list"):=by decide +kernel
def DF:f7 "tuple" = a7 (.type "tuple"):=by decide +kernel
noncomputable def visB(c:g8)(x:c8):Bool:=match c.names.lookup x with
 |some .local=>a9
 |some .cell=>a9
 |some .free=>a9
 |_=>c5
def Hj(h:visB sc x=a9):Nt sc x:=by unfold visB at h;unfold Nt;split at h;rename_i e;exact .inl e;rename_i e;exact .inr<|.inl e;rename_i e;exact .inr<|.inr e;cases h
noncomputable def FF(c:g8)(x:c8):Bool:=match c.names.lookup x with
 |some .local=>a9
 |some .cell=>a9
 |_=>c5
def wN(h:FF sc x=a9):MZ sc x:=by unfold FF at h;unfold MZ;split at h;rename_i e;exact .inl e;rename_i e;exact .inr e;cases h
structure HE(X:Cx)(e:i3)(t:A3):Prop where
 ok:DE X e t
structure HT(X:Cx)(e:i3)(t:G9):Prop where
 ok:DT X e t
structure HW(X:Cx)(e:i3)(t:G9):Prop where
 ok:DW X e t
structure HA(X:Cx)(es:List i3)(t:I9):Prop where
 ok:DA X es t
structure HS(X:Cx)(e:i8)(t:t9):Prop where
 ok:DS X e t
structure HB(X:Cx)(e:List i8)(t:t9):Prop where
 ok:Ma X e t
structure HG(X:Cx)(e:i3)(t:KR):Prop where
 ok:DG X e t
structure HI(X:Cx)(tg e:i3)(t:Lz):Prop where
 ok:DI X tg e t
structure M7(X:Cx)(e:List i3)(t:G9):Prop where
 ok:Ly X e (lowT X.K t)
structure HO'(X:Cx)(e:Option i3)(t:Mo):Prop where
 ok:PO X e (Hd X.K t)
structure J5(X:Cx)(f:c6->c6->Sem c6)(r:J4):Prop where
 ok:J2 X f r
structure QO(X:Cx)(f:c6->Sem c6)(r:OA):Prop where
 ok:Qa X f r
structure HC(X:Cx)(f:c6)(r:J3):Prop where
 ok:ou X f r
structure HMs(X:Cx)(name:c8)(r:c8->J3):Prop where
 ok:∃id,Slot "str" name id/\typeOf (.builtin id)=pure (.type "method_descriptor")/\Nv X id (lowMs X.K r)
structure Qc(X:Cx)(name:c8)(r:Nat->J3):Prop where
 ok:∃id,Slot "list" name id/\typeOf (.builtin id)=pure (.type "method_descriptor")/\Nv X id (CL X.K r)
def k_var(h:X.N[i]?=a7 x:=by kernel_rfl)(c:visB X.env.scope x=a9:=by kernel_rfl)(a:(x==("__debug__":c8))=c5:=by kernel_rfl)(d:(x==("__classdict__":c8))=c5:=by kernel_rfl):HE X (.Name x pos) (ac i):=⟨d_var h (Hj c) a d⟩
def k_int:HE X (.Constant (.int i) j pos) (dC<|.int i):=⟨d_int⟩
def k_bl:HE X (.Constant (.bool i) j pos) (dC<|.bl i):=⟨d_bl⟩
def k_non:HE X (.Constant .none j pos) (dC .non):=⟨d_non⟩
def k_str:HE X (.Constant (.str i) j pos) (dC<|.str i):=⟨d_str⟩
def Gd(m:∃t,X.mg x=a7 (.int i t))(S:X.env.kindOf x=a7 .globalImplicit:=by kernel_rfl)(d:(x==("__debug__":c8))=c5:=by kernel_rfl):HE X (.Name x pos) (dC<|.int i):=⟨GN m S d⟩
def Jc(m:X.mg x=a8)(c:f7 x=a7 (.type T))(S:X.env.kindOf x=a7 .globalImplicit:=by kernel_rfl)(f:(x==("__name__":c8))=c5:=by kernel_rfl)(d:(x==("__debug__":c8))=c5:=by kernel_rfl):HE X (.Name x pos) (dC<|.ty T):=⟨JY m c S eh d⟩
def k_op(B:J5 X (j9 op) r)(f:HE X a ta)(d:HE X b tb):HE X (.BinOp a op b pos) (t6 r ta tb):=⟨d_op B.ok f.ok d.ok⟩
def k_un(B:QO X (unaryOp op) r)(f:HE X a ta):HE X (.UnaryOp op a pos) (MY r ta):=⟨d_un B.ok f.ok⟩
def k_cmp(B:J5 X (k4 op) r)(f:HE X a ta)(d:HE X b tb)(m:k6 op b=c5:=by kernel_rfl):HE X (.Compare a [op] [b] pos) (t6 r ta tb):=⟨d_cmp B.ok f.ok d.ok m⟩
def IM(B:J5 X (k4 op) r)(f:HE X a ta)(d:HE X b tb)(m:k6 op b=c5:=by kernel_rfl):HT X (.Compare a [op] [b] pos) (ar<|t6 r ta tb):=⟨JL B.ok f.ok d.ok m⟩
def Ge(B:J5 X (k4 op) r)(h:J5 X (k4 op') r')(f:HE X a ta)(d:HE X b tb)(e:HE X c tc)(m:lastMarks [op,op'] [b,c]=c5:=by kernel_rfl):HE X (.Compare a [op,op'] [b,c] pos) (gF r r' ta tb tc):=⟨GO B.ok h.ok f.ok d.ok e.ok m⟩
def CT(B:J5 X (k4 op) r)(h:J5 X (k4 op') r')(f:HE X a ta)(d:HE X b tb)(e:HE X c tc)(m:lastMarks [op,op'] [b,c]=c5:=by kernel_rfl):HT X (.Compare a [op,op'] [b,c] pos) (ar<|gF r r' ta tb tc):=⟨Ds B.ok h.ok f.ok d.ok e.ok m⟩
def IK(h:HE X e te)(i:∀whole,isTrue e X.env whole=(do let v <-whole;standAt e.pos;i9 [v] (truthy v)):=by intro _;kernel_rfl):HT X e (ar te):=⟨JJ h.ok i⟩
def FO(f:HT X a tA):HW X (.BoolOp .And [a] pos) tA:=⟨Gy f.ok⟩
def II(f:HT X a tA):HW X (.BoolOp .Or [a] pos) tA:=⟨JF f.ok⟩
def Eg{X:Cx}{a b:i3}{aO:List i3}{pos:i5}{A tB:G9}(f:HT X a A)(d:HW X (.BoolOp .And (b::aO) pos) tB):HW X (.BoolOp .And (a::b::aO) pos) (Ke A tB):=⟨JG f.ok d.ok⟩
def IJ{X:Cx}{a b:i3}{aO:List i3}{pos:i5}{A tB:G9}(f:HT X a A)(d:HW X (.BoolOp .Or (b::aO) pos) tB):HW X (.BoolOp .Or (a::b::aO) pos) (Fn A tB):=⟨dw_or f.ok d.ok⟩
def kw_t(h:HW X e tA):HT X e tA:=⟨dw_t h.ok⟩
def IL(f:HT X a tA):HT X (.UnaryOp .Not a pos) (cM tA):=⟨JK f.ok⟩
def k_one{op}(h:HE X a ta):HE X (.BoolOp op [a] pos) ta:=⟨d_one h.ok⟩
def k_and{X:Cx}{a b:i3}{aO:List i3}{t c:A3}{pos:i5}(f:HE X a t)(d:HE X (.BoolOp .And (b::aO) pos) c):HE X (.BoolOp .And (a::b::aO) pos) (eu t c):=⟨d_and f.ok d.ok⟩
def k_not(f:HE X a ta):HE X (.UnaryOp .Not a pos) (Bf ta):=⟨d_not f.ok⟩
def Jb:HA X [] af:=⟨JX⟩
def Gb(f:HE X e te)(i:HA X es t)(hs:i7 (e::es) X.env=(c5,eval e X.env)::i7 es X.env:=by kernel_rfl):HA X (e::es) (aa te t):=⟨GL f.ok i.ok hs⟩
def k_tup{x1}(h:HA X es t):HE X (.Tuple es x1 pos) (bc t):=⟨d_tup h.ok⟩
def k_lst(h:HA X es t):HE X (.List es pos) (cq t):=⟨d_lst h.ok⟩
theorem Gf{id:String}{r:J3}(c:HC X (.builtin id) r)(d:X.mg x=a8)(v:f7 x=a7 (.builtin id))(f:HA X (e::es) t)(S:X.env.kindOf x=a7 .globalImplicit:=by kernel_rfl)(n:(x==("__name__":c8))=c5:=by kernel_rfl)(b:(x==("__debug__":c8))=c5:=by kernel_rfl)(i:i7 (e::es) X.env=(c5,eval e X.env)::i7 es X.env:=by kernel_rfl) (l:(i6 pos<|i7 es X.env).any (·.1)=c5:=by kernel_rfl):HE X (.Call (.Name x p) (e::es) [] pos) (u0 r t):=⟨GP c.ok d v f.ok S (by simpa using n) b i l⟩
def Dc(c:HC X (.type T) r)(d:X.mg x=a8)(v:f7 x=a7 (.type T))(f:HA X (e::es) t)(S:X.env.kindOf x=a7 .globalImplicit:=by kernel_rfl)(n:(x==("__name__":c8))=c5:=by kernel_rfl)(b:(x==("__debug__":c8))=c5:=by kernel_rfl)(i:i7 (e::es) X.env=(c5,eval e X.env)::i7 es X.env:=by kernel_rfl) (l:(i6 pos<|i7 es X.env).any (·.1)=c5:=by kernel_rfl):HE X (.Call (.Name x p) (e::es) [] pos) (u0 r t):=⟨Dy c.ok d v f.ok S (by simpa using n) b i l⟩
def k_cal(C:w4 X.prog X.w X.K X.mg X.base j x ps P)(r:Room k X.A)(f:HA X (e::es) t)(hj:Nat.ble j k=a9:=by kernel_rfl)(S:X.env.kindOf x=a7 .globalImplicit:=by kernel_rfl) (b:(x==("__debug__":c8))=c5:=by kernel_rfl) (i:i7 (e::es) X.env=(c5,eval e X.env)::i7 es X.env:=by kernel_rfl) (l:(i6 pos<|i7 es X.env).any (·.1)=c5:=by kernel_rfl):HE X (.Call (.Name x p) (e::es) [] pos) (u0 P t):=⟨d_cal C r f.ok (Qs hj) S b i l⟩
def k_ix(f:HE X a ta)(d:HE X b tb)(hs:vR b:=by intro _ _;kernel_rfl):HE X (.Subscript a b pos) (t6 v9 ta tb):=⟨d_ix f.ok d.ok hs⟩
def FW:HO' X a8 aX:=⟨GG⟩
def FV(h:HE X e te):HO' X (a7 e) (cA te):=⟨GF h.ok⟩
def Gc{lo hi:Option i3}{t h:Mo}{j:i5}(i:HE X e te)(g:HO' X lo t)(u:HO' X hi h):HE X (.Subscript e (.Slice lo hi a8 j) pos) (J1 te t h):=⟨GM i.ok g.ok u.ok⟩
def k_ml(d:Qc X name r)(B:HE X o to)(f:HA X (e::es) t)(b:attributeBase o name X.env (eval o X.env)=eval o X.env:=by kernel_rfl)(w:((i6 cpos<|i7 (e::es) X.env).all (λx=>!x.1)&&(backToKw cpos<|keywordEach [] X.env).all (λx=>x.1.isSome) && decide ((e::es).length+([]:List Keyword).length+(if ([]:List Keyword).isEmpty then 0 else 1)<30))=a9:=by kernel_rfl)(c:(apos.endLine==cpos.line)=a9:=by kernel_rfl) (hs:i7 (e::es) X.env=(c5,eval e X.env)::i7 es X.env:=by kernel_rfl) (n:(i6 cpos<|i7 es X.env).any (·.1)=c5:=by kernel_rfl):HE X (.Call (.Attribute o name apos) (e::es) [] cpos) (Mm r to t):=let ⟨_,h1,h2,h3⟩:=d.ok;⟨d_ml h1 h2 h3 B.ok f.ok b w c hs n⟩
def IP:HB X [] aK:=⟨JP⟩
def IN{X:Cx}{st:i8}{ts:t9}(h:HS X st ts):HB X [st] ts:=⟨JO h.ok⟩
def FU{X:Cx}{st:i8}{s:List i8}{ts us:t9}(h1:HS X st ts)(h2:HB X s us):HB X (st::s) (aC ts us):=⟨GE h1.ok h2.ok⟩
def Ao(i:HE X e te)(hs:j0 e a8 pos.line X.env=pure c5:=by kernel_rfl):HS X (.Expr e pos) (nZ te):=⟨GC i.ok hs⟩
def Ej(i:HE X e te):HS X (.Return (a7 e) pos) (be te):=⟨JN i.ok⟩
def IR(h:HT X c tA)(f:HB X aS ts)(d:HB X bS us):HS X (.If c aS bS pos) (A6 tA ts us):=⟨ds_if h.ok f.ok d.ok⟩
def Ei(h:X.N.Nodup)(a:HE X e te)(hi:X.N[i]?=a7 x:=by kernel_rfl)(b:FF X.env.scope x=a9:=by kernel_rfl)(hs:j0 e (a7<|.Name x pos') pos.line X.env=pure c5:=by kernel_rfl)(f:X.fn x=a9:=by kernel_rfl):HS X (.Assign [.Name x pos'] e pos) (bD te i):=⟨JM h a.ok hi (wN b) hs<|.inl f⟩
def Ga(h:X.N.Nodup)(hi:X.N[i]?=a7 x:=by kernel_rfl)(a:FF X.env.scope x=a9:=by kernel_rfl)(f:X.fn x=a9:=by kernel_rfl):HG X (.Name x pos) (al i):=⟨vN h hi (wN a)<|.inl f⟩
def IW(h:X.N.Nodup)(hi:X.N[i]?=a7 x:=by kernel_rfl)(f:X.env.scope.names.lookup x=a7 .local:=by kernel_rfl):HG X (.Name x pos) (al i):=⟨vN h hi (.inl f)<|.inr f⟩
def IT(h:HE X e te):HI X tg e (bK te):=⟨JU h.ok⟩
def Ek{a:List i8}{b:t9}(hi:HI X tg iter di)(S:HG X tg g)(d:HB X a b)(p:PassesOwn (i4 X.prog X.w) X.A X.env X.xe:=by exact PassesOwn.never)(f:X.calm=a9:=by kernel_rfl)(hs:∀x,j8 iter X.env x=pure x:=by intro _;kernel_rfl):HS X (.For tg iter a [] pos) (nY di g b):=⟨JQ hi.ok S.ok d.ok p f hs⟩
def FS:M7 X [] kg:=⟨GA⟩
def FR(h:HT X c tA):M7 X [c] tA:=⟨Gz h.ok⟩
def k_lc(hi:HI X tg iter di)(S:∀cl s0 H0 ex,HG (z6 X N' scope cl s0 H0 ex) tg g) (D:∀cl s0 H0 ex,M7 (z6 X N' scope cl s0 H0 ex) ifs tt) (i:∀cl s0 H0 ex,HE (z6 X N' scope cl s0 H0 ex) elt te) (B:lz X.env.scope.names X.N N' nt js scope=a9:=by kernel_rfl) (f:X.calm=a9:=by kernel_rfl)(hs:∀x,j8 iter X.env x=pure x:=by intro _;kernel_rfl):HE X (.ListComp elt [⟨tg,iter,ifs,0⟩] scope pos) (E4 nt js di g tt te):=⟨d_lc (BlkSc.chk B) hi.ok (λcl s0 H0 ex=>(S cl s0 H0 ex).ok) (λcl s0 H0 ex=>(D cl s0 H0 ex).ok) (λcl s0 H0 ex=>(i cl s0 H0 ex).ok) f hs⟩
def As(d:X.mg "range" = a8)(f:HA X [a] t)(S:X.env.kindOf "range" = a7 .globalImplicit:=by kernel_rfl)(hs:i7 [a] X.env=[(c5,eval a X.env)]:=by kernel_rfl):HI X tg (.Call (.Name "range" p) [a] [] pos) (bJ t):=⟨AZ d f.ok S hs⟩
def Ar(d:X.mg "range" = a8)(f:HA X [a,b] t)(S:X.env.kindOf "range" = a7 .globalImplicit:=by kernel_rfl)(hs:i7 [a,b] X.env=[(c5,eval a X.env),(c5,eval b X.env)]:=by kernel_rfl)(c:i7 [b] X.env=[(c5,eval b X.env)]:=by kernel_rfl):HI X tg (.Call (.Name "range" p) [a,b] [] pos) (jv t):=⟨AY d f.ok S hs c⟩
def Jm:J5 X (j9 .Sub) BB:=⟨Iv⟩
def Jn:J5 X (j9 .Mult) mT:=⟨Fw⟩
def Gp:J5 X (j9 .FloorDiv) ck:=⟨Fy⟩
def Jo:J5 X (j9 .Mod) dR:=⟨Iw⟩
def ho_lt:J5 X (k4 .Lt) MX:=⟨od_lt⟩
def ho_le:J5 X (k4 .LtE) K7:=⟨od_le⟩
def ho_ge:J5 X (k4 .GtE) NR:=⟨od_ge⟩
def ho_is:J5 X (k4 .Is) Nr:=⟨od_is⟩
def ho_eq(i:Room k X.A):J5 X (k4 .Eq) G5:=⟨od_eq i⟩
def ho_ne(i:Room k X.A):J5 X (k4 .NotEq) Lw:=⟨od_ne i⟩
def ho_in(i:Room k X.A):J5 X (k4 .In) P0:=⟨od_in i⟩
def De(i:Room k X.A):J5 X (k4 .NotIn) pP:=⟨CC i⟩
def Jl:QO X (unaryOp .USub) Cl:=⟨Hl⟩
def Jp:HC X (.builtin "len") jR:=⟨Kg⟩
def Jr(f:X.calm=a9:=by kernel_rfl):HC X (.builtin "all") yB:=⟨Ki f⟩
def Jq:HC X (.builtin "isinstance") fF:=⟨Kh⟩
def AG:Qc X "append" eS:=⟨_,PySem.F.slot_list_append,PySem.F.type_list_append,xQ⟩
def w4.byH{P:d5}{w:c9}{K:u6}{mg:c8->Option c6}{base:d8}{x:c8}{st:i8}{N ps:List c8}{k:Nat}{d:A7}(F:dq K mg x st ps)(i:FnScope N ps (ao st))(B:∀ds M R,d ds M R->ds.length=ps.length) {t:t9}(r:∀(f:d6) (cdv:c6) (A:f8) (outer:List g7) (s:f9) (H:Hp) (E:XK),Room k (A.deeper<|c7 x (ao st) s.heap.objs.size f cdv)->HB (jw G3 P w K mg base N x (ao st) f cdv A outer s H E).nox (bG st) t)(p:∀ds M R,d ds M R->t ⟨λ_ M'=>aE M R .non M',aE M R,λ_ _=>False,λ_ _=>False⟩ (bp N ds) M):w4 P w K mg base (k+1) x ps d:=w4.of F i B (λf cdv A outer s H E h=>(r f cdv A outer s H E h).ok) p
def Dl{P:d5}{w:c9}{K:u6}{mg:c8->Option c6}{base:d8}{x:c8}{st:i8}{N ps:List c8}{k:Nat}{d:A7}{f:d6}{a:k8}(F:LO K x x st f a)(i:FnScope N ps (ao st))(B:∀ds M R,d ds M R->ds.length=ps.length) {t:t9}(r:∀(f:d6) (cdv:c6) (A:f8) (outer:List g7) (s:f9) (H:Hp) (E:XK),Room k (A.deeper<|c7 x (ao st) s.heap.objs.size f cdv)->HB (jw G3 P w K mg base N x (ao st) f cdv A outer s H E).nox (bG st) t)(p:∀ds M R,d ds M R->t ⟨λ_ M'=>aE M R .non M',aE M R,λ_ _=>False,λ_ _=>False⟩ (bp N ds) M):FnOk P w K mg base G3 (k+1) f a ps (Lv K d):=Gx F i B (λf cdv A outer s H E h=>(r f cdv A outer s H E h).ok) p
def xc(I:List D->SD->t7->Prop)(h0:∀S M,I [] S M->ok M/\E.nx S M)(h1:∀x xs S M,I (x::xs) S M->∀L:SD->t7->Prop,(∀S' M',I xs S' M'->L S' M')->ok M/\g x S M λS2 M2=>tb ⟨E7 k0 L,E.rt,E.nx,E7 k0 L⟩ S2 M2):∀xs S M,I xs S M->oP ok g tb E k0 xs S M
 | [],S,M,h=>h0 S M h
 |x::xs,S,M,h=>h1 x xs S M h _<|xc I h0 h1 xs
def bj(I:Nat->SD->t7->Prop)(a:∀S M,I xs.length S M->ok M/\E.nx S M)(h1:∀i x S M,xs[i]?=a7 x->I i S M->∀L:SD->t7->Prop,(∀S' M',I (i+1) S' M'->L S' M')->ok M/\g x S M λS2 M2=>tb ⟨E7 k0 L,E.rt,E.nx,E7 k0 L⟩ S2 M2)(h:I 0 S M):oP ok g tb E k0 xs S M:=by
 refine xc (λys S M=>∃i,xs.drop i=ys/\i+ys.length=xs.length/\I i S M) ?_ ?_ xs S M ⟨0,rfl,b9,h⟩;rintro S M ⟨i,_,e,q⟩;have:i=xs.length:=by simpa using e
 subst this;exact a S M q;rintro x ys S M ⟨i,e,l,q⟩ L b;have c:xs[i]?=a7 x:=by
  have:(xs.drop i)[0]?=a7 x:=by rw[e];rfl
  simpa using this
 refine h1 i x S M c q L λS' M' j=>b S' M' ⟨i+1,?_,by simp at l;lia,j⟩;rw[<-List.drop_drop,e];rfl
def E7.now(h:P S M):E7 k0 P S M:=.inl h
def bx{lo:Int}{n i:Nat}{x:D}:(kY lo n)[i]?=a7 x↔i<n/\x=.int (lo+(i:Int)):=by unfold kY;rw[F5];by_cases h:i<n;simp[h,eq_comm];simp[h]
def bb{lo:Int}{n:Nat}:(kY lo n).length=n:=by simp[kY]
def bF(p:D->Bool)(f:D->D)(I:SD->Prop)(hok:ok M):∀(xs acc:List D) (S:SD),(∀x∈xs,∀S,I S->∃S',I S'/\∀(Y:D->SD->t7->Prop) (Z:SD->t7->Prop),(if p x=a9 then Y (f x) S' M else Z S' M) -> g x S M λS2 M2=>tt S2 M2 λb M3=>if b=a9 then te S2 M3 λy M4=>Y y S2 M4 else Z S2 M3) ->I S->acc.length+xs.length<=sizeLine->Q (.ref M.length) (M++[.lst<|acc++(xs.filter p).map f])->fX ok g tt te Q xs acc S M
 | [],acc,S,_,_,_,q=>⟨hok,by simpa using q⟩
 |x::xs,acc,S,step,hS,hl,q=>by obtain⟨S',hS',k⟩:=step x A9 S hS;refine⟨hok,k (λy S2 M4=>acc.length<sizeLine/\fX ok g tt te Q xs (acc++[y]) S2 M4) (λS2 M3=>fX ok g tt te Q xs acc S2 M3) ?_⟩;have step':=λy hy=>step y<|C4 _ hy;rw[D4]at hl;by_cases hp:p x=a9;rw[o8 hp];refine⟨b7,bF p f I hok xs _ S' step' hS' (by rw[E2,Oj];lia) ?_⟩;rw[List.filter_cons_of_pos hp,B9]at q;rw[F0];exact q;rw[p0 hp];refine bF p f I hok xs acc S' step' hS' b7 ?_;rw[List.filter_cons_of_neg hp]at q;exact q
def aN(f:D->D)(I:SD->Prop)(K:ok M)(xs acc:List D) (S:SD) (L:∀x∈xs,∀S,I S->∃S',I S'/\∀(Y:D->SD->t7->Prop),Y (f x) S' M->g x S M λS2 M2=>te S2 M2 λy M4=>Y y S2 M4)(a:I S) (l:acc.length+xs.length<=sizeLine) (q:Q (.ref M.length) (M++[.lst<|acc++xs.map f])):fX ok g kg te Q xs acc S M:=by refine bF (λ_=>a9) f I K xs acc S (λx c S a=>?_) a l (by rw[List.filter_eq_self.mpr λ_ _=>rfl];exact q);obtain⟨S',b,k⟩:=L x c S a;refine⟨S',b,λY Z h=>?_⟩;rw[o8 rfl]at h;have:=k Y h;simp only[kg,p9];exact this
def ak:(M++[mo])[M.length]?=a7 mo:=by simp
def ae:ah (M++[.lst xs]) M.length xs:=.inl ak
def ah.more(h:ah M n xs)(L:t7):ah (M++L) n xs:=by
 have l:∀{mo:MO},M[n]?=a7 mo->(M++L)[n]?=a7 mo:=λe=>by rw[G4 (B5.mp e).1];exact e
 rcases h with h|h|h;exact .inl<|l h;exact .inr<|.inl<|l h;exact .inr<|.inr<|l h
def ah.lt(h:ah M n xs):n<M.length:=by rcases h with h|h|h<;>exact(B5.mp h).1
def ah.ty(h:ah M n xs):A0 M (.ref n) = "list":=by
 show (match M[n]? with|some mo=>if mo.isL=a9 then "list" else "?" |none=>"?") = "list"
 rcases h with h|h|h<;>(rw[h];rfl)
def aE.keep(h:R d M)(b:D5 M.length d)(p:M <+: M'):aE M R d M':=.inr<|.inl ⟨M,.refl,b,p,h⟩
def aE.now(h:R d M):aE M R d M:=.inl h
def aE.bl(h:R (.bl b) M)(p:M <+: M'):aE M R (.bl b) M':=.keep h (.bl b) p
def aL:M <+: M++[mo]:=Kv _ _
def uO{a b:c8}(h:a.cps.toList=b.cps.toList):a=b:=by cases a;cases b;simp only[Array.toList_inj]at h;simpa using h
def jr{a:c8}:a.length=a.cps.toList.length:=by show a.cps.size=_;simp
def Bt{a b:c8}:(a++b).cps.toList=a.cps.toList++b.cps.toList:=by show (a.cps++b.cps).toList=_;simp
def oo{a b:c8}:(a++b).length=a.length+b.length:=by rw[jr,jr,jr,Bt,E2]
def nB:(⟨#[c]⟩:c8).length=1:=rfl
def ag(h:n<=1000):n<=sizeLine:=Mr<|bA h
def glob_mk{K:u6}{h:d8}{mg:c8->Option c6}{x:c8}{u:c6}{i:Int}(X:K.In h)(G:h.Ns f6 mg)(a:LF K f6 x=a7 (a7 u))(b:∃t,u=Value.int i t):∃t,mg x=a7 (.int i t):=by obtain⟨t,rfl⟩:=b;exact⟨t,OF X G a⟩
def qg{α:Type}{xs:List α}{i:Int}(a:0<=i)(h1:i<xs.length):∃(j:Nat) (hj:j<xs.length),atI xs i=a7 xs[j]/\(j:Int)=i:=by
 have hj:i.toNat<xs.length:=by lia
 refine⟨i.toNat,hj,?_,b7⟩;have e:i=((i.toNat:Nat):Int):=by lia
 have q:atI xs ((i.toNat:Nat):Int)=a7 xs[i.toNat]:=aY<|A1 hj;rw[<-e]at q;exact q
def kG{α:Type}{xs:List α}{r:Int}(h:0<xs.length):∃(j:Nat) (hj:j<xs.length),atI xs (r % (xs.length:Int))=a7 xs[j]/\(j:Int)=r % (xs.length:Int):=qg (KH _<|by lia)<|K1 _<|by lia
def rF(M:t7)(d:D):Prop:=A0 M d∈qm/\∀x,d=.str x->x.length<=sizeLine
def yW:rF M .non:=⟨by simp[A0,qm],λ_ h=>by cases h⟩
def BV:rF M (.bl b):=⟨by simp[A0,qm],λ_ h=>by cases h⟩
def yX:rF M (.int b):=⟨by simp[A0,qm],λ_ h=>by cases h⟩
def yT:rF M (.tup b):=⟨by simp[A0,qm],λ_ h=>by cases h⟩
def yU(h:x.length<=1000):rF M (.str x):=⟨by simp[A0,qm],λ_ e=>by cases e;exact ag h⟩
def yV(h:ah M n xs):rF M (.ref n):=⟨by rw[h.ty];simp[qm],λ_ e=>by cases e⟩
def cS(h:A0 M (.ref n)∈qm):A0 M (.ref n) = "list":=by
 unfold A0 at h ⊢
 try dsimp only at h ⊢
 cases e:M[n]? with
 |some m =>
  rw[e]at h;cases q:m.isL with
  |true=>exact o8 q
  |false=>simp only[q,C8,p8]at h;exact p5 h<|by decide
 |none=>rw[e]at h;exact p5 h<|by decide
def ah.get(h:ah M n xs):∃mo,M[n]?=a7 mo/\mo.items=xs/\mo.isL=a9:=by rcases h with h|h|h<;>exact⟨_,h,rfl,rfl⟩
def iN(h1:ah M i xs)(h2:ah M j ys):u8 M (n+1) (.ref i) (.ref j)=D9 (u8 M n) xs ys:=by obtain⟨a,f,rfl,h⟩:=h1.get;obtain⟨b,d,rfl,c⟩:=h2.get;simp only[u8,f,d]
def ef(h1:ah M i xs)(h:∀x∈xs,u9 M n x=a9):u9 M (n+1) (.ref i)=a9:=by obtain⟨a,f,rfl,b⟩:=h1.get;simp only[u9,f,b,Nf];exact z5.mpr h
def zU(h:∀x∈xs,u9 M n x=a9):u9 M (n+1) (.tup xs)=a9:=by simp only[u9];exact z5.mpr h
def da:u9 M n (.str x)=a9:=by cases n<;>rfl
def aM:u9 M n (.int x)=a9:=by cases n<;>rfl
def nC:u9 M n (.bl x)=a9:=by cases n<;>rfl
def kA:u9 M n .non=a9:=by cases n<;>rfl
def rp:D9 f xs []=xs.isEmpty:=by cases xs<;>rfl
def AV:u8 M n (.bl a) (.bl b)=(a==b):=by cases n<;>rfl
def cG:u8 M n (.int a) (.int b)=(a==b):=by cases n<;>rfl
def AU:u8 M n (.str a) (.str b)=(a==b):=by cases n<;>rfl
noncomputable def P7:D->Nat
 |.str x=>x.cps.toList.headD 0
 |_=>0
def GQ:P7 (.str ⟨#[c]⟩)=c:=rfl
def sU(h:d∈kr x):∃c∈x.cps.toList,d=.str ⟨#[c]⟩:=by obtain⟨c,f,rfl⟩:=w9.mp h;exact⟨c,f,rfl⟩
def zu{x:c8}:(kr x).length=x.length:=by rw[jr];simp[kr]
def gJ:Hb:=λds S M Q=>match ds with
 | []=>Q S M
 |_=>False
def aQ(t:KR)(u:Hb):Hb:=λds S M Q=>match ds with
 |d::r=>t d S M λb a=>u r b a Q
 | []=>False
def gI(n:Nat)(t:Hb):KR:=λd S M Q=>match d with
 |.tup ds=>ds.length=n/\t ds S M Q
 |_=>False
def GJ:OB X [] gJ:=by
 rintro p s σ H vs us R I r ⟨ds,S,M,ρ,Q,m,c,d,q,k⟩;cases d with
 |nil=>exact Fg p s σ H _ us R I r ⟨rfl,k σ H ⟨S,M,ρ,m,.refl,c,q⟩⟩
 |cons _ _=>exact q.elim
def Dv(h1:DG X e t)(h2:OB X es u)(hs:(j3 (e::es) X.env).map (·.2)=j2 e X.env::(j3 es X.env).map (·.2):=by rfl):OB X (e::es) (aQ t u):=by
 rintro p s σ H vs us R I r ⟨ds,S,M,ρ,Q,m,j,d,q,k⟩;cases d with
 |nil=>exact q.elim
 |cons h d=>refine Cq h1 h2 hs p s σ H _ us R I r ⟨_,_,rfl,_,S,M,ρ,_,m,j,h,q,?_⟩;rintro l H1 ⟨S1,f,c,i,g1,a,g⟩;exact⟨_,S1,f,c,Q,i,a,d.grow g1,g,λb H' w=>k b H'<|SQ.trans g1 w⟩
def JV(h:OB X es t)(f:X.calm=a9:=by rfl)(b:(j3 es X.env).length=n:=by rfl) (c:(j3 es X.env).findIdx? (·.1)=a8:=by rfl):DG X (.Tuple es j pos) (gI n t):=by
 rintro p s σ H v u R I r ⟨d,S,M,ρ,Q,m,i,g,q,k⟩;cases g with
 |tup e a=>exact HY f h b c p s σ H _ u R I r ⟨_,_,rfl,e,by rw[<-a.length];exact q.1,_,S,M,ρ,Q,m,i,a,q.2,k⟩
 |_=>exact q.elim
def BE(te:A3)(g:KR):t9:=λE S M=>te S M λd a=>g d S a E.nx
def JR(i:DE X e te)(h:DG X tg g)(hs:swapsWithSole [tg] e pos.line X.env=pure c5:=by rfl)(f:swappedStores [tg] e X.env=pure a8:=by rfl)(h1:(j3 [tg] X.env).map (·.2)=[j2 tg X.env]:=by rfl):DS X (.Assign [tg] e pos) (BE te g):=by refine PS.imp (HV i h hs f h1) ?_;rintro E σ H ⟨S,M,ρ,F,s,r,q,k⟩;refine⟨S,M,ρ,_,s,r,q,?_⟩;rintro v H1 ⟨d,b,c,m,g1,l,j⟩;exact⟨d,S,b,c,_,m,r.grow g1,l,j,λa H' w=>k.nx a H'<|SQ.trans g1 w⟩
def qSet:D->D->D->t7->(t7->Prop)->Prop:=λo i v M Q=>match o,i with
 |.ref n,.int k=>∃xs j,M[n]?=a7 (.lst xs)/\LL xs.length k=a7 j/\Q (M.set n<|.lst<|xs.set j v)
 |_,_=>False
def Reps.set{K:u6}{ρ:List d6}{H:Hp}{d:D}{v:V}(r:u7 K ρ H d v):∀{ds:List D}{vs:List V} (i:Nat),Reps K ρ H ds vs->Reps K ρ H (ds.set i d) (vs.set i v)
 |_,_,_,.nil=>.nil
 |_,_,0,.cons _ t=>.cons r t
 |_,_,i+1,.cons q t=>.cons q<|Reps.set r i t
def Dw(d t:A3):KR:=λv S M Q=>d S M λo a=>t S a λi b=>qSet o i v b λc=>Q S c
def JW(E:DE X o to)(hi:DE X i ti)(D:∀v,j2 (.Subscript o i pos) X.env v=(do
   let ov <-i9 [v] (eval o X.env)
   let iv <-i9 [v,ov] (eval i X.env)
   standAt pos
   i9 [v,ov,iv] (setItem ov iv v)
   release [v,ov,iv] []):=by intro _;rfl):DG X (.Subscript o i pos) (Dw to ti):=by
 rintro p s σ H v u R I r ⟨d,S,M,ρ,Q,P,f,N,q,k⟩;refine HZ E hi Ce D p s σ H v u R I r ⟨S,M,ρ,_,P,f,q,?_⟩;rintro W H1 ⟨o',C,h,O,g1,J,F⟩;refine⟨S,C,h,_,O,f.grow g1,F,?_⟩;rintro V U ⟨i',m,l,A,g,K,b⟩;have c:=J.grow g;cases c with
 |@ref n a w =>
  cases K with
  |int j =>
   obtain⟨xs,y,e,L,G⟩:=(show ∃xs x,m[n]?=a7 (.lst xs)/\LL xs.length j=a7 x/\Q S (m.set n<|.lst<|xs.set x d)from b)
   obtain⟨vs,t,z⟩:=A.obj n a _ w e;obtain⟨T,B⟩:=A.write w e t<|Reps.set (N.grow<|g1.trans g) y z;exact⟨a,vs,j,y,rfl,rfl,t,by rw[<-z.length];exact L,k σ _ ⟨S,_,l,T,(g1.trans g).trans B,f.grow<|(g1.trans g).trans B,G⟩⟩
  |_=>exact b.elim
 |_=>exact b.elim
def eV:J3:=λds M Q=>match ds with
 | [.ref n]=>∃xs,ah M n xs/\Q (.ref M.length) (M++[.lst xs])
 | [.tup xs]=>Q (.ref M.length)<|M++[.lst xs]
 |_=>False
def GR:ou X (.type "list") eV:=by
 refine gK.imp ui ?_;rintro vs H R ⟨ds,M,ρ,Q,m,a,q,k⟩;unfold eV at q;split at q;obtain⟨xs,L,q⟩:=q
 first|have z:=Reps.inv_cons a|have z:=az.inv_cons a
 clear a;obtain⟨_,_,rfl,b,a⟩:=z;cases a;obtain⟨_,rfl,e⟩:=u7.inv_ref b;obtain⟨s,h,r⟩:=ah.seq m L e;exact⟨_,s,rfl,.inl h,λl g=>k _ _<|VQ.laidL m .refl r g q⟩
 first|have z:=Reps.inv_cons a|have z:=az.inv_cons a
 clear a;obtain⟨_,_,rfl,b,a⟩:=z;cases a;cases b with
 |tup h r=>exact⟨_,_,rfl,.inr h,λl g=>k _ _<|VQ.laidL m .refl r g q⟩
 exact q.elim
def bX:J3:=λds M Q=>match ds with
 | [.ref n]=>∃xs,ah M n xs/\Q (.tup xs) M
 | [.tup xs]=>Q (.tup xs) M
 |_=>False
def DB:ou X (.type "tuple") bX:=by
 refine gK.imp rD ?_;rintro vs H R ⟨ds,M,ρ,Q,m,a,q,k⟩;unfold bX at q;split at q;obtain⟨xs,L,q⟩:=q
 first|have z:=Reps.inv_cons a|have z:=az.inv_cons a
 clear a;obtain⟨_,_,rfl,b,a⟩:=z;cases a;obtain⟨_,rfl,e⟩:=u7.inv_ref b;obtain⟨s,h,r⟩:=ah.seq m L e;exact⟨_,s,rfl,.inl ⟨h,λl g=>k _ _<|VQ.laidT m .refl r g q⟩⟩
 first|have z:=Reps.inv_cons a|have z:=az.inv_cons a
 clear a;obtain⟨_,_,rfl,b,a⟩:=z;cases a;cases b with
 |tup h r=>exact⟨_,_,rfl,.inr ⟨h,k _ H<|VQ.now m (.tup h r) q⟩⟩
 exact q.elim
theorem Cw:D8 X (j9 .Add) (λx y H Q=>∃a b ys,x=.ref a/\y=.ref b/\D0 X.K H a []/\D0 X.K H b ys/\Q (.ref b) H):=by intro r s σ H x y v u Q I G J h;obtain⟨a,b,ys,rfl,rfl,z,A,q⟩:=h;cases G;cases J;obtain⟨its,F,D,_⟩:=I.tuple z;obtain⟨p,M,E,_⟩:=I.tuple A;have e:its=[]:=F.nil_iff.mpr rfl;subst e;obtain⟨⟨t,w,l,L⟩,B,m,n,o⟩:=id D;obtain⟨⟨k,g,i,j⟩,f,c,C,d⟩:=id E;simp only at m o c d;subst m o c d;exact concat_meets ⟨_,B,rfl⟩ ⟨_,f,rfl⟩ noFill_tuple_add seq_tuple_add Qx Qy (QB _ _) (tuple_addW0 a b _ _ n C w g L j<|by simp) ⟨B,f,⟨.ref b,H,I,rfl,q⟩⟩
def aF:J4:=λx y M Q=>match x,y with
 |.tup xs,.tup ys=>xs.length+ys.length<=sizeLine/\Q (.tup<|xs++ys) M
 |_,_=>qAdd x y M Q
def Fz:J2 X (j9 .Add) aF:=by
 rintro c s σ H f j v u R I g i ⟨x,y,M,ρ,Q,m,r,e,q,k⟩;unfold aF at q;split at q;rename_i xs ys;obtain⟨a,vs,rfl,h1,E⟩:=u7.inv_tup r;obtain⟨b,w,rfl,h2,F⟩:=u7.inv_tup e;have l:=E.length;have d:=F.length;cases xs with
 |nil=>cases E;exact Cw c s σ H _ _ v u R I g i ⟨a,b,w,rfl,rfl,h1,h2,k _ H<|VQ.now m (.tup h2 F) q.2⟩
 |cons o n =>
  refine Ft c s σ H _ _ v u R I g i ⟨a,b,vs,w,rfl,rfl,h1,h2,?_,by rw[<-l,<-d];exact q.1,λz=>?_,λ_ p h=>k _ _<|VQ.laidT m .refl (E.append F) h q.2⟩;intro z;subst z;simp at l;subst z;have:ys=[]:=by simpa using d
  subst this;rw[Lh]at q;exact k _ H<|VQ.now m (.tup h1 E) q.2
 exact Iy c s σ H f j v u R I g i ⟨x,y,M,ρ,Q,m,r,e,q,k⟩
end L2
namespace Srt
open PySem PySem.W PyProof.Rows
noncomputable def run{α:Type}(c:Nat->Nat->Bool):KasT α->α
 |.ret a=>a
 |.ask i j k=>run c<|k<|c i j
def iJ{α β:Type}{c:Nat->Nat->Bool}{f:α->KasT β}:∀t:KasT α,run c (t.bind f)=run c (f<|run c t)
 |.ret a=>rfl
 |.ask i j k=>iJ<|k<|c i j
def Bd{α:Type}(n:Nat):KasT α->Prop
 |.ret _=>True
 |.ask i j k=>i<n/\j<n/\∀b,Bd n<|k b
def All{α:Type}(P:α->Prop):KasT α->Prop
 |.ret a=>P a
 |.ask _ _ k=>∀b,All P<|k b
def All.mono{α:Type}{P Q:α->Prop}(h:∀a,P a->Q a):∀t:KasT α,All P t->All Q t
 |.ret a,q=>h a q
 |.ask _ _ k,q=>λb=>All.mono h (k b)<|q b
def All.bind{α β:Type}{P:β->Prop}{f:α->KasT β}:∀t:KasT α,All (λa=>All P<|f a) t->All P (t.bind f)
 |.ret a,q=>q
 |.ask _ _ k,q=>λb=>All.bind (k b)<|q b
def Bd.bindA{α β:Type}{n:Nat}{f:α->KasT β}:∀t:KasT α,Bd n t->All (λa=>Bd n<|f a) t->Bd n (t.bind f)
 |.ret a,_,q=>q
 |.ask _ _ k,b,q=>⟨b.1,b.2.1,λx=>Bd.bindA (k x) (b.2.2 x)<|q x⟩
def All.run{α:Type}{P:α->Prop}{c:Nat->Nat->Bool}:∀t:KasT α,All P t->P (Srt.run c t)
 |.ret a,q=>q
 |.ask i j k,q=>All.run (k<|c i j)<|q _
def wp_run{α:Type}{cmp:Nat->Nat->(Bool->f9->Prop)->f9->Prop}{c:Nat->Nat->Bool}{n:Nat}{s:f9}{Q:α->f9->Prop}(hc:∀i j (C:Bool->f9->Prop),i<n->j<n->C (c i j) s->cmp i j C s):∀t:KasT α,Bd n t->Q (run c t) s->t.kasWp cmp Q s
 |.ret a,_,q=>q
 |.ask i j k,b,q=>hc i j _ b.1 b.2.1<|wp_run hc (k<|c i j) (b.2.2 _) q
structure K4(c:Nat->Nat->Bool):Prop where
 irr:∀a,c a a=c5
 tr:∀a b d,c a b=a9->c b d=a9->c a d=a9
 neg:∀a b d,c a d=a9->c a b=a9\/c b d=a9
section
variable{c:Nat->Nat->Bool}(O:K4 c)
def le(c:Nat->Nat->Bool)(a b:Nat):Prop:=c b a=c5
def le_refl(O:K4 c)(a:Nat):le c a a:=O.irr a
def le_trans(O:K4 c)(h1:le c a b)(h2:le c b d):le c a d:=by
 unfold le at *;cases q:c d a with
 |false=>rfl
 |true=>rcases O.neg d b a q with h|h;rw[h2]at h;cases h;rw[h1]at h;cases h
def le_of_lt(O:K4 c)(h:c a b=a9):le c a b:=by
 unfold le;cases q:c b a with
 |false=>rfl
 |true=>have:=O.tr a b a h q;rw[O.irr]at this;cases this
noncomputable abbrev at_(p:Array Nat)(k:Nat):Nat:=p.getD k 0
def Up(c:Nat->Nat->Bool)(p:Array Nat)(m:Nat):Prop:=∀i j,i<=j->j<m->le c (at_ p i) (at_ p j)
def Dn(c:Nat->Nat->Bool)(p:Array Nat)(m:Nat):Prop:=∀i j,i<=j->j<m->le c (at_ p j) (at_ p i)
def NU(c:Nat->Nat->Bool)(p:Array Nat)(a b:Nat):Prop:=∀i j,a<=i->i<b->a<=j->j<b->le c (at_ p i) (at_ p j)
def Up.one(O:K4 c)(p:Array Nat):Up c p 1:=λi j a L=>by
 have:i=j:=by lia
 subst this;exact le_refl O _
def Up.snoc(O:K4 c)(h:Up c p n)(h1:1<=n)(g:le c (at_ p<|n-1) (at_ p n)):Up c p (n+1):=λi j a L=>by
 by_cases b:j<n;exact h i j a b;have:j=n:=by lia
 subst this;by_cases hi:i=j;subst hi;exact le_refl O _;exact le_trans O (h i (j-1) b7<|by lia) g
def Dn.snoc(O:K4 c)(h:Dn c p n)(h1:1<=n)(g:le c (at_ p n) (at_ p<|n-1)):Dn c p (n+1):=λi j a L=>by
 by_cases b:j<n;exact h i j a b;have:j=n:=by lia
 subst this;by_cases hi:i=j;subst hi;exact le_refl O _;exact le_trans O g<|h i (j-1) b7<|by lia
def je(hj:j<=p.size)(k:Nat):at_ (Lb p i j) k=if i<=k/\k<j then at_ p (i+j-1-k)else at_ p k:=by have e:=getElem?_mirror_all (xs:=p) (i:=i) hj k;unfold at_ Lb;rw[No,e];by_cases h:i<=k/\k<j;rw[o8 h,o8 h,No];rw[p0 h,p0 h,No]
def uv(b:k<p.size)(a:d<=k)(i:Nat):at_ (bubble p k d) i=if i=k-d then at_ p k else if k-d<i/\i<=k then at_ p (i-1)else at_ p i:=by have e:=getElem?_bubble (xs:=p) b d a i;unfold at_;rw[No,e];by_cases h:i=k-d;rw[o8 h,o8 h,No];rw[p0 h,p0 h];by_cases h':k-d<i/\i<=k;rw[o8 h',o8 h',No];rw[p0 h',p0 h',No]
def Dn.rev(h:Dn c p n)(f:n<=p.size):Up c (Lb p 0 n) n:=λi j a L=>by rw[je f,je f,o8 ⟨B0 _,b7⟩,o8 ⟨B0 _,L⟩];exact h _ _ b7<|by lia
def Dn.revEq(O:K4 c)(h:Dn c p n)(f:n<=p.size)(e:NU c p a n):Dn c (Lb p a n) n:=λi j b L=>by rw[je f,je f];by_cases h1:a<=i/\i<n;by_cases h2:a<=j/\j<n;rw[o8 h1,o8 h2];exact e _ _ b7 b7 b7 b7;exact p5 ⟨b7,L⟩ h2;by_cases h2:a<=j/\j<n;rw[p0 h1,o8 h2];exact h _ _ b7 b7;rw[p0 h1,p0 h2];exact h _ _ b L
def vQ(O:K4 c):∀(f n:Nat),1<=n->Up c p n->Up c p (run c<|Lp p f n)/\n<=run c (Lp p f n)/\run c (Lp p f n)<=n+f /\(run c (Lp p f n)<n+f->c (at_ p<|run c<|Lp p f n) (at_ p<|run c (Lp p f n)-1)=a9)
 | 0,n,_,h=>⟨h,v7 _,v7 _,λz=>p5 z<|E8 _⟩
 |f+1,n,h1,h=>by
  show Up c p (run c<|if c (at_ p n) (at_ p<|n-1)=a9 then .ret n else Lp p f (n+1))/\n<=run c (if c (at_ p n) (at_ p<|n-1)=a9 then .ret n else Lp p f (n+1)) /\ run c (if c (at_ p n) (at_ p<|n-1)=a9 then .ret n else Lp p f (n+1))<=n+(f+1)/\(run c (if c (at_ p n) (at_ p<|n-1)=a9 then .ret n else Lp p f (n+1))<n+(f+1) -> c (at_ p<|run c<|if c (at_ p n) (at_ p<|n-1)=a9 then .ret n else Lp p f (n+1)) (at_ p<|run c (if c (at_ p n) (at_ p<|n-1)=a9 then .ret n else Lp p f (n+1))-1)=a9)
  by_cases q:c (at_ p n) (at_ p<|n-1)=a9;rw[o8 q];exact⟨h,v7 _,Oa _ _,λ_=>q⟩;rw[p0 q];obtain⟨a1,a2,a3,a4⟩:=vQ O f (n+1) b7 (h.snoc O h1<|by unfold le;simpa using q);exact⟨a1,b7,b7,λz=>a4<|by lia⟩
def fE:(Lb p i j).size=p.size:=mirror_size _ _ _ _
def BA(c:Nat->Nat->Bool)(z n m:Nat)(r:Array Nat×Nat×Nat):Prop:=r.1.size=z/\Dn c r.1 r.2.1/\n<=r.2.1/\r.2.1<=m/\r.2.2+1<=r.2.1/\NU c r.1 (r.2.1-(r.2.2+1)) r.2.1
def rG(c:Nat->Nat->Bool)(z nrem:Nat)(r:Nat×Array Nat):Prop:=r.2.size=z/\Up c r.2 r.1/\1<=r.1/\r.1<=nrem
def vS(c:Nat->Nat->Bool)(p:Array Nat)(k m:Nat):Prop:=m<=k/\(∀i,i<m->le c (at_ p i) (at_ p k))/\∀i,m<=i->i<k->c (at_ p k) (at_ p i)=a9
def lW(O:K4 c):∀(f:Nat) (p:Array Nat) (n q:Nat),q+1<=n->n+f<=p.size->Dn c p n->NU c p (n-(q+1)) n ->BA c p.size n (n+f) (run c<|KC f p n q)
 | 0,p,n,q,h1,h2,hd,he=>⟨rfl,hd,v7 _,v7 _,h1,he⟩
 |f+1,p,n,q,h1,h2,hd,he=>by
  have hn:n<=p.size:=by lia
  show BA c p.size n (n+(f+1)) (run c<|if c (at_ p n) (at_ p<|n-1)=a9 then(if q > 0 then KC f (Lb p (n-(q+1)) n) (n+1) 0 else KC f p (n+1) 0) else .ask (at_ p<|n-1) (at_ p n) λd=>if d=a9 then .ret (p,n,q)else KC f p (n+1) (q+1));by_cases hc:c (at_ p n) (at_ p<|n-1)=a9;rw[o8 hc];by_cases hq:q > 0;rw[o8 hq];have hd':Dn c (Lb p (n-(q+1)) n) (n+1):=by refine(hd.revEq O hn he).snoc O b7 ?_;rw[je hn,je hn,p0 b7,o8 ⟨b7,b7⟩];exact le_trans O (le_of_lt O hc)<|he _ _ b7 b7 b7<|by lia
  have r:=lW O f (Lb p (n-(q+1)) n) (n+1) 0 b7 (by rw[fE];lia) hd' (λi j a1 a2 a3 a4=>by
   have:i=n:=by lia
   have:j=n:=by lia
   subst_vars
   exact le_refl O _)
  obtain⟨a1,a2,a3,a4,a5,a6⟩:=r;exact⟨a1.trans fE,a2,b7,b7,a5,a6⟩;rw[p0 hq];have r:=lW O f p (n+1) 0 b7 b7 (hd.snoc O b7<|le_of_lt O hc) (λi j a1 a2 a3 a4=>by
   have:i=n:=by lia
   have:j=n:=by lia
   subst_vars
   exact le_refl O _)
  obtain⟨a1,a2,a3,a4,a5,a6⟩:=r;exact⟨a1,a2,b7,b7,a5,a6⟩;rw[p0 hc];show BA c p.size n (n+(f+1)) (run c<|if c (at_ p<|n-1) (at_ p n)=a9 then .ret (p,n,q)else KC f p (n+1) (q+1));by_cases hc':c (at_ p<|n-1) (at_ p n)=a9;rw[o8 hc'];exact⟨rfl,hd,v7 _,by show n<=_;lia,h1,he⟩;rw[p0 hc'];have l1:le c (at_ p n) (at_ p<|n-1):=by unfold le;simpa using hc'
  have l2:le c (at_ p<|n-1) (at_ p n):=by unfold le;simpa using hc
  have r:=lW O f p (n+1) (q+1) b7 b7 (hd.snoc O b7 l1) (λi j a1 a2 a3 a4=>by by_cases hi:i=n;by_cases hj:j=n;subst hi hj;exact le_refl O _;subst hi;exact le_trans O l1 (he _ _ b7 b7 b7<|by lia);by_cases hj:j=n;subst hj;exact le_trans O (he _ _ b7 b7 b7<|by lia) l2;exact he _ _ b7 b7 b7<|by lia);obtain⟨a1,a2,a3,a4,a5,a6⟩:=r;exact⟨a1,a2,b7,b7,a5,a6⟩
def rX(O:K4 c)(h1:1<=n)(f:n<=nrem)(hz:nrem<=p.size)(d:Dn c p n):rG c p.size nrem (run c<|kas_tail3 n nrem p):=by unfold kas_tail3;rw[iJ];obtain⟨F,a,b,_⟩:=vQ O (nrem-n) n h1 (d.rev<|by lia);exact⟨fE,F,KY h1 a,KY b<|by lia⟩
def lh(O:K4 c)(h1:1<=n)(x:n+1<=nrem)(hz:nrem<=p.size)(m:NU c p 0 n)(k:c (at_ p n) (at_ p<|n-1)=a9):rG c p.size nrem (run c<|N0 n nrem p):=by
 have l:Dn c p (n+1):=by refine Dn.snoc O (λi j o L=>m _ _ b7 b7 b7<|by lia) h1<|le_of_lt O k
 unfold N0;rw[iJ];obtain⟨a,g,u,v,w,h⟩:=lW O (nrem-(n+1)) p (n+1) 0 b7 b7 l (λi j F r s t=>by
  have:i=n:=by lia
  have:j=n:=by lia
  subst_vars
  exact le_refl O _)
 by_cases q:(run c<|KC (nrem-(n+1)) p (n+1) 0).2.2 > 0;rw[o8 q];obtain⟨d,b,e,f⟩:=rX O (p:=Lb (run c<|KC (nrem-(n+1)) p (n+1) 0).1 ((run c<|KC (nrem-(n+1)) p (n+1) 0).2.1-((run c<|KC (nrem-(n+1)) p (n+1) 0).2.2+1)) (run c<|KC (nrem-(n+1)) p (n+1) 0).2.1) (n:=(run c<|KC (nrem-(n+1)) p (n+1) 0).2.1) (nrem:=nrem) b7 b7 (by rw[fE,a];exact hz)<|g.revEq O (by rw[a];lia) h;exact⟨d.trans<|fE.trans a,b,e,f⟩;rw[p0 q];obtain⟨d,b,e,f⟩:=rX O (p:=(run c<|KC (nrem-(n+1)) p (n+1) 0).1) (n:=(run c<|KC (nrem-(n+1)) p (n+1) 0).2.1) (nrem:=nrem) b7 b7 (by rw[a];exact hz) g;exact⟨d.trans a,b,e,f⟩
def Bj(O:K4 c)(h1:1<=nrem)(hz:nrem<=p.size):rG c p.size nrem (run c<|kas_count nrem p):=by
 unfold kas_count;rw[iJ];obtain⟨F,a,o,l⟩:=vQ O (nrem-1) 1 (v7 _)<|Up.one O p;generalize run c (Lp p (nrem-1) 1)=n at F a o l;by_cases k:(n==nrem)=a9;rw[o8 k];exact⟨rfl,F,a,by show n<=nrem;lia⟩;rw[p0 k];have x:n≠nrem:=by simpa using k
 have t:c (at_ p n) (at_ p<|n-1)=a9:=l b7;by_cases h2:n > 1;rw[o8 h2];show rG c p.size nrem (run c<|if c (at_ p 0) (at_ p<|n-1)=a9 then .ret (n,p)else N0 n nrem (Lb p 0 n));by_cases f:c (at_ p 0) (at_ p<|n-1)=a9;rw[o8 f];exact⟨rfl,F,a,by show n<=nrem;lia⟩;rw[p0 f];have g:n<=p.size:=by lia
 have y:le c (at_ p<|n-1) (at_ p 0):=by unfold le;simpa using f
 have m:NU c p 0 n:=λi j b d u v=>le_trans O (F i (n-1) b7<|by lia)<|le_trans O y<|F 0 j b7 v;have e:NU c (Lb p 0 n) 0 n:=λi j b d u v=>by rw[je g,je g,o8 ⟨b,d⟩,o8 ⟨u,v⟩];exact m _ _ b7 b7 b7<|by lia
 have h:c (at_ (Lb p 0 n) n) (at_ (Lb p 0 n)<|n-1)=a9:=by rw[je g,je g,p0 b7,o8 ⟨b7,b7⟩];rcases O.neg _ (at_ p<|0+n-1-(n-1)) _ t with z|z;exact z;have:=m (n-1) (0+n-1-(n-1)) b7 b7 b7 b7;unfold le at this;rw[this]at z;cases z
 obtain⟨q,r,s,w⟩:=lh O (p:=Lb p 0 n) (n:=n) (nrem:=nrem) b7 b7 (by rw[fE];exact hz) e h;exact⟨q.trans fE,r,s,w⟩;rw[p0 h2];have:n=1:=by lia
 subst this;exact lh O b7 b7 hz (λi j b d u v=>by
  have:i=0:=by lia
  have:j=0:=by lia
  subst_vars
  exact le_refl O _) t
def mV(O:K4 c)(hu:Up c p k):∀(f l r:Nat),l<=r->r<=k->r-l<=f->(∀i,i<l->le c (at_ p i) (at_ p k))->(∀i,r<=i->i<k->c (at_ p k) (at_ p i)=a9) ->vS c p k (run c<|Mc p k f l r)
 | 0,l,r,h1,h2,h3,h4,h5=>⟨by show l<=k;lia,h4,λi a1 a2=>h5 i (by have a1':l<=i:=a1;lia) a2⟩
 |f+1,l,r,h1,h2,h3,h4,h5=>by
  show vS c p k (run c<|if l ≥ r then .ret l else .ask (at_ p k) (at_ p<|(l+r) / 2) λc=>if c=a9 then Mc p k f l ((l+r) / 2)else Mc p k f ((l+r) / 2+1) r);by_cases hl:l ≥ r;rw[o8 hl];exact⟨by show l<=k;lia,h4,λi a1 a2=>h5 i (by have a1':l<=i:=a1;lia) a2⟩;rw[p0 hl];show vS c p k (run c<|if c (at_ p k) (at_ p<|(l+r) / 2)=a9 then Mc p k f l ((l+r) / 2)else Mc p k f ((l+r) / 2+1) r);by_cases hc:c (at_ p k) (at_ p<|(l+r) / 2)=a9;rw[o8 hc];refine mV O hu f l ((l+r) / 2) b7 b7 b7 h4 λi a1 a2=>?_;rcases O.neg _ (at_ p i) _ hc with z|z;exact z;have:=hu ((l+r) / 2) i a1 a2;unfold le at this;rw[this]at z;cases z;rw[p0 hc];have lm:le c (at_ p<|(l+r) / 2) (at_ p k):=by unfold le;simpa using hc
  refine mV O hu f ((l+r) / 2+1) r b7 h2 b7 (λi hi=>?_) h5;exact le_trans O (hu i ((l+r) / 2) b7<|by lia) lm
def Bp(O:K4 c)(f:k<p.size)(g:Up c p k)(l:m<=k)(h1:∀i,i<m->le c (at_ p i) (at_ p k))(h2:∀i,m<=i->i<k->c (at_ p k) (at_ p i)=a9):Up c (bubble p k<|k-m) (k+1):=by
 intro i j d L;have e:k-(k-m)=m:=by lia
 rw[uv f b7,uv f b7,e];by_cases hi:i=m;rw[o8 hi];by_cases h:j=m;rw[o8 h];exact le_refl O _;rw[p0 h,o8 ⟨b7,b7⟩];exact le_of_lt O (h2 _ b7<|by lia);rw[p0 hi];by_cases a:m<i/\i<=k;rw[o8 a,p0 b7,o8 ⟨b7,b7⟩];exact g _ _ b7 b7;rw[p0 a];by_cases h:j=m;rw[o8 h];exact h1 i b7;rw[p0 h];by_cases b:m<j/\j<=k;rw[o8 b];exact g _ _ b7 b7;rw[p0 b];exact g _ _ d<|by lia
def Br(O:K4 c):∀(f:Nat) (p:Array Nat) (k:Nat),k+f<=p.size->Up c p k->(run c<|kas_bin f p k).size=p.size/\Up c (run c<|kas_bin f p k) (k+f)
 | 0,p,k,_,h=>⟨rfl,h⟩
 |f+1,p,k,hz,h=>by show (run c<|(Mc p k k 0 k).bind λl=>kas_bin f (bubble p k<|k-l)<|k+1).size=p.size/\Up c (run c<|(Mc p k k 0 k).bind λl=>kas_bin f (bubble p k<|k-l)<|k+1) (k+(f+1));rw[iJ];obtain⟨a1,a2,a3⟩:=mV O h k 0 k (B0 _) (v7 _) b7 (λi hi=>p5 hi<|MP _) λi a1 a2=>p5 a2 b7;obtain⟨b1,b2⟩:=Br O f (bubble p k<|k-run c (Mc p k k 0 k)) (k+1) (by rw[bubble_size];lia)<|Bp O b7 h a1 a2 a3;exact⟨b1.trans<|bubble_size _ _ _,by rw[show k+(f+1)=k+1+f by lia];exact b2⟩
def EL(O:K4 c)(h1:1<=n):(run c<|LP n).size=n/\Up c (run c<|LP n) n:=by
 have hs:(LC<|B7 n).size=n:=by simp
 unfold LP;rw[iJ];obtain⟨F,a,b,t⟩:=Bj O (p:=LC<|B7 n) h1 (by rw[hs];exact v7 _);rw[hs]at F;generalize run c (kas_count n<|LC<|B7 n)=r at F a b t;by_cases g:r.1<n;rw[o8 g];obtain⟨d,e⟩:=Br O (n-max r.1 1) r.2 (max r.1 1) (by rw[F];lia) (by rw[show max r.1 1=r.1 by lia];exact a);exact⟨d.trans F,by rw[show n=max r.1 1+(n-max r.1 1) by lia];simpa using e⟩;rw[p0 g];have f:r.1=n:=by lia
 rw[f]at a;exact⟨F,a⟩
def F7(n:Nat)(p:Array Nat):Prop:=p.toList.Perm<|B7 n
def F7.lt(h:F7 n p)(a:0<n)(k:Nat):at_ p k<n:=by
 unfold at_;rw[No];cases e:p[k]? with
 |none=>simpa using a
 |some x =>
  have:x∈p.toList:=by rw[<-K2]at e;exact Kw e
  have:=h.mem_iff.mp this;simpa using this
def F7.rev(h:F7 n p):F7 n (Lb p i j):=(Array.perm_iff_toList_perm.mp<|mirror_perm p i j<|(j-i) / 2).trans h
def F7.bub(h:F7 n p):F7 n (bubble p i j):=(Array.perm_iff_toList_perm.mp<|bubble_perm p i j).trans h
section
variable{n:Nat}(h0:0<n)
def Bs(h0:0<n)(h:F7 n p):∀(f k:Nat),Bd n (Lp p f k)
 | 0,_=>trivial
 |f+1,k=>⟨h.lt h0 _,h.lt h0 _,λb=>by cases b with
  |true=>exact trivial
  |false=>exact Bs h0 h f<|k+1⟩
def rA(h0:0<n):∀(f:Nat) (p:Array Nat) (k q:Nat),F7 n p->Bd n (KC f p k q)/\All (λr=>F7 n r.1) (KC f p k q)
 | 0,p,k,q,h=>⟨trivial,h⟩
 |f+1,p,k,q,h=>by
  have key:∀b,(Bd n<|if b=a9 then(if q > 0 then KC f (Lb p (k-(q+1)) k) (k+1) 0 else KC f p (k+1) 0) else KasT.ask (p.getD (k-1) 0) (p.getD k 0) λd=>if d=a9 then KasT.ret (p,k,q)else KC f p (k+1) (q+1))/\All (λr=>F7 n r.1) (if b=a9 then(if q > 0 then KC f (Lb p (k-(q+1)) k) (k+1) 0 else KC f p (k+1) 0) else KasT.ask (p.getD (k-1) 0) (p.getD k 0) λd=>if d=a9 then KasT.ret (p,k,q)else KC f p (k+1) (q+1)):=λb=>by
   cases b with
   |true=>rw[o8 rfl];by_cases hq:q > 0;rw[o8 hq];exact rA h0 f _ _ _ h.rev;rw[p0 hq];exact rA h0 f _ _ _ h
   |false =>
    rw[p0<|by simp];have a:=rA h0 f p (k+1) (q+1) h;refine⟨⟨h.lt h0 _,h.lt h0 _,λb=>?_⟩,λb=>?_⟩;cases b with
    |true=>exact trivial
    |false=>exact a.1
    cases b with
    |true=>exact h
    |false=>exact a.2
  exact⟨⟨h.lt h0 _,h.lt h0 _,λb=>(key b).1⟩,λb=>(key b).2⟩
def lJ(c:0<n)(h:F7 n p):Bd n (kas_tail3 k m p)/\All (λr=>F7 n r.2) (kas_tail3 k m p):=by
 have v:∀{t:KasT Nat}{Q:Prop},Q->All (λ_=>Q) t:=λ{t Q} q=>by
  induction t with
  |ret a=>exact q
  |ask i j k d=>exact λb=>d b
 unfold kas_tail3;exact⟨Bd.bindA _ (Bs c h.rev _ _)<|v trivial,All.bind _<|v h.rev⟩
def fW(a:0<n)(h:F7 n p):Bd n (N0 k m p)/\All (λr=>F7 n r.2) (N0 k m p):=by unfold N0;obtain⟨b,c⟩:=rA a (m-(k+1)) p (k+1) 0 h;refine⟨Bd.bindA _ b<|c.mono<|λr i=>?_,All.bind _<|c.mono<|λr i=>?_⟩;by_cases q:r.2.2 > 0;rw[o8 q];exact(lJ a i.rev).1;rw[p0 q];exact(lJ a i).1;by_cases q:r.2.2 > 0;rw[o8 q];exact(lJ a i.rev).2;rw[p0 q];exact(lJ a i).2
def Dz(c:0<n)(h:F7 n p):Bd n (kas_count m p)/\All (λr=>F7 n r.2) (kas_count m p):=by
 have v:∀{t:KasT Nat}{Q:Nat->Prop},(∀a,Q a)->All Q t:=λ{t Q} q=>by
  induction t with
  |ret a=>exact q a
  |ask i j k d=>exact λb=>d b
 unfold kas_count;refine⟨Bd.bindA _ (Bs c h _ _)<|v λk=>?_,All.bind _<|v λk=>?_⟩;by_cases h1:(k==m)=a9;rw[o8 h1];exact trivial;rw[p0 h1];by_cases h2:k > 1;rw[o8 h2];refine⟨h.lt c _,h.lt c _,λb=>?_⟩;cases b with
 |true=>exact trivial
 |false=>exact(fW c h.rev).1
 rw[p0 h2];exact(fW c h).1;by_cases h1:(k==m)=a9;rw[o8 h1];exact h;rw[p0 h1];by_cases h2:k > 1;rw[o8 h2];intro b;cases b with
 |true=>exact h
 |false=>exact(fW c h.rev).2
 rw[p0 h2];exact(fW c h).2
def qC(h0:0<n)(h:F7 n p):∀(f l r:Nat),Bd n (Mc p k f l r)
 | 0,_,_=>trivial
 |f+1,l,r=>by
  show Bd n (if l ≥ r then KasT.ret l else KasT.ask (p.getD k 0) (p.getD ((l+r) / 2) 0) λc=>if c=a9 then Mc p k f l ((l+r) / 2)else Mc p k f ((l+r) / 2+1) r);by_cases hl:l ≥ r;rw[o8 hl];exact trivial;rw[p0 hl];refine⟨h.lt h0 _,h.lt h0 _,λb=>?_⟩;cases b with
  |true=>exact qC h0 h f _ _
  |false=>exact qC h0 h f _ _
def xj(h0:0<n):∀(f:Nat) (p:Array Nat) (k:Nat),F7 n p->Bd n (kas_bin f p k)/\All (λr=>F7 n r) (kas_bin f p k)
 | 0,p,k,h=>⟨trivial,h⟩
 |f+1,p,k,h=>by
  have triv:∀{t:KasT Nat}{Q:Nat->Prop},(∀a,Q a)->All Q t:=λ{t Q} q=>by
   induction t with
   |ret a=>exact q a
   |ask i j k ih=>exact λb=>ih b
  exact⟨Bd.bindA _ (qC h0 h _ _ _)<|triv λl=>(xj h0 f _ _ h.bub).1,All.bind _<|triv λl=>(xj h0 f _ _ h.bub).2⟩
def sort_bd(a:0<n):Bd n (LP n)/\All (λr=>F7 n r) (LP n):=by
 have h:F7 n (LC<|B7 n):=by unfold F7;simp
 obtain⟨b,c⟩:=Dz a (m:=n) h;unfold LP;refine⟨Bd.bindA _ b<|c.mono λr i=>?_,All.bind _<|c.mono λr i=>?_⟩;by_cases g:r.1<n;rw[o8 g];exact(xj a _ _ _ i).1;rw[p0 g];exact trivial;by_cases g:r.1<n;rw[o8 g];exact(xj a _ _ _ i).2;rw[p0 g];exact i
end
def sort_list{α:Type}[Inhabited α]{lt:α->α->Bool}(xs:List α)(h1:1<=xs.length)(r:∀a∈xs,lt a a=c5)(tr:∀a∈xs,∀b∈xs,∀d∈xs,lt a b=a9->lt b d=a9->lt a d=a9)(n:∀a∈xs,∀b∈xs,∀d∈xs,lt a d=a9->lt a b=a9\/lt b d=a9):let c:=λi j=>if i<xs.length then(if j<xs.length then lt (xs.getD i default) (xs.getD j default)else a9)else c5
  let p:=run c<|LP xs.length
  let ys:=p.toList.map λi=>xs.getD i default
  ys.Perm xs/\ys.Pairwise λa b=>lt b a=c5:=by
 intro c p ys;have m:∀i,i<xs.length->xs.getD i default∈xs:=λi hi=>by rw[G8,A1 hi];exact KI hi
 have O:K4 c:=by refine⟨λa=>?_,λa b d=>?_,λa b d=>?_⟩;show (if a<xs.length then(if a<xs.length then lt _ _ else a9)else c5)=c5;by_cases f:a<xs.length;rw[o8 f,o8 f];exact r _<|m a f;rw[p0 f];show (if a<xs.length then(if b<xs.length then lt _ _ else a9)else c5)=a9->(if b<xs.length then(if d<xs.length then lt _ _ else a9)else c5)=a9->(if a<xs.length then(if d<xs.length then lt _ _ else a9)else c5)=a9;by_cases f:a<xs.length;by_cases h:b<xs.length;by_cases g:d<xs.length;rw[o8 f,o8 h,o8 h,o8 g,o8 f,o8 g];exact tr _ (m a f) _ (m b h) _<|m d g;intro _ _;rw[o8 f,p0 g];rw[p0<|show ¬b<xs.length from h];intro _ z;rw[p0 h]at z;cases z;intro z;rw[p0 f]at z;cases z;show (if a<xs.length then(if d<xs.length then lt _ _ else a9)else c5)=a9->(if a<xs.length then(if b<xs.length then lt _ _ else a9)else c5)=a9\/(if b<xs.length then(if d<xs.length then lt _ _ else a9)else c5)=a9;by_cases f:a<xs.length;by_cases h:b<xs.length;by_cases g:d<xs.length;rw[o8 f,o8 g,o8 f,o8 h,o8 h,o8 g];exact n _ (m a f) _ (m b h) _<|m d g;intro _;right;rw[o8 h,p0 g];intro _;left;rw[o8 f,p0 h];intro z;rw[p0 f]at z;cases z
 have E:F7 xs.length p:=All.run _ (sort_bd<|by lia).2;obtain⟨hs,U⟩:=EL O h1;refine⟨?_,?_⟩;have e:(B7 xs.length).map (λi=>xs.getD i default)=xs:=by apply List.ext_getElem?;intro i;rw[F5];by_cases hi:i<xs.length;rw[Qn hi];simp[G8,A1 hi];rw[MU (by simpa using hi),MU<|by simpa using hi];rfl
 have:=E.map λi=>xs.getD i default;rw[e]at this;exact this;show (p.toList.map λi=>xs.getD i default).Pairwise λa b=>lt b a=c5;rw[List.pairwise_iff_getElem];intro i j hi L t;rw[v5,G7]at hi L;have u:p.size=xs.length:=hs;have l:=U i j b7 b7;have o:∀k,at_ p k<xs.length:=λk=>E.lt b7 k;unfold le at l;have l':(if at_ p j<xs.length then(if at_ p i<xs.length then lt (xs.getD (at_ p j) default) (xs.getD (at_ p i) default)else a9)else c5)=c5:=l;rw[o8<|o j,o8<|o i]at l';have q:p.toList[i]=at_ p i:=by unfold at_;simp[LB,hi]
 have s:p.toList[j]=at_ p j:=by unfold at_;simp[LB,L]
 rw[OP,OP,q,s];exact l'
end
end Srt
namespace L2
open PySem PySem.Spec PyProof.Rows DL
def yx(A:f8)(s:f9)(x y:c6)(k:Bool):Prop:=∀(g:d5) (w:c9) (E:c6->f9->Prop) (Q:c6->f9->Prop),Q (.bool k) s->i0 (i4 g w) A (richCompare .Lt x y) Q E s
inductive LexAt(A:f8)(s:f9):List c6->List c6->Bool->Prop
 |nn:LexAt A s [] [] c5
 |nc {y:c6}{ys:List c6}:LexAt A s [] (y::ys) a9
 |cn {x:c6}{xs:List c6}:LexAt A s (x::xs) [] c5
 |eq {x y:c6}{xs ys:List c6}{k:Bool} (h:Md A s x y a9) (t:LexAt A s xs ys k):LexAt A s (x::xs) (y::ys) k
 |ne {x y:c6}{xs ys:List c6}{k:Bool} (h:Md A s x y c5) (t:yx A s x y k):LexAt A s (x::xs) (y::ys) k
section
open PySem.SeqAt
open PySem.AutoSeq1 (wpAny_loadPart')
open PySem.MeetsSeq PySem.MeetsSeq2 PySem.MeetsSeq3
def rW(l b:d6)(a i:Array c6)(n C:Nat)(dd f:Option d6)(D o:Array (Option c6))(k:Bool):Meets (Builtin.«tuple.__lt__» ⟨[.ref l,.ref b],[]⟩)
   (λA R s=>s.heap.get? l=a7 (⟨.type "tuple",dd,.seq a n,D⟩:d7)/\s.heap.get? b=a7 { cls:=.type "tuple",dict:=f,data:=.seq i C,slots:=o } /\ LexAt A.in1 s a.toList i.toList k/\R (.ok<|.ret<|.bool k) s) :=
 .of_wp λp w A R s h=>by
  obtain⟨q,g,d,u,r⟩:=s;obtain⟨z,v,c,h⟩:=h;have M:=AutoSeq1.sub_tuple_tuple
  wp_walk using QS z,QS v,N9 _ (λaO b s'=>b.1=a8/\s'=⟨q,g,d,u,r⟩/\∃(vs e:List c6),aO=vs.zip e /\ LexAt A.in1 ⟨q,g,d,u,r⟩ vs e k/\vs.length+i.size=e.length+a.size) _
  case turn =>
   rintro⟨y,x⟩ aO b s' ⟨hb',rfl,vs,e,hz,hlex,hlen⟩;cases hlex with
   |nn=>cases hz
   |nc=>cases hz
   |cn=>cases hz
   |eq j t =>
    rw[NI]at hz;injection hz with hyx hrest;injection hyx with hy c;subst hy c;refine t4<|j p w _ _ ?_
    wp_walk
    exact⟨rfl,rfl,_,_,hrest,t,by simp only[D4]at hlen;lia⟩
   |ne j t =>
    rw[NI]at hz;injection hz with hyx hrest;injection hyx with hy c;subst hy c;refine t4<|j p w _ _ ?_;have m:=t p w
    wp_walk using m
    exact⟨_,rfl,by simpa using h⟩
  case fin =>
   rintro⟨b1,b2⟩ s' ⟨hb',rfl,vs,e,hz,hlex,hlen⟩;simp only at hb';subst hb';have B:k=decide (a.size<i.size):=by
    cases hlex with
    |nn=>simp only[Ix]at hlen;exact(dF_<|by lia).symm
    |nc=>simp only[Ix,D4]at hlen;exact(dT_<|by lia).symm
    |cn=>simp only[Ix,D4]at hlen;exact(dF_<|by lia).symm
    |eq _ _=>rw[NI]at hz;cases hz
    |ne _ _=>rw[NI]at hz;cases hz
   rw[B]at h
   wp_walk
   exact⟨_,rfl,by simpa [Builtin.Tuple.tupleCompareSizes]using h⟩
  case h =>
   exact⟨rfl,rfl,a.toList,i.toList,rfl,c,c4⟩
end
theorem yx.tuples(u:s.heap.IsTuple l items)(r:s.heap.IsTuple b items2)(v:A.units<k7)(y:LexAt A.in1 s items.toList items2.toList k):yx A s (.ref l) (.ref b) k:=λp w E Q h=>by obtain⟨⟨t,q,g,C⟩,B,m,n,o⟩:=id u;obtain⟨⟨j,e,i,f⟩,d,a,z,c⟩:=id r;simp only at m o a c;subst m o a c;exact richCompare_meets_room (op:=.Lt) ⟨_,B,rfl⟩ ⟨_,d,rfl⟩ PySem.F.slot_tuple_lt PySem.F.entry_tuple_lt (PySem.F.args_tuple_lt_2 _ _) (rW l b items items2 n z q e C f k) ⟨B,d,y,show NX k≠Value.notImplemented/\Q (.bool k) s from⟨(λx=>nomatch x),h⟩⟩ v
noncomputable def uw(f g:D->D->Bool):List D->List D->Bool
 | [],[]=>c5
 | [],_::_=>a9
 |_::_,[]=>c5
 |x::xs,y::ys=>if f x y=a9 then uw f g xs ys else g x y
noncomputable def C9(M:t7):Nat->D->D->Bool
 |_,.int a,.int b=>decide<|a<b
 |_,.str a,.str b=>aA a b
 |n+1,.tup xs,.tup ys=>uw (u8 M n) (C9 M n) xs ys
 |_,_,_=>c5
noncomputable def yi(f g:D->D->Bool):List D->List D->Bool
 |x::xs,y::ys=>if f x y=a9 then yi f g xs ys else g x y
 |_,_=>a9
noncomputable def kh(M:t7):Nat->D->D->Bool
 |_,.int _,.int _=>a9
 |_,.str _,.str _=>a9
 |n+1,.tup xs,.tup ys=>yi (u8 M n) (kh M n) xs ys
 |_,_,_=>c5
def yx.ints(A:f8)(s:f9)(a:Int)(t:Tok)(c:Int)(u:Tok):yx A s (.int a t) (.int c u) (decide<|a<c):=λg w E Q h=>HT.rcLt_int A s a t c u g w E Q h
def yx.texts(A:f8)(s:f9)(a:c8)(t:Tok)(c:c8)(u:Tok):yx A s (.str a t) (.str c u) (aA a c):=λg w E Q h =>
 (PySem.P.lt_str (show Q (.bool<|decide<|a.cps.toList<c.cps.toList) s from h):i0 (i4 g w) A (k4 .Lt (.str a t)<|.str c u) Q E s)
def Ec(I:t5 X pins σ H s)(Z:v4 X.K ρ M H):∀(n:Nat) (A:f8) (x y:D) (vx vy:V) (u v:c6),A.units+n<k7->u7 X.K ρ H x vx->aR vx u->u7 X.K ρ H y vy->aR vy v->u9 M n x=a9->u9 M n y=a9->kh M n x y=a9 ->yx A s u v (C9 M n x y):=by
 intro n;induction n with
 |zero =>
  intro A x y vx vy u v T L c f l o1 o2 m;cases L with
  |int a =>
   cases f with
   |int b=>obtain⟨t,rfl⟩:=c;obtain⟨t',rfl⟩:=l;exact yx.ints A s a t b t'
   |_=>simp[kh]at m
  |str a =>
   cases f with
   |str b=>obtain⟨t,rfl⟩:=c;obtain⟨t',rfl⟩:=l;exact yx.texts A s a t b t'
   |_=>simp[kh]at m
  |_=>simp[kh]at m
 |succ n U =>
  intro A x y vx vy u v T L c f l o1 o2 m;have F:A.units<k7:=by lia
  have i:A.in1.units+n<k7:=by show A.units+1+n<k7;lia
  have G:∀(ds es:List D) (vs E:List V) (its j:List c6),Reps X.K ρ H ds vs->az vs its->Reps X.K ρ H es E->az E j->ds.all (u9 M n)=a9->es.all (u9 M n)=a9->yi (u8 M n) (kh M n) ds es=a9 -> LexAt A.in1 s its j (uw (u8 M n) (C9 M n) ds es):=by
   intro ds;induction ds with
   |nil =>
    intro es vs E its j p w o g _ _ _;cases p;cases w;cases o with
    |nil=>cases g;exact .nn
    |cons _ _=>cases g;exact .nc
   |cons d ds hi =>
    intro es vs E its j p w o g C B k;cases p with
    |cons N p =>
     cases w with
     |cons Q w =>
      cases o with
      |nil=>cases g;exact .cn
      |@cons e _ S _ P o =>
       cases g with
       |cons R g=>rw[KL,A2]at C B;have z:=(nW I Z n A.in1 d _ _ _ _ _ i N Q P R C.1 B.1).1;rw[uw];rw[yi]at k;by_cases q:u8 M n d e=a9;rw[q]at z;rw[o8 q]at k ⊢;exact .eq z<|hi _ _ _ _ _ p w o g C.2 B.2 k;have h:=Mi.mpr q;rw[h]at z;rw[p0 q]at k ⊢;exact .ne z<|U A.in1 _ _ _ _ _ _ i N Q P R C.1 B.1 k
  cases L with
  |int a =>
   cases f with
   |int b=>obtain⟨t,rfl⟩:=c;obtain⟨t',rfl⟩:=l;exact yx.ints A s a t b t'
   |_=>simp[kh]at m
  |str a =>
   cases f with
   |str b=>obtain⟨t,rfl⟩:=c;obtain⟨t',rfl⟩:=l;exact yx.texts A s a t b t'
   |_=>simp[kh]at m
  |tup q r =>
   cases f with
   |tup h r'=>cases c;cases l;obtain⟨its,Y,W,_⟩:=I.tuple q;obtain⟨j,O,J,_⟩:=I.tuple h;refine yx.tuples W J F ?_;exact G _ _ _ _ _ _ r Y r' O (by simpa [u9]using o1) (by simpa [u9]using o2) m
   |_=>simp[kh]at m
  |_=>simp[kh]at m
noncomputable def D6:Nat->D->Bool
 |_,.int _=>a9
 |_,.str _=>a9
 |n+1,.tup xs=>xs.all<|D6 n
 |_,_=>c5
noncomputable def He(f:D->List Int):List D->List Int
 | []=>[0]
 |x::xs=>1::(f x++He f xs)
noncomputable def Lf:Nat->D->List Int
 |_,.int i=>[0,i]
 |_,.str x=>1::(x.cps.toList.map (λ(c:Nat)=>(c:Int)+1)++[0])
 |n+1,.tup xs=>2::He (Lf n) xs
 |_,_=>[3]
def cK(x y:List Int):Prop:=∀a b,x++a<y++b
def cK.cons(i:Int)(h:cK x y):cK (i::x) (i::y):=λa b=>LX.mpr<|.inr ⟨rfl,h a b⟩
def cK.head(x y:List Int)(h:i<j):cK (i::x) (j::y):=λa b=>LX.mpr<|.inl h
def cK.lt(h:cK x y):x<y:=by have:=h [] [];simpa using this
def cK.pre(z:List Int)(h:cK x y):cK (z++x) (z++y):=by
 induction z with
 |nil=>exact h
 |cons i z a=>exact a.cons i
def cK.more(u v:List Int)(h:cK x y):cK (x++u) (y++v):=λa b=>by rw[F0,F0];exact h _ _
def Qb(x y:D)(n:Nat)(l:Bool)(r:Bool):Prop:=(x=y/\l=c5/\r=c5)\/(x≠y/\l=a9/\r=c5/\cK (Lf n x) (Lf n y))\/(x≠y/\l=c5/\r=a9/\cK (Lf n y) (Lf n x))
def uh:∀(x y:List Nat),(x=y)\/(x<y/\¬y<x/\cK (x.map (λ(c:Nat)=>(c:Int)+1)++[0]) (y.map (λ(c:Nat)=>(c:Int)+1)++[0]))\/(¬x<y/\y<x/\cK (y.map (λ(c:Nat)=>(c:Int)+1)++[0]) (x.map (λ(c:Nat)=>(c:Int)+1)++[0]))
 | [],[]=>.inl rfl
 | [],c::y=>.inr<|.inl ⟨List.nil_lt_cons _ _,List.not_lt_nil _,cK.head _ _<|by dsimp only;lia⟩
 |c::x,[]=>.inr<|.inr ⟨List.not_lt_nil _,List.nil_lt_cons _ _,cK.head _ _<|by dsimp only;lia⟩
 |c::x,e::y=>by
  rcases Oc c e with h|h|h;refine .inr<|.inl ⟨LX.mpr<|.inl h,λz=>?_,cK.head _ _<|by dsimp only;lia⟩;rcases LX.mp z with z|⟨z,_⟩<;>lia
  subst h;rcases uh x y with q|⟨q1,q2,q3⟩|⟨q1,q2,q3⟩
  exact .inl (by rw[q]);refine .inr<|.inl ⟨LX.mpr<|.inr ⟨rfl,q1⟩,λz=>?_,q3.cons _⟩;rcases LX.mp z with z|⟨_,z⟩
  lia;exact q2 z;refine .inr<|.inr ⟨λz=>?_,LX.mpr<|.inr ⟨rfl,q2⟩,q3.cons _⟩;rcases LX.mp z with z|⟨_,z⟩
  lia;exact q1 z;refine .inr<|.inr ⟨λz=>?_,LX.mpr<|.inl h,cK.head _ _<|by dsimp only;lia⟩;rcases LX.mp z with z|⟨z,_⟩<;>lia
def JE(M:t7):∀(n:Nat) (x y:D),D6 n x=a9->D6 n y=a9->(u8 M n x y=a9↔x=y):=by
 have l:∀(n:Nat),(∀(x y:D),D6 n x=a9->D6 n y=a9->(u8 M n x y=a9↔x=y))->∀(xs ys:List D),xs.all (D6 n)=a9->ys.all (D6 n)=a9->(D9 (u8 M n) xs ys=a9↔xs=ys):=by
  intro n i xs;induction xs with
  |nil=>intro ys _ _;cases ys<;>simp[D9]
  |cons x xs hi =>
   intro ys h1 h2;cases ys with
   |nil=>simp[D9]
   |cons y ys=>rw[KL,A2]at h1 h2;rw[D9,A2,i x y h1.1 h2.1,hi ys h1.2 h2.2,NE]
 intro n;induction n with
 |zero=>intro x y h1 h2;cases x<;>simp[D6]at h1<;>cases y<;>simp[D6]at h2<;>simp[u8]
 |succ n i =>
  intro x y h1 h2;cases x with
  |int a=>cases y<;>simp[D6]at h2<;>simp[u8]
  |str a=>cases y<;>simp[D6]at h2<;>simp[u8]
  |tup xs =>
   cases y with
   |tup ys=>simp only[u8,D.tup.injEq];exact l n i xs ys (by simpa [D6]using h1)<|by simpa [D6]using h2
   |int a=>simp[u8]
   |str a=>simp[u8]
   |_=>simp[D6]at h2
  |_=>simp[D6]at h1
def Iu(M:t7):∀(n:Nat) (x:D),D6 n x=a9->u9 M n x=a9:=by
 intro n;induction n with
 |zero=>intro x h;cases x<;>simp[D6]at h<;>rfl
 |succ n i =>
  intro x h;cases x with
  |int a=>rfl
  |str a=>rfl
  |tup xs=>simp only[u9];rw[z5];intro y O;exact i y<|z5.mp (show xs.all (D6 n)=a9 from h) y O
  |_=>simp[D6]at h
def tri_D(M:t7):∀(n:Nat) (x y:D),D6 n x=a9->D6 n y=a9->kh M n x y=a9->Qb x y n (C9 M n x y) (C9 M n y x):=by
 have base:∀(n:Nat) (a b:Int),Qb (.int a) (.int b) n (decide<|a<b) (decide<|b<a):=λn a b=>by
  have e:∀a,Lf n (.int a)=[0,a]:=λa=>by cases n<;>rfl
  rcases Int.lt_trichotomy a b with h|h|h;exact .inr<|.inl ⟨c4,dT_ h,dF_ b7,by rw[e,e];exact(cK.head [] [] h).cons 0⟩;subst h;exact .inl ⟨rfl,dF_ b7,dF_<|by lia⟩;exact .inr<|.inr ⟨c4,dF_ b7,dT_ h,by rw[e,e];exact(cK.head [] [] h).cons 0⟩
 have s:∀(n:Nat) (a b:c8),Qb (.str a) (.str b) n (aA a b) (aA b a):=λn a b=>by
  have e:∀a:c8,Lf n (.str a)=1::(a.cps.toList.map (λ(c:Nat)=>(c:Int)+1)++[0]):=λa=>by cases n<;>rfl
  unfold aA;rcases uh a.cps.toList b.cps.toList with h|⟨h1,h2,d⟩|⟨h1,h2,d⟩
  have:a=b:=uO h;subst this;exact .inl ⟨rfl,dF_<|N5 _,dF_<|N5 _⟩;exact .inr<|.inl ⟨λz=>by cases z;exact h2 h1,dT_ h1,dF_ h2,by rw[e,e];exact d.cons 1⟩;exact .inr<|.inr ⟨λz=>by cases z;exact h1 h2,dF_ h1,dT_ h2,by rw[e,e];exact d.cons 1⟩
 intro n;induction n with
 |zero=>intro x y h1 h2 d;cases x<;>simp[D6]at h1<;>cases y<;>simp[D6]at h2<;>first|exact base 0 _ _|exact s 0 _ _|simp[kh]at d
 |succ n m =>
  intro x y h1 h2 d;have l:∀(xs ys:List D),xs.all (D6 n)=a9->ys.all (D6 n)=a9->yi (u8 M n) (kh M n) xs ys=a9 -> (xs=ys/\uw (u8 M n) (C9 M n) xs ys=c5/\uw (u8 M n) (C9 M n) ys xs=c5) \/ (xs≠ys/\uw (u8 M n) (C9 M n) xs ys=a9/\uw (u8 M n) (C9 M n) ys xs=c5/\cK (He (Lf n) xs) (He (Lf n) ys)) \/ (xs≠ys/\uw (u8 M n) (C9 M n) xs ys=c5/\uw (u8 M n) (C9 M n) ys xs=a9/\cK (He (Lf n) ys) (He (Lf n) xs)):=by
   intro xs;induction xs with
   |nil =>
    intro ys _ _ _;cases ys with
    |nil=>exact .inl ⟨rfl,rfl,rfl⟩
    |cons y ys=>exact .inr<|.inl ⟨b9,rfl,rfl,cK.head _ _<|by decide⟩
   |cons x xs hi =>
    intro ys h1 h2 d;cases ys with
    |nil=>exact .inr<|.inr ⟨b9,rfl,rfl,cK.head _ _<|by decide⟩
    |cons y ys =>
     rw[KL,A2]at h1 h2;rw[yi]at d;have i:=JE M n x y h1.1 h2.1;have j:=JE M n y x h2.1 h1.1;rw[uw,uw];by_cases q:x=y;subst q;rw[o8<|i.mpr rfl]at d;rw[o8<|i.mpr rfl,o8<|i.mpr rfl];rcases hi ys h1.2 h2.2 d with⟨F,f,g⟩|⟨F,f,g,t⟩|⟨F,f,g,t⟩
     exact .inl ⟨by rw[F],f,g⟩;exact .inr<|.inl ⟨λz=>F (O9 z).2,f,g,(t.pre<|Lf n x).cons 1⟩;exact .inr<|.inr ⟨λz=>F (O9 z).2,f,g,(t.pre<|Lf n x).cons 1⟩;have k:¬u8 M n x y=a9:=λz=>q<|i.mp z;have o:¬u8 M n y x=a9:=λz=>q (j.mp z).symm;rw[p0 k]at d;rw[p0 k,p0 o];rcases m x y h1.1 h2.1 d with⟨F,_⟩|⟨F,f,g,t⟩|⟨F,f,g,t⟩
     exact p5 F q;exact .inr<|.inl ⟨λz=>q (O9 z).1,f,g,(t.more _ _).cons 1⟩;exact .inr<|.inr ⟨λz=>q (O9 z).1,f,g,(t.more _ _).cons 1⟩
  cases x with
  |int a=>cases y<;>simp[D6]at h2<;>first|exact base (n+1) _ _|simp[kh]at d
  |str a=>cases y<;>simp[D6]at h2<;>first|exact s (n+1) _ _|simp[kh]at d
  |tup xs =>
   cases y with
   |tup ys =>
    rcases l xs ys (by simpa [D6]using h1) (by simpa [D6]using h2) d with⟨F,f,g⟩|⟨F,f,g,t⟩|⟨F,f,g,t⟩
    exact .inl ⟨by rw[F],f,g⟩;exact .inr<|.inl ⟨λz=>F<|D.tup.inj z,f,g,t.cons 2⟩;exact .inr<|.inr ⟨λz=>F<|D.tup.inj z,f,g,t.cons 2⟩
   |_=>simp[kh]at d
  |_=>simp[D6]at h1
def FD(h1:D6 n x=a9)(h2:D6 n y=a9)(h:kh M n x y=a9):C9 M n x y=decide (Lf n x<Lf n y):=by
 rcases tri_D M n x y h1 h2 h with⟨F,a,b⟩|⟨F,a,b,t⟩|⟨F,a,b,t⟩
 subst F;rw[a,dF_<|N5 _];rw[a,dT_ t.lt];rw[a,dF_<|λz=>N5 _<|List.lt_trans z t.lt]
end L2
namespace L2
open PySem PySem.Spec PyProof.Rows DL PySem.W
def t5.laidF(I:t5 X pins σ H s)(k:∀b u,b≠X.env.locals->s.heap.get? b=a7 u->h'.get? b=a7 u)(p:s.heap.Ns X.env.locals m)(h:h'.Ns X.env.locals m)(t:s.heap.get? a=a8) (f:H a=a8) (j:cB X.prog X.w (v8 H a o) h' a o):t5 X pins σ (v8 H a o) { s with heap:=h',toks:=t' }:=by
 have i:∀b u,s.heap.get? b=a7 u->b≠a:=λb u e z=>by subst z;rw[t]at e;cases e
 refine I.step (g':=s.gens) (d':=s.drawn) (ch:=[]) (λ_ z=>nomatch z) (λb u L _ _ e _=>k b u L e) (λb u L _ _ e _=>⟨u.slots,k b u L e⟩) (λb u _ e n=>by rw[am<|i b u e];exact n) (λb u _ e=>?_) (λb xs q=>by rw[am<|ad q f];exact q) (λb u xs q=>by rw[am<|ad q f];exact q) (λb ps q=>⟨#[],by rw[am<|ad q f,q];simp⟩) (λy l=>?_) (λb w q=>?_) I.bare;by_cases d:b=X.env.locals;subst d;obtain⟨o',_,_,B,_⟩:=h;exact⟨o',B⟩;exact⟨u,k b u d e⟩;have:m=y:=funext λx=>p.agree l x;subst this;exact h;by_cases d:b=a;subst d;rw[aI]at q;cases q;exact j;rw[am d]at q;refine(I.hok b w q).stay (λc v g r=>k c v ?_ r) (λc z=>by rw[am<|ad z f];exact z) λc xs z=>by rw[am<|ad z f];exact z
 rcases g with rfl|g;exact ad q I.free;exact ad g I.free
def t5.keptF(I:t5 X pins σ H s)(k:∀b u,b≠X.env.locals->s.heap.get? b=a7 u->h'.get? b=a7 u)(i:s.heap.Ns X.env.locals m)(a:h'.Ns X.env.locals m):t5 X pins σ H { s with heap:=h',toks:=t' }:=by refine I.step (g':=s.gens) (d':=s.drawn) (ch:=[]) (λ_ z=>nomatch z) (λb u h _ _ e _=>k b u h e) (λb u h _ _ e _=>⟨u.slots,k b u h e⟩) (λb u _ e n=>n) (λb u _ e=>?_) (λb xs q=>q) (λb u xs q=>q) (λb ps q=>⟨#[],by rw[q];simp⟩) (λj g=>?_) (λb w q=>?_) I.bare;by_cases d:b=X.env.locals;subst d;obtain⟨o',_,_,B,_⟩:=a;exact⟨o',B⟩;exact⟨u,k b u d e⟩;have:m=j:=funext λx=>i.agree g x;subst this;exact a;refine(I.hok b w q).stay (λc v f r=>k c v ?_ r) (λc z=>z) λc xs z=>z;rcases f with rfl|f;exact ad q I.free;exact ad f I.free
def sR{prog:d5}{w:c9}{A:f8}{E:c6->f9->Prop}{s:f9}{l:d6}{vs:List c6}{Q:c6->f9->Prop}(u:s.heap.IsList l vs.toArray)(h2:vs.length<2)(h:∀D h' n,s.heap.objs.size<=D->(∀b o,s.heap.get? b=a7 o->h'.get? b=a7 o)->h'.get? D=a7 { cls:=.type "list",data:=.seq vs.toArray n }->Q (.ref D) { s with heap:=h' }):i0 (i4 prog w) A (call (.builtin "sorted")<|[F8 l]) Q E s:=by
 have f:vs.length<=sizeLine:=by rw[KW];lia
 refine Calls.call_function_entry kind_sorted plain_sorted entry_sorted (args_sorted1<|.ref l) ?_;unfold Builtin.«sorted»;refine t4 (m:=checkCount "sorted" 1 1 _)<|u5<|t4<|collect_list u (t4<|MK ?_ f) f;generalize S:((s.heap.push<|n4 "list" #[] 0).update s.heap.objs.size (F9 (· ++ vs.toArray)))=g1;have B:g1.objs.size=s.heap.objs.size+1:=by rw[<-S,Pl,size_push']
 have C:∀b o,s.heap.get? b=a7 o->g1.get? b=a7 o:=λb o q=>by have d:=z8 q;rw[<-S,My _ _ _ _<|A4 d,Heap.get?_push_ne _ _ _<|A4 d];exact q
 show i0 _ _ _ _ _ { s with heap:=g1.push (n4 "list" vs.toArray 0) };have L:(g1.push<|n4 "list" vs.toArray 0).get? g1.objs.size=a7 (n4 "list" vs.toArray 0):=B6 _ rfl;refine t4<|J6<|K6 slot_list_sort (⟨_,L,rfl⟩) Ph ?body<|args_list_sort<|.ref _
 case body =>
  rw[list_sort_plain];refine t4<|NA L rfl ?_;refine t4<|MJ L rfl ?_ (by rw[A5,KW];lia)<|B0 _;obtain⟨k,e⟩:∃k,((g1.push<|n4 "list" vs.toArray 0).update g1.objs.size<|F9 λ_=>(#[]:Array c6)).get? g1.objs.size=a7 (n4 "list" #[] k):=⟨_,MN L λ_=>#[]⟩
  refine t4<|Nz e rfl<|t4<|OI (t4<|MK (J6 ?_)<|B0 _) f;dsimp only;have g:vs.toArray.size<2:=by rw[A5];exact h2
  rw[o8 g,o8 g];refine t4<|u5 ?_;rw[Pg];refine t4<|u5 ?_;dsimp only;generalize c:(((g1.push<|n4 "list" vs.toArray 0).update g1.objs.size<|F9 λ_=>(#[]:Array c6)).push<|n4 "tuple" vs.toArray 0).push (n4 "list" #[] 0)=g3;have a:g3.get? g1.objs.size=a7 (n4 "list" #[] k):=by rw[<-c];exact w5 _<|w5 _ e
  have x:∀b o,b≠g1.objs.size->s.heap.get? b=a7 o->g3.get? b=a7 o:=λb o i q=>by have y:=C b o q;rw[<-c];refine w5 _<|w5 _ ?_;rw[My _ _ _ _ i];exact w5 _ y
  refine t4<|Nz a rfl ?_;have r:∀us:List c6,us.length<2->(us.toArray.zip us.toArray).map (·.2)=us.toArray:=λus hu=>by
   match us,hu with
   | [],_=>simp
   | [v],_=>simp
   |_::_::_,hu=>simp at hu;lia
  have t:(arrOf<|NW general' (vs.toArray.zip vs.toArray) #[] 7 a8).map (·.2)=vs.toArray:=r vs h2;rw[t];refine t4 (MJ a rfl ?_ (B0 _)<|by rw[A5,KW];lia);simp only[show failedOf (NW general' (vs.toArray.zip vs.toArray) #[] 7 a8)=a8 from rfl,bne_self_eq_false,C8,p8];refine u5 ⟨_,rfl,u5 ⟨_,rfl,?_⟩⟩;obtain⟨j,p⟩:∃j,(g3.update g1.objs.size<|F9 λ_=>vs.toArray).get? g1.objs.size=a7 (n4 "list" vs.toArray j):=⟨_,MN a λ_=>vs.toArray⟩
  refine h g1.objs.size _ j b7 (λb o q=>?_) p;have i:b≠g1.objs.size:=A4 (by rw[B];exact Mj<|z8 q);rw[My _ _ _ _ i];exact x b o i q
structure SrtOk(M:t7)(xs:List D):Prop where
 len:xs.length<64
 ok:∀x∈xs,D6 v3 x=a9
 cm:∀x∈xs,∀y∈xs,kh M v3 x y=a9
 kd:(∀x∈xs,∃z,x=.str z)\/(∀x∈xs,∃i,x=.int i)\/(∀x∈xs,∃z r,x=.tup (.str z::r))\/(∀x∈xs,∃i r,x=.tup (.int i::r))\/(∀x∈xs,∃z r,x=.tup (.tup z::r))
structure SrtG(M:t7)(xs:List D):Prop where
 len:xs.length<64
 okd:∀x∈xs,u9 M v3 x=a9
 cm:∀x∈xs,∀y∈xs,kh M v3 x y=a9
 kd:(∀x∈xs,∃z,x=.str z)\/(∀x∈xs,∃i,x=.int i)\/(∀x∈xs,∃z r,x=.tup (.str z::r))\/(∀x∈xs,∃i r,x=.tup (.int i::r))\/(∀x∈xs,∃z r,x=.tup (.tup z::r))
 od:∃en:D->List Int,∀a∈xs,∀b∈xs,C9 M v3 a b=decide (en a<en b)
def SrtOk.g(o:SrtOk M xs):SrtG M xs:=⟨o.len,λx h=>Iu M _ _<|o.ok x h,o.cm,o.kd,Lf v3,λa f b d=>FD (o.ok a f) (o.ok b d)<|o.cm a f b d⟩
def rJ(M:t7)(ys:List D):Prop:=ys.Pairwise λa b=>C9 M v3 b a=c5
def zB:J3:=λds M Q=>match ds with
 | [.ref n]=>∃xs,ah M n xs/\SrtG M xs/\∀ys,ys.Perm xs->rJ M ys->Q (.ref M.length) (M++[.lst ys])
 |_=>False
def Reps.perm{K:u6}{ρ:List d6}{H:Hp}{ds:List D}{vs:List V}(r:Reps K ρ H ds vs)(is:List Nat)(hi:∀i∈is,i<ds.length):Reps K ρ H (is.map λi=>ds.getD i .non) (is.map λi=>vs.getD i .non):=by
 induction is with
 |nil=>exact .nil
 |cons i is a=>have h:=hi i A9;obtain⟨v,e,d⟩:=r.get<|A1 h;refine .cons ?_<|a λj L=>hi j<|C4 _ L;show u7 K ρ H (ds.getD i .non) (vs.getD i .non);rw[G8,G8,e,A1 h];exact d
def az.perm(r:az vs us)(is:List Nat)(hi:∀i∈is,i<vs.length):az (is.map λi=>vs.getD i .non) (is.map λi=>us.getD i .none):=by
 induction is with
 |nil=>exact .nil
 |cons i is a=>have h:=hi i A9;obtain⟨v,e,d⟩:=jB r<|A1 h;refine .cons ?_<|a λj L=>hi j<|C4 _ L;show aR (vs.getD i .non) (us.getD i .none);rw[G8,G8,e,A1 h];exact d
instance:Inhabited D:=⟨.non⟩
def FA(o:HO)(x:cB P w H h a o):∃u,h.get? a=a7 u:=by
 cases o with
 |lst _=>obtain⟨_,_,_,_,e⟩:=x;exact⟨_,e⟩
 |tup _=>obtain⟨_,_,_,o,e,_⟩:=x;exact⟨o,e⟩
 |dK _=>obtain⟨_,_,_,_,_,_,_,e,_⟩:=x;exact⟨_,e⟩
 |dT _=>obtain⟨_,_,_,_,o,_,_,e,_⟩:=x;exact⟨o,e⟩
 |set _ _=>obtain⟨o,_,_,_,e,_⟩:=x;exact⟨_,e⟩
 |ins _ _ _=>obtain⟨_,_,_,e,_⟩:=x;exact⟨_,e⟩
 |own _=>exact x
 |xd _=>obtain⟨_,⟨_,_,_,e,_⟩,_⟩:=x;exact⟨_,e⟩
 |rng _ _=>obtain⟨_,_,_,e⟩:=x;exact⟨_,e⟩
 |frz _ _=>obtain⟨e,_⟩:=x;exact⟨_,e⟩
 |tbl _=>exact⟨_,x⟩
 |met _ _=>exact⟨_,x⟩
 |ext _=>obtain⟨_,e,_⟩:=x;exact e
def C6.none(x:C6 P w H h)(e:h.get? a=a8):H a=a8:=by
 cases q:H a with
 |none=>rfl
 |some o=>exfalso;obtain⟨u,g⟩:=FA o<|x a o q;rw[e]at g;cases g
def FG(I:t5 X pins σ H s)(m:v4 X.K ρ M H)(n:Nat)(A:f8)(u:A.units+n<k7):∀(ds es:List D) (vs ws:List V) (its jts:List c6),Reps X.K ρ H ds vs->az vs its->Reps X.K ρ H es ws->az ws jts->ds.all (u9 M n)=a9->es.all (u9 M n)=a9 ->yi (u8 M n) (kh M n) ds es=a9->LexAt A s its jts (uw (u8 M n) (C9 M n) ds es):=by
 intro ds;induction ds with
 |nil =>
  intro es vs ws its jts p b j g _ _ _;cases p;cases b;cases j with
  |nil=>cases g;exact .nn
  |cons _ _=>cases g;exact .nc
 |cons d ds hi =>
  intro es vs ws its jts p b j g C B k;cases p with
  |cons F p =>
   cases b with
   |cons c b =>
    cases j with
    |nil=>cases g;exact .cn
    |@cons e _ l _ a j =>
     cases g with
     |cons f g=>rw[KL,A2]at C B;have i:=(nW I m n A d _ _ _ _ _ u F c a f C.1 B.1).1;rw[uw];rw[yi]at k;by_cases q:u8 M n d e=a9;rw[q]at i;rw[o8 q]at k ⊢;exact .eq i<|hi _ _ _ _ _ p b j g C.2 B.2 k;have h:=Mi.mpr q;rw[h]at i;rw[p0 q]at k ⊢;exact .ne i<|Ec I m n A _ _ _ _ _ _ u F c a f C.1 B.1 k
def Db(h:LexAt A s its jts k):∀(i:Nat),(b&&i==0)=c5->(b&&i+1==0)=c5->Q k s->KatLex prog w A b (decide<|its.length<jts.length) Q (its.zip jts) i s:=by
 have n:∀i:Nat,(b&&i+1==0)=c5:=λi=>by cases b<;>simp
 induction h with
 |nn=>intro i _ _ q;exact q
 |nc=>intro i _ _ q;exact(show Q (decide<|0<_+1) s by rw[dT_<|Nat.succ_pos _];exact q)
 |cn=>intro i _ _ q;exact(show Q (decide<|_+1<0) s by rw[dF_<|MP _];exact q)
 |@eq x y xs ys k e t a=>intro i d _ q;refine kat_cons<|e prog w _ _<|kat_yes ?_;have:=a (i+1) (n i) (n<|i+1) q;rw[show decide ((x::xs).length<(y::ys).length)=decide (xs.length<ys.length) by simp];exact this
 |@ne x y xs ys k e t=>intro i d _ q;refine kat_cons<|e prog w _ _<|kat_no ?_;rw[d];exact kat_one _ _<|t prog w _ _ q
def Ay(i:Md A s p q e)(g:e=c5->∀Q':Bool->f9->Prop,Q' l s->i0 (i4 prog w) A (oneLt' (b&&0==0) p q) Q' (λ_ _=>False) s)(D:e=a9->LexAt A s its jts k)(h:Q (if e=a9 then k else l) s):KatLex prog w A b (decide<|(p::its).length<(q::jts).length) Q ((p::its).zip<|q::jts) 0 s:=by
 refine kat_cons<|i prog w _ _ ?_;cases e with
 |true=>refine kat_yes ?_;rw[show decide ((p::its).length<(q::jts).length)=decide (its.length<jts.length) by simp];exact Db (D rfl) 1 (by cases b<;>rfl) (by cases b<;>rfl) h
 |false=>exact kat_no<|g rfl _ h
section
variable{X:Cx}{pins:List (d6×d7)}{σ:St}{H:Hp}{s:f9}{ρ:List d6}{M:t7}
def tJ{M:Model}{h:d8}{x:c8}{t:Tok}:Looks M h (typeOf<|.str x t) (.type "str"):=Looks.of_pure rfl
def tK{M:Model}{h:d8}{x:Int}{t:Tok}:Looks M h (typeOf<|.int x t) (.type "int"):=Looks.of_pure rfl
def Reps.getD'(r:Reps X.K ρ H ds vs)(d:az vs its)(h:i<ds.length):∃v,u7 X.K ρ H (ds.getD i default) v/\aR v (its.getD i .none)/\ds.getD i default∈ds:=by obtain⟨v,e,b⟩:=r.get<|A1 h;obtain⟨u,a,R⟩:=jB d e;refine⟨v,?_,?_,?_⟩;rw[G8,A1 h];exact b;rw[G8,a];exact R;rw[G8,A1 h];exact KI h
def Reps.mem(r:Reps X.K ρ H ds vs)(b:az vs its)(h:u∈its):∃d v,d∈ds/\u7 X.K ρ H d v/\aR v u:=by
 induction ds generalizing vs its with
 |nil=>cases r;cases b;cases h
 |cons g ds i =>
  cases r with
  |cons f r =>
   cases b with
   |cons e q=>rcases(z7 (a:=u)).mp h with rfl|h;exact⟨_,_,A9,f,e⟩;obtain⟨d,v,h1,h2,c⟩:=i r q h;exact⟨d,v,C4 _ h1,h2,c⟩
def vG(I:t5 X pins σ H s)(r:Reps X.K ρ H xs ws)(b:az ws its)(a:∀x∈xs,∃f r,x=.tup (f::r)):∃fs,KatTups s.heap its fs/\fs.length=its.length/\∀u∈fs,∃d v,u7 X.K ρ H d v/\aR v u/\∃r,D.tup (d::r)∈xs:=by
 induction xs generalizing ws its with
 |nil=>cases r;cases b;exact⟨[],.nil,rfl,λ_ z=>nomatch z⟩
 |cons d ds w =>
  cases r with
  |cons C r =>
   cases b with
   |cons A q =>
    obtain⟨fs,h1,h2,j⟩:=w r q λx h=>a x<|C4 _ h;obtain⟨f,aO,rfl⟩:=a d A9;cases C with
    |tup p c =>
     cases A;obtain⟨its,e,y,E⟩:=I.tuple p;cases c with
     |cons F c =>
      cases e with
      |cons i e=>obtain⟨o,B,k,n,m⟩:=y;refine⟨_::fs,.cons B k m rfl h1,by simp[h2],λu g=>?_⟩;rcases z7.mp g with rfl|g;exact⟨_,_,F,i,_,A9⟩;obtain⟨d,v,t,l,r',R⟩:=j u g;exact⟨d,v,t,l,r',C4 _ R⟩
noncomputable def ltc(M:t7)(xs:List D)(i j:Nat):Bool:=C9 M v3 (xs.getD i default)<|xs.getD j default
def jN(I:t5 X pins σ H s)(sm:v4 X.K ρ M H){xs:List D}{ws:List V}{its:List c6}(so:SrtG M xs)(r:Reps X.K ρ H xs ws)(J:az ws its)(h2:2<=its.length){A:f8}(P:A.units+v3<k7):i0 (i4 X.prog X.w) A (keyKind' its.toArray) (λκ s'=>s'=s/\∀i j (C:Bool->f9->Prop),i<its.length->j<its.length->C (ltc M xs i j) s->n5 X.prog X.w A κ its i j C s) (λ_ _=>False) s:=by
 have lw:=r.length;have li:=J.length;have le:xs.length=its.length:=by lia
 have O:∀(b:Bool),(∀x∈xs,∃f r,x=.tup (f::r))->(∀(f g:D) (vf vg:V) (p q:c6) (r r':List D),D.tup (f::r)∈xs->D.tup (g::r')∈xs->u7 X.K ρ H f vf->aR vf p->u7 X.K ρ H g vg->aR vg q -> (u8 M 29 f g=c5->∀Q':Bool->f9->Prop,Q' (C9 M 29 f g) s->i0 (i4 X.prog X.w) A (oneLt' (b&&0==0) p q) Q' (λ_ _=>False) s)) -> ∀i j (C:Bool->f9->Prop),i<its.length->j<its.length->C (ltc M xs i j) s->n5 X.prog X.w A (tuples' b) its i j C s:=by
  intro b F ab i j C hi hj E;unfold n5;obtain⟨v1,c,B,m⟩:=r.getD' J (show i<xs.length by lia);obtain⟨v2,G,L,W⟩:=r.getD' J (show j<xs.length by lia);unfold ltc at E;have k1:=so.okd _ m;have k2:=so.okd _ W;have k3:=so.cm _ m _ W;generalize xs.getD i default=x at *;generalize xs.getD j default=y at *;obtain⟨f,rf,rfl⟩:=F _ m;obtain⟨g,rg,rfl⟩:=F _ W;cases c with
  |tup S rs =>
   cases G with
   |tup aD Z =>
    generalize its.getD i .none=u1 at *;generalize its.getD j .none=u2 at *;cases B;cases L;obtain⟨as,ra,pa,_⟩:=I.tuple S;obtain⟨bs,rb,pb,_⟩:=I.tuple aD;obtain⟨o,ho,_,n,hd⟩:=pa;obtain⟨o',ax,_,n',ap⟩:=pb;refine kat_lt ho hd ax ap ?_;cases rs with
    |cons a1 rs =>
     cases ra with
     |@cons _ p _ la b1 ra =>
      cases Z with
      |cons a2 Z =>
       cases rb with
       |@cons _ q _ lb b2 rb =>
        have ai:A.units+29<k7:=by have:v3=30:=rfl;lia
        have z1:u9 M 29 f=a9/\rf.all (u9 M 29)=a9:=by
         have:(f::rf).all (u9 M 29)=a9:=k1
         rwa [KL,A2]at this
        have z2:u9 M 29 g=a9/\rg.all (u9 M 29)=a9:=by
         have:(g::rg).all (u9 M 29)=a9:=k2
         rwa [KL,A2]at this
        have z3:(if u8 M 29 f g=a9 then yi (u8 M 29) (kh M 29) rf rg else kh M 29 f g)=a9:=k3;have he:=(nW I sm 29 A _ _ _ _ _ _ ai a1 b1 a2 b2 z1.1 z2.1).1;have R:C (if u8 M 29 f g=a9 then uw (u8 M 29) (C9 M 29) rf rg else C9 M 29 f g) s:=E;cases U:u8 M 29 f g with
        |true=>rw[U]at he R z3;have:=Ay (prog:=X.prog) (w:=X.w) (b:=b) (Q:=C) (l:=a9) he (λz=>nomatch z) (λ_=>FG I sm 29 A ai _ _ _ _ _ _ rs ra Z rb z1.2 z2.2 z3) R;simpa using this
        |false=>rw[U]at he R;have:=Ay (prog:=X.prog) (w:=X.w) (b:=b) (Q:=C) (l:=C9 M 29 f g) (its:=la) (jts:=lb) (k:=a9) he (λ_=>ab f g _ _ _ _ _ _ m W a1 b1 a2 b2 U) (λz=>nomatch z) R;simpa using this
 have N:∀(κ:SortKind),(∀i j (C:Bool->f9->Prop),i<its.length->j<its.length->C (ltc M xs i j) s->n5 X.prog X.w A κ its i j C s)->(s=s/\∀i j (C:Bool->f9->Prop),i<its.length->j<its.length->C (ltc M xs i j) s->n5 X.prog X.w A κ its i j C s):=λκ h=>⟨rfl,h⟩
 have an:A.units+29<k7:=by have:v3=30:=rfl;lia
 rcases so.kd with a|a|a|a|a;refine kas_kind (T:=.type "str") h2 (λu P=>?_) b0 b0<|N _ λi j C hi hj E=>?_;obtain⟨d,v,m,c,B⟩:=r.mem J P;obtain⟨z,rfl⟩:=a d m;cases c;obtain⟨t,rfl⟩:=B;exact tJ;unfold n5;obtain⟨v1,c,B,m⟩:=r.getD' J (show i<xs.length by lia);obtain⟨v2,G,L,W⟩:=r.getD' J (show j<xs.length by lia);unfold ltc at E;obtain⟨z,hz⟩:=a _ m;obtain⟨z',Y⟩:=a _ W;rw[hz]at c E;rw[Y]at G E;cases c;cases G;obtain⟨t,h1⟩:=B;obtain⟨t',h2⟩:=L;rw[h1,h2];exact kas_lt_str E;refine kas_kind (T:=.type "int") h2 (λu P=>?_) b0 b0<|N _ λi j C hi hj E=>?_;obtain⟨d,v,m,c,B⟩:=r.mem J P;obtain⟨z,rfl⟩:=a d m;cases c;obtain⟨t,rfl⟩:=B;exact tK;unfold n5;obtain⟨v1,c,B,m⟩:=r.getD' J (show i<xs.length by lia);obtain⟨v2,G,L,W⟩:=r.getD' J (show j<xs.length by lia);unfold ltc at E;obtain⟨z,hz⟩:=a _ m;obtain⟨z',Y⟩:=a _ W;rw[hz]at c E;rw[Y]at G E;cases c;cases G;obtain⟨t,h1⟩:=B;obtain⟨t',h2⟩:=L;rw[h1,h2];exact kat_lt_int E;obtain⟨fs,t1,t2,t3⟩:=vG I r J λx F=>(a x F).elim λz ⟨r,e⟩=>⟨_,_,e⟩
 refine kat_kind (T:=.type "str") t1 b7 (λu P=>?_) b0<|N _<|O _ (λx F=>(a x F).elim λz ⟨r,e⟩=>⟨_,_,e⟩) λf g vf vg p q r r' m W c B G L S Q' h=>?_;obtain⟨d,v,c,B,r',m⟩:=t3 u P;obtain⟨z,aj,e⟩:=a _ m;cases e;cases c;obtain⟨t,rfl⟩:=B;exact tJ;obtain⟨z,_,e⟩:=a _ m;cases e;obtain⟨z',_,e'⟩:=a _ W;cases e';cases c;cases G;obtain⟨t,rfl⟩:=B;obtain⟨t',rfl⟩:=L;exact oneLt_str h;obtain⟨fs,t1,t2,t3⟩:=vG I r J λx F=>(a x F).elim λz ⟨r,e⟩=>⟨_,_,e⟩
 refine kat_kind (T:=.type "int") t1 b7 (λu P=>?_) b0<|N _<|O _ (λx F=>(a x F).elim λz ⟨r,e⟩=>⟨_,_,e⟩) λf g vf vg p q r r' m W c B G L S Q' h=>?_;obtain⟨d,v,c,B,r',m⟩:=t3 u P;obtain⟨z,aj,e⟩:=a _ m;cases e;cases c;obtain⟨t,rfl⟩:=B;exact tK;obtain⟨z,_,e⟩:=a _ m;cases e;obtain⟨z',_,e'⟩:=a _ W;cases e';cases c;cases G;obtain⟨t,rfl⟩:=B;obtain⟨t',rfl⟩:=L;exact oneLt_int h;obtain⟨fs,t1,t2,t3⟩:=vG I r J λx F=>(a x F).elim λz ⟨r,e⟩=>⟨_,_,e⟩
 refine kat_kind (T:=.type "tuple") t1 b7 (λu P=>?_) b0<|N _<|O _ (λx F=>(a x F).elim λz ⟨r,e⟩=>⟨_,_,e⟩) λf g vf vg p q r r' m W c B G L S Q' h=>?_;obtain⟨d,v,c,B,r',m⟩:=t3 u P;obtain⟨z,aj,e⟩:=a _ m;cases e;cases c with
 |tup S rs=>cases B;obtain⟨_,_,pl,_⟩:=I.tuple S;obtain⟨o,ho,E,_⟩:=pl;rw[<-E];exact(show Looks _ s.heap (typeOf<|.ref _) o.cls from(Looks.ld ho).andThen .now)
 have k1:u9 M 29 f=a9:=by have:(f::r).all (u9 M 29)=a9:=so.okd _ m;rw[KL,A2]at this;exact this.1
 have k2:u9 M 29 g=a9:=by have:(g::r').all (u9 M 29)=a9:=so.okd _ W;rw[KL,A2]at this;exact this.1
 have k3:(if u8 M 29 f g=a9 then yi (u8 M 29) (kh M 29) r r' else kh M 29 f g)=a9:=so.cm _ m _ W;rw[S]at k3;exact kat_one _ _<|Ec I sm 29 A _ _ _ _ _ _ an c B G L k1 k2 k3 _ _ _ _ h
end
def Fs{xs:List D}{lt:D->D->Bool}{c:D->List Int}(e:∀a∈xs,∀b∈xs,lt a b=decide (c a<c b)):(∀a∈xs,lt a a=c5)/\(∀a∈xs,∀b∈xs,∀d∈xs,lt a b=a9->lt b d=a9->lt a d=a9)/\∀a∈xs,∀b∈xs,∀d∈xs,lt a d=a9->lt a b=a9\/lt b d=a9:=by refine⟨λa f=>?_,λa f b g d i h1 h2=>?_,λa f b g d i h=>?_⟩;rw[e a f a f,dF_<|N5 _];rw[e a f b g,p6]at h1;rw[e b g d i,p6]at h2;rw[e a f d i,p6];exact List.lt_trans h1 h2;rw[e a f d i,p6]at h;rw[e a f b g,e b g d i,p6,p6];by_cases z:c a<c b;exact .inl z;have F:c b<=c a:=z;exact .inr<|List.lt_of_le_of_lt F h
def Cu{xs:List D}(o:SrtG M xs):(∀a∈xs,C9 M v3 a a=c5)/\(∀a∈xs,∀b∈xs,∀d∈xs,C9 M v3 a b=a9->C9 M v3 b d=a9->C9 M v3 a d=a9)/\∀a∈xs,∀b∈xs,∀d∈xs,C9 M v3 a d=a9->C9 M v3 a b=a9\/C9 M v3 b d=a9:=o.od.elim λ_ e=>Fs e
theorem zr{l:d6}{xs:List D}{J:List V}{its:List c6}{R:VK}{lt:D->D->Bool}(I:t5 X pins σ H s)(sm:v4 X.K ρ M H)(F:∀h',t5 X pins σ H { s with heap:=h' }->i0 (i4 X.prog X.w) X.A.in1.in1 (keyKind' its.toArray) (λκ s'=>s'={ s with heap:=h' }/\∀i j (C:Bool->f9->Prop),i<its.length->j<its.length->C (lt (xs.getD i default)<|xs.getD j default) { s with heap:=h' }->n5 X.prog X.w X.A.in1.in1 κ its i j C { s with heap:=h' }) (λ_ _=>False) { s with heap:=h' })(o1:∀a∈xs,lt a a=c5) (o2:∀a∈xs,∀b∈xs,∀d∈xs,lt a b=a9->lt b d=a9->lt a d=a9) (o3:∀a∈xs,∀b∈xs,∀d∈xs,lt a d=a9->lt a b=a9\/lt b d=a9) (r:Reps X.K ρ H xs J) (rr:az J its) (hl:s.heap.IsList l its.toArray) (hz:J.length<=sizeLine) (h2:2<=its.length) (L:its.length<64)(E:l≠X.env.locals) (kk:∀v H',((∀Q:DK,(∀ys,ys.Perm xs->(ys.Pairwise λa b=>lt b a=c5)->Q (.ref M.length) (M++[.lst ys]))->VQ X.K ρ H Q v H'))->R v H'):i0 (i4 X.prog X.w) X.A (call (.builtin "sorted") [.ref l]) (EP X pins σ R) X.xe s:=by
 obtain⟨m,S,hm⟩:=I.loc;have lw:=r.length;have li:=rr.length;obtain⟨ol,g,_⟩:=id hl;have k:∀a o,(a,o)∈[]++(l,ol)::Att.ledger s.heap X.env.locals l↔a≠X.env.locals/\s.heap.get? a=a7 o:=λa o=>by rw[E9,z7,Att.mem_ledger];constructor;rintro(h|⟨h1,_,h3⟩);cases h;exact⟨E,g⟩;exact⟨h1,h3⟩;rintro⟨h1,h2⟩;by_cases z:a=l;subst z;rw[g]at h2;cases h2;exact .inl rfl;exact .inr ⟨h1,z,h2⟩
 refine kat_sorted (Att.fr_all S) (Att.news_ledger E g) hl h2 L λD e1 h' U N G=>?_;have kp:∀b u,b≠X.env.locals->s.heap.get? b=a7 u->h'.get? b=a7 u:=λb u P e=>(N (b,u)<|C4 _<|(k b u).mpr ⟨P,e⟩).1;have O:D≠X.env.locals:=(N _ A9).2.1;have Y:s.heap.get? D=a8:=by
  cases q:s.heap.get? D with
  |none=>rfl
  |some o=>exact p5 (G (D,o)<|(k D o).mpr ⟨O,q⟩)<|E8 _
 have I':t5 X pins σ H { s with heap:=h' }:=I.keptF (t':=s.toks) kp S U.ns;refine D3 (F h' I') (λκ s' hk=>?_) λ_ _ x=>x;obtain⟨rfl,B⟩:=hk;refine Srt.wp_run (n:=its.length) (c:=λi j=>if i<xs.length then(if j<xs.length then lt (xs.getD i default) (xs.getD j default)else a9)else c5) (λi j C hi hj Z=>?_) _ (Srt.sort_bd<|by lia).1 ?_;refine B i j C hi hj ?_;rw[o8 b7,o8<|by lia]at Z;exact Z;have t:=Srt.All.run (c:=λi j=>if i<xs.length then(if j<xs.length then lt (xs.getD i default) (xs.getD j default)else a9)else c5) _ (Srt.sort_bd (n:=its.length)<|by lia).2;have f:=Srt.sort_list xs b7 o1 o2 o3
 try dsimp only at f
 rw[show xs.length=its.length by lia]at f t ⊢;generalize Srt.run _ (LP its.length)=p at t f ⊢;have hi:∀i∈p.toList,i<xs.length:=λi h=>by have:=t.mem_iff.mp h;rw[G1]at this;lia
 refine KasFin.intro U N (Ny λq hq=>A4<|G q hq) λh2 c F2 W=>?_;have r':=r.perm p.toList hi;have T:=rr.perm p.toList (λi h=>by have:=hi i h;lia);have y:H D=a8:=C6.none I.hok Y;refine⟨.ref D,_,I.laidF (t':=s.toks) (o:=.lst<|p.toList.map λi=>J.getD i .non) (λb u P e=>(W (b,u)<|C4 _<|(k b u).mpr ⟨P,e⟩).1) S F2.ns Y y ⟨?_,_,c,T,(W _ A9).1⟩,rfl,kk _ _ λQ hQ=>VQ.laidL sm .refl r' y<|hQ _ f.1 f.2⟩;rw[v5];have:=f.1.length_eq;rw[v5]at this;lia
def yO{X:Cx}(i:Room k X.A):X.A.in1.in1.units+v3<k7:=by have:=i.un;have:v3=30:=rfl;show X.A.units+1+1+v3<k7;lia
def Cb{k:Nat}{l:d6}{xs:List D}{a:List V}{its:List c6}{R:VK}(i:Room k X.A)(I:t5 X pins σ H s)(m:v4 X.K ρ M H)(c:SrtG M xs)(r:Reps X.K ρ H xs a)(d:az a its)(g:s.heap.IsList l its.toArray)(hz:a.length<=sizeLine)(h2:2<=its.length)(L:its.length<64)(b:l≠X.env.locals) (C:∀v H',((∀Q:DK,(∀ys,ys.Perm xs->rJ M ys->Q (.ref M.length) (M++[.lst ys]))->VQ X.K ρ H Q v H'))->R v H'):i0 (i4 X.prog X.w) X.A (call (.builtin "sorted") [.ref l]) (EP X pins σ R) X.xe s:=have o:=Cu c
 zr (lt:=C9 M v3) I m (λ_ e=>jN e m c r d h2<|yO i) o.1 o.2.1 o.2.2 r d g hz h2 L b C
def t5.sqL_ne(I:t5 X pins σ H s)(h:Kx X.K H a xs):a≠X.env.locals:=by
 rcases h with h|⟨o,its,n,k,_⟩
 rcases h with h|⟨_,h⟩
 exact ad h I.free;exact ad h I.free;have:=z8<|I.mod.kin a o k;exact A4<|E5 this<|KY I.ok.bsz I.ok.above
def Bl(i:Room k X.A):ou X (.builtin "sorted") zB:=by
 rintro p s σ H vs us R I j ⟨ds,M,ρ,Q,m,rs,q,C⟩;unfold zB at q;split at q;obtain⟨xs,f,c,q⟩:=q;cases rs with
 |cons r1 rs =>
  cases rs;obtain⟨u,rfl,t⟩:=az.one j;cases r1 with
  |ref e =>
   cases t;obtain⟨w,b,r⟩:=ah.seq m f e;obtain⟨its,d,l,z⟩:=I.list b;have E:=r.length;have y:=d.length;by_cases h2:its.length<2;refine sR l.isList h2 λD h' n a g B=>?_;refine⟨.ref D,_,I.laid (t':=s.toks) (o:=.lst w) g a ⟨z,its,n,d,B⟩,rfl,C _ _<|VQ.laidL m .refl r (I.hok.fresh a)<|q xs (Ni _) ?_⟩;unfold rJ
   match xs,(show xs.length<2 by lia) with
   | [],_=>exact Od
   | [x],_=>exact OX _ _
   |_::_::_,hx=>simp at hx;lia
   have h:2<=its.length:=by lia
   have L:its.length<64:=by have:=c.len;lia
   exact Cb i I m c r d l.isList z h L (I.sqL_ne b) λv H' x=>C v H'<|x Q q
 exact q.elim
theorem tG(h:s.heap.IsTupleIter it t i)(D:s.heap.IsTuple t items)(a:items[i]?=a7 x)(b:∀h',h'.IsTupleIter it t (i+1)->NB it s.heap h'->Q x { s with heap:=h' }):i0 (i4 prog w) A (Nn<|.ref it) Q E s:=by obtain⟨o,B,f,d⟩:=id h;obtain⟨c,g,_,n,l⟩:=D;unfold Nn;refine t4<|LZ (name:=x9 "__next__") h.typeIs F.slot_tuple_iterator_next<|K6 F.slot_tuple_iterator_next h.typeIs F.entry_tuple_iterator_next ?_<|F.args_tuple_iterator_next_1<|.ref it;refine(show i0 (i4 prog w) _ (field (.ref it) 0 >>= _) _ _ s from t4<|F6 B d (x:=.ref t) rfl ?_);refine(show i0 (i4 prog w) _ (if (F8 t==G6)=a9 then _ else field (.ref it) 1 >>= _) _ _ s from ?_);rw[p0<|show ¬(F8 t==G6)=a9 from NJ];refine t4<|F6 B d (x:=.int i 0) rfl<|show i0 (i4 prog w) _ (seqItems? (.ref t) >>= _) _ _ s from t4<|LG g l ?_;simp only[LJ,a];refine t4<|Lr B d b9<|u5 ⟨x,rfl,u5<|b _ ⟨_,Lu _ B<|PB<|Oi d _,(Obj.cls_mapFields ..).trans f,?_⟩<|MS ..⟩;rw[Oi d];simp[j7]
theorem lF(b:A.handled=a8)(h:s.heap.IsTupleIter it t i)(D:s.heap.IsTuple t items)(f:items[i]?=a8)(c:∀h' e,Heap.ExtBut it s.heap h'->(∃o,h'.get? e=a7 o/\o.cls=.type "StopIteration")->E (.ref e) { s with heap:=h' }):i0 (i4 prog w) A (Nn<|.ref it) Q E s:=by
 obtain⟨o,B,j,d⟩:=id h;obtain⟨k,g,_,n,l⟩:=D;unfold Nn;refine t4<|LZ (name:=x9 "__next__") h.typeIs F.slot_tuple_iterator_next<|K6 F.slot_tuple_iterator_next h.typeIs F.entry_tuple_iterator_next ?_<|F.args_tuple_iterator_next_1<|.ref it;refine(show i0 (i4 prog w) _ (field (.ref it) 0 >>= _) _ _ s from t4<|F6 B d (x:=.ref t) rfl ?_);refine(show i0 (i4 prog w) _ (if (F8 t==G6)=a9 then _ else field (.ref it) 1 >>= _) _ _ s from ?_);rw[p0<|show ¬(F8 t==G6)=a9 from NJ];refine t4<|F6 B d (x:=.int i 0) rfl<|show i0 (i4 prog w) _ (seqItems? (.ref t) >>= _) _ _ s from t4<|LG g l ?_;simp only[LJ,f];refine t4<|M9<|t4<|Lr B d b9<|show i0 (i4 prog w) _ (newExc (.type "StopIteration") [] >>= _) _ _ _ from t4 ?_;simp only[newExc,newTuple];refine t4 (KJ (t4 (m:=n6 _ _)<|wpAny_of_eq (a:=G6) (by first|rfl|(simp only[n6];rfl))<|KJ ?_<|by size_fits)<|by size_fits);simp only[raiseNew];refine t4<|wpAny_handled ?_
 first|rw[show A.in1.handled=a8 from b]|rw[b]
 exact t4<|u5<|wpAny_throw<|c _ _ (((MS ..).extBut.push _).push _)<|⟨_,B6 _ rfl,rfl⟩
def vL(g:A.handled=a8)(it t:d6)(c:t≠it)(a:Array c6):Draws prog w A it [it,t] a.size (λi v=>a[i]?=a7 v) (λi h=>h.IsTupleIter it t i/\h.IsTuple t a) where
 live:=λ_ _ ⟨⟨o,B,_⟩,_⟩=>⟨o,B⟩
 frame:=λ_ _ _ ⟨h1,o,e,r⟩ k=>⟨h1.at λo e=>k it (A9) o e,o,k t b9 o e,r⟩
 item:=λi s Q E hi ⟨h1,h2⟩ f=>by refine tG h1 h2 (x:=a[i]) (Lm hi) λh' b u=>f _ h' s.toks (Lm hi) ⟨b,?_⟩ u;obtain⟨o,e,r⟩:=h2;exact⟨o,u.extBut _ _ c e,r⟩
 done:=λs Q E ⟨h1,h2⟩ d=>lF g h1 h2 (PF<|v7 _) d
structure ZA(z TI TO i1 i2:d6)(f1 f2:List d6):Prop where
 nd:[z,TI,TO,i1,i2].Nodup
 z1:z∉f1
 o1:TO∉f1
 y1:i2∉f1
 z2:z∉f2
 o2:TO∉f2
 x2:i1∉f2
def eZ{prog:d5}{w:c9}{A:f8}{it c:d6}{fp:List d6}{n k:Nat}{P:Nat->c6->Prop}{St:Nat->d8->Prop}{h h':d8}(D:Draws prog w A it fp n P St)(f:c∉fp)(hs:Heap.ExtBut c h h')(st:St k h):St k h':=D.frame k h h' st λb d o e=>hs b o (λq=>f<|q ▸ d) e
section
variable{prog:d5}{w:c9}{A:f8}{E:c6->f9->Prop}{s:f9}{z TI TO i1 i2:d6}{f1 f2:List d6}{n1 n2 k:Nat}{P1 P2:Nat->c6->Prop}{S1 S2:Nat->d8->Prop}{a b:c6}
def BF{Q:c6->f9->Prop}(D:Draws prog w A i1 f1 n1 P1 S1)(p:Draws prog w A i2 f2 n2 P2 S2)(Z:ZA z TI TO i1 i2 f1 f2)(hz:IsZip s.heap z TI TO .none)(I:n9 s.heap TI (.ref i1) (.ref i2))(J:n9 s.heap TO a b)(L:S1 k s.heap) (U:S2 k s.heap) (l1:k<n1) (l2:k<n2)(hQ:∀h' tk x y T,P1 k x->P2 k y->s.heap.objs.size<=T->IsZip h' z TI TO (j7 T)->n9 h' TO x y->S1 (k+1) h'->S2 (k+1) h'->n9 h' T x y->(∀c o,c≠z->c≠TO->c≠i1->c≠i2->s.heap.get? c=a7 o->h'.get? c=a7 o)->Q (.ref T) { s with heap:=h',toks:=tk }):i0 (i4 prog w) A (Builtin.«zip.__next__» ⟨[.ref z],[]⟩) (λfin s'=>∃v,fin=.done (.ret v)/\Q v s') E s:=by
 have X:=Z.nd;simp only[KN,z7,Ls,or_false,not_or]at X;obtain⟨⟨ai,O,P,R⟩,⟨S,V,W⟩,⟨r,t⟩,ab,_⟩:=X;refine(show i0 (i4 prog w) A (field (.ref z) 2 >>= _) _ _ _ from t4<|F6 hz rfl (x:=.bool c5) rfl ?_);refine(show i0 (i4 prog w) A (field (.ref z) 3 >>= _) _ _ _ from t4<|F6 hz rfl (x:=.ref TI) rfl<|t4<|LG I rfl ?_);refine(show i0 (i4 prog w) A (PU (.ref z) >>= _) _ _ _ from t4 ?_);unfold PU;refine t4<|F6 hz rfl (x:=G6) rfl<|u5 ?_;simp only[p9];refine t4<|M9<|t4<|F6 hz rfl (x:=.ref TO) rfl<|t4<|Oh hz b9 λh₁ (hz₁:IsZip h₁ z TI TO .ellipsis) hs₁=>t4 ?_;simp only[List.zipIdx_cons,List.zipIdx_nil,Pj,List.forIn_nil];refine t4<|t4<|OE<|show i0 (i4 prog w) A (Nn (.ref i1) >>= _) _ _ _ from t4 ?_;refine D.item k _ _ _ l1 (eZ D Z.z1 hs₁.extBut L) λx u M px m h=>u5 ?_;have f:n9 u TO a b:=h.extBut _ _ r<|hs₁.extBut _ _ (A8 O) J;refine t4<|LG f rfl<|t4<|wpAny_updateSeq_pair f λh₃ (hTO₃:n9 h₃ TO x b) hs₃=>t4<|wpAny_letGo<|u5 ?_;refine t4<|t4<|OE<|show i0 (i4 prog w) A (Nn (.ref i2) >>= _) _ _ _ from t4 ?_;refine p.item k _ _ _ l2 (eZ p Z.o2 hs₃.extBut<|eZ p Z.x2 h.extBut<|eZ p Z.z2 hs₁.extBut U) λy B N py n d=>u5 ?_;have g:n9 B TO x b:=d.extBut _ _ t hTO₃;refine t4<|LG g rfl<|t4<|wpAny_updateSeq_pair g λh₅ (hTO₅:n9 h₅ TO x y) hs₅=>t4<|wpAny_letGo<|u5<|u5 ?_;refine t4<|LG hTO₅ rfl<|t4<|OI ?_;have i:IsZip h₅ z TI TO .ellipsis:=hs₅.extBut _ _ O<|d.extBut _ _ R<|hs₃.extBut _ _ O<|h.extBut _ _ P hz₁;have kp:∀c o,c≠z->c≠TO->c≠i1->c≠i2->s.heap.get? c=a7 o->h₅.get? c=a7 o:=λc o j C G H e=>hs₅.extBut _ _ C<|d.extBut _ _ H<|hs₃.extBut _ _ C<|h.extBut _ _ G<|hs₁.extBut _ _ j e;have sz:h₅.objs.size=s.heap.objs.size:=by rw[hs₅.1,d.1,hs₃.1,h.1];exact hs₁.1
 have t1:=eZ D Z.o1 hs₅.extBut<|eZ D Z.y1 d.extBut<|eZ D Z.o1 hs₃.extBut m;have t2:=eZ p Z.o2 hs₅.extBut n;refine(show i0 (i4 prog w) A (QR (.ref z) (.ref h₅.objs.size) >>= _) _ _ _ from t4 ?_);unfold QR;have l:IsZip (h₅.push { cls:=.type "tuple",data:=.seq #[x,y] }) z TI TO .ellipsis:=w5 _ i;refine t4<|Oh l b9 λh₇ (hz₇:IsZip h₇ z TI TO (j7 h₅.objs.size)) hs₇=>Oh hz₇ b9 λh₈ (hz₈:IsZip h₈ z TI TO (j7 h₅.objs.size)) hs₈=>?_;have F:∀c o,c≠z->h₅.get? c=a7 o->h₈.get? c=a7 o:=λc o j e=>hs₈.extBut _ _ j<|hs₇.extBut _ _ j<|w5 _ e;have Y:h₅.objs.size≠z:=Nc<|z8 i;refine u5 ⟨_,rfl,hQ h₈ _ x y h₅.objs.size px py (Nat.le_of_eq sz.symm) hz₈ (F _ _ (A8 O) hTO₅) ?_ ?_ (hs₈.extBut _ _ Y<|hs₇.extBut _ _ Y<|B6 _ rfl) λc o j C G H e=>F c o j<|kp c o j C G H e⟩;exact D.frame _ _ _ t1 λc K o e=>F c o (λq=>Z.z1<|q ▸ K) e;exact p.frame _ _ _ t2 λc K o e=>F c o (λq=>Z.z2<|q ▸ K) e
def BH{Q:Fin->f9->Prop}(D:Draws prog w A i1 f1 n1 P1 S1)(v:Draws prog w A i2 f2 n2 P2 S2)(Z:ZA z TI TO i1 i2 f1 f2)(hz:IsZip s.heap z TI TO .none)(I:n9 s.heap TI (.ref i1) (.ref i2))(J:n9 s.heap TO a b)(L:S1 k s.heap) (U:S2 k s.heap) (N:k=n1\/(k<n1/\k=n2))(F:∀h' tk e,(∀c o,c≠z->c≠TO->c≠i1->c≠i2->s.heap.get? c=a7 o->h'.get? c=a7 o)->(∃o,h'.get? e=a7 o/\o.cls=.type "StopIteration")->E (.ref e) { s with heap:=h',toks:=tk }):i0 (i4 prog w) A (Builtin.«zip.__next__» ⟨[.ref z],[]⟩) Q E s:=by
 have X:=Z.nd;simp only[KN,z7,Ls,or_false,not_or]at X;obtain⟨⟨ab,O,P,R⟩,⟨S,V,W⟩,⟨T,C⟩,Y,_⟩:=X;refine(show i0 (i4 prog w) A (field (.ref z) 2 >>= _) _ _ _ from t4<|F6 hz rfl (x:=.bool c5) rfl ?_);refine(show i0 (i4 prog w) A (field (.ref z) 3 >>= _) _ _ _ from t4<|F6 hz rfl (x:=.ref TI) rfl<|t4<|LG I rfl ?_);refine(show i0 (i4 prog w) A (PU (.ref z) >>= _) _ _ _ from t4 ?_);unfold PU;refine t4<|F6 hz rfl (x:=G6) rfl<|u5 ?_;simp only[p9];refine t4<|M9<|t4<|F6 hz rfl (x:=.ref TO) rfl<|t4<|Oh hz b9 λh₁ (hz₁:IsZip h₁ z TI TO .ellipsis) hs₁=>t4 ?_;simp only[List.zipIdx_cons,List.zipIdx_nil,Pj,List.forIn_nil];refine t4<|t4<|OE<|show i0 (i4 prog w) A (Nn (.ref i1) >>= _) _ _ _ from t4 ?_;rcases N with rfl|⟨l1,rfl⟩
 refine D.done _ _ _ (eZ D Z.z1 hs₁.extBut L) ?_;rintro p e h ⟨oe,f,i⟩;have m:IsZip p z TI TO .ellipsis:=h _ _ P hz₁;have t:e≠z:=λq=>by subst q;rw[m]at f;cases f;simp at i
 exact Oh m b9 λr _ d=>F r _ e (λc o u _ G _ q=>d.extBut _ _ u<|h _ _ G<|hs₁.extBut _ _ u q) ⟨oe,d.extBut _ _ t f,i⟩;refine D.item k _ _ _ l1 (eZ D Z.z1 hs₁.extBut L) λx p M px y h=>u5 ?_;have g:n9 p TO a b:=h.extBut _ _ T<|hs₁.extBut _ _ (A8 O) J;refine t4<|LG g rfl<|t4<|wpAny_updateSeq_pair g λr (hTO₃:n9 r TO x b) d=>t4<|wpAny_letGo<|u5 ?_;refine t4<|t4<|OE<|show i0 (i4 prog w) A (Nn (.ref i2) >>= _) _ _ _ from t4 ?_;refine v.done _ _ _ (eZ v Z.o2 d.extBut<|eZ v Z.x2 h.extBut<|eZ v Z.z2 hs₁.extBut U) ?_;rintro B e j ⟨oe,f,i⟩;have n:IsZip B z TI TO .ellipsis:=j _ _ R<|d.extBut _ _ O<|h.extBut _ _ P hz₁;have t:e≠z:=λq=>by subst q;rw[n]at f;cases f;simp at i
 exact Oh n b9 λh₅ _ l=>F h₅ _ e (λc o u H G K q=>l.extBut _ _ u<|j _ _ K<|d.extBut _ _ H<|h.extBut _ _ G<|hs₁.extBut _ _ u q) ⟨oe,l.extBut _ _ t f,i⟩
end
section
variable{X:Cx}{pins:List (d6×d7)}{σ:St}{H:Hp}{s:f9}{h':d8}
def t5.turnedL{t':Nat}{fp:List d6}(I:t5 X pins σ H s)(h:∀b∈fp,oy X pins H b)(k:∀b o,b∉fp->s.heap.get? b=a7 o->h'.get? b=a7 o):t5 X pins σ H { s with heap:=h',toks:=t' }:=by
 have p:∀b u,H b=a7 u->b∉fp:=λb u e z=>by rw[(h b z).1]at e;cases e
 refine I.step (g':=s.gens) (d':=s.drawn) (ch:=fp) (λb d=>⟨(h b d).2.2.2.1,(h b d).2.1,(h b d).2.2.2.2.1,(h b d).2.2.2.2.2⟩) (λb o _ _ f e _=>k b o f e) (λb o _ _ f e _=>⟨o.slots,k b o f e⟩) (λ_ _ _ _ n=>n) (λb o f e=>⟨o,k b o f e⟩) (λ_ _ e=>e) (λ_ _ _ e=>e) (λb ps e=>⟨#[],by rw[e];simp⟩) (λm a=>?_) (λb u e=>?_) I.bare;obtain⟨o,es,i,B,r⟩:=a;exact⟨o,es,i,k _ o (λz=>(h _ z).2.1 rfl) B,r⟩;refine(I.hok b u e).stay (λc v f q=>k c v ?_ q) (λ_ q=>q) λ_ _ q=>q;rcases f with rfl|z;exact p _ u e;exact p _ _ z
def t5.turnedT{t':Nat}{fp:List d6}{T:d6}{o:HO}(I:t5 X pins σ H s)(h:∀b∈fp,oy X pins H b)(k:∀b o,b∉fp->s.heap.get? b=a7 o->h'.get? b=a7 o)(j:s.heap.objs.size<=T)(i:cB X.prog X.w (v8 H T o) h' T o):t5 X pins σ (v8 H T o) { s with heap:=h',toks:=t' }:=by
 have a:H T=a8:=I.hok.fresh j;have g:∀b u,s.heap.get? b=a7 u->b≠T:=λb u e=>A4<|E5 (z8 e) j;have p:∀b u,H b=a7 u->b∉fp:=λb u e z=>by rw[(h b z).1]at e;cases e
 refine I.step (g':=s.gens) (d':=s.drawn) (ch:=fp) (λb d=>⟨(h b d).2.2.2.1,(h b d).2.1,(h b d).2.2.2.2.1,(h b d).2.2.2.2.2⟩) (λb o _ _ f e _=>k b o f e) (λb o _ _ f e _=>⟨o.slots,k b o f e⟩) (λb u _ e n=>by rw[am<|g b u e];exact n) (λb o f e=>⟨o,k b o f e⟩) (λb xs q=>by rw[am<|ad q a];exact q) (λb u xs q=>by rw[am<|ad q a];exact q) (λb ps q=>⟨#[],by rw[am<|ad q a,q];simp⟩) (λm t=>?_) (λb u e=>?_) I.bare;obtain⟨o,es,l,B,r⟩:=t;exact⟨o,es,l,k _ o (λz=>(h _ z).2.1 rfl) B,r⟩;by_cases d:b=T;subst d;rw[aI]at e;cases e;exact i;rw[am d]at e;refine(I.hok b u e).stay (λc v f q=>k c v ?_ q) (λc q=>by rw[am<|ad q a];exact q) λc xs q=>by rw[am<|ad q a];exact q
 rcases f with rfl|z;exact p _ u e;exact p _ _ z
def Sq(t:Bool)(K:u6)(H:Hp)(a:d6)(xs:List V):Prop:=if t=a9 then D0 K H a xs else Kx K H a xs
def L8(t:Bool)(h:d8)(i l:d6)(k:Nat):Prop:=if t=a9 then h.IsTupleIter i l k else h.IsListIter i l k
def LM(t:Bool)(h:d8)(l:d6)(xs:Array c6):Prop:=if t=a9 then h.IsTuple l xs else h.IsList l xs
def L8.at(x:L8 t h i l k)(e:∀o,h.get? i=a7 o->h'.get? i=a7 o):L8 t h' i l k:=by
 cases t with
 |true=>exact(show h.IsTupleIter i l k from x).at e
 |false=>exact(show h.IsListIter i l k from x).at e
def L8.obj(x:L8 t h i l k):∃o,h.get? i=a7 o/\∀v,o.data≠.cell v:=by
 cases t with
 |true =>
  obtain⟨o,e,c,d⟩:=(show h.IsTupleIter i l k from x)
  exact⟨o,e,λv z=>by rw[d]at z;cases z⟩
 |false =>
  obtain⟨o,e,c,d⟩:=(show h.IsListIter i l k from x)
  exact⟨o,e,λv z=>by rw[d]at z;cases z⟩
def Sq.is(I:t5 X pins σ H s)(h:Sq t X.K H a xs):∃its,az xs its/\LM t s.heap a its.toArray/\xs.length<=sizeLine:=by
 cases t with
 |true=>exact I.tuple<|show D0 X.K H a xs from h
 |false=>obtain⟨its,d,p,b⟩:=I.list<|show Kx X.K H a xs from h;exact⟨its,d,p.isList,b⟩
def Sq.inj(I:t5 X pins σ H s)(h:Sq t X.K H a xs)(h':Sq t X.K H a ys):xs=ys:=by
 cases t with
 |true=>exact I.tuple_inj h h'
 |false=>exact I.list_inj h h'
def Sq.ne(I:t5 X pins σ H s)(h:Sq t X.K H a xs)(f:oy X pins H b):a≠b:=by
 have c:∀o,X.K.lookup a=a7 o->a≠b:=λo k=>by have d:=I.mod.kin a o k;rcases f.2.2.2.1 with z|z;intro q;subst q;exact I.ok.noex a o d z;exact A4<|E5 (z8 d)<|KY I.ok.bsz z
 cases t with
 |true =>
  rcases(show D0 X.K H a xs from h)with(h|⟨_,h⟩)|⟨o,its,n,k,_⟩
  exact ad h f.1;exact ad h f.1;exact c o k
 |false =>
  rcases(show Kx X.K H a xs from h)with(h|⟨_,h⟩)|⟨o,its,n,k,_⟩
  exact ad h f.1;exact ad h f.1;exact c o k
def jY(a:A.handled=a8)(t:Bool)(it l:d6)(b:l≠it)(s:Array c6):Draws prog w A it [it,l] s.size (λi v=>s[i]?=a7 v) (λi h=>L8 t h it l i/\LM t h l s):=by
 cases t with
 |true=>exact vL a it l b s
 |false=>exact Draws.list a it l b s
noncomputable def QK(K:u6)(E F:Bool)(b g:d6):It:=⟨λi H=>∃xs ys x y,Sq E K H b xs/\Sq F K H g ys/\xs[i]?=a7 x/\ys[i]?=a7 y,λi H v H'=>∃T x y,v=.ref T/\H T=a8/\H'=v8 H T (.tup [x,y])/\(∀xs,Sq E K H b xs->xs[i]?=a7 x)/\∀ys,Sq F K H g ys->ys[i]?=a7 y,λi H=>∃xs ys,Sq E K H b xs/\Sq F K H g ys/\(i=xs.length\/(i<xs.length/\i=ys.length))⟩
def QI(E F:Bool)(z TI TO c d l g:d6)(i:Nat)(h:d8):Prop:=IsZip h z TI TO .none/\n9 h TI (.ref c) (.ref d)/\(∃a b,n9 h TO a b)/\L8 E h c l i/\L8 F h d g i
def BT{P:d5}{w:c9}{K:u6}{U:List i3}{x1:Nat}{pos:i5}{t1 t2:Bool}{z TI TO j l L D:d6}(nd:[z,TI,TO,j,l].Nodup):Turn P w K (.Tuple U x1 pos) (QK K t1 t2 L D) [z,TI,TO,j,l] z (QI t1 t2 z TI TO j l L D) where
 mem:=A9
 obj:=λi h ⟨u,g,⟨a,b,J⟩,h1,h2⟩ c d=>by simp only[z7,Ls,or_false]at d;rcases d with rfl|rfl|rfl|rfl|rfl;exact⟨_,u,λv q=>nomatch q⟩;exact⟨_,g,λv q=>nomatch q⟩;exact⟨_,J,λv q=>nomatch q⟩;exact h1.obj;exact h2.obj
 keep:=λi h h' ⟨u,g,⟨a,b,J⟩,h1,h2⟩ k=>⟨k z b9 _ u,k TI b9 _ g,⟨a,b,k TO b9 _ J⟩,h1.at λo e=>k j b9 o e,h2.at λo e=>k l b9 o e⟩
 item:=by
  rintro X hP hw hK d i ap s σ H E I Q ⟨u,g,⟨a,b,J⟩,h1,h2⟩ ⟨xs,ys,x,y,n,p,hx,hy⟩;subst hP hw hK;obtain⟨us,ru,iu,bf⟩:=n.is I;obtain⟨vs,rv,iv,bi⟩:=p.is I;have lu:=ru.length;have lv:=rv.length;have f:=Q;have B:=nd;simp only[KN,z7,Ls,or_false,not_or]at B;obtain⟨⟨O,as,G,R⟩,⟨S,V,W⟩,⟨r,t⟩,Y,_⟩:=B;have a1:L≠j:=n.ne I (f j<|by simp);have a2:D≠l:=p.ne I (f l<|by simp);have Z:ZA z TI TO j l [j,L] [l,D]:=⟨nd,by simp[G,A8<|n.ne I<|f z<|by simp],by simp[r,A8<|n.ne I<|f TO<|by simp],by simp[A8 Y,A8<|n.ne I<|f l<|by simp],by simp[R,A8<|p.ne I<|f z<|by simp],by simp[t,A8<|p.ne I<|f TO<|by simp],by simp[Y,A8<|p.ne I<|f j<|by simp]⟩
  have ix:i<us.length:=by have:=(B5.mp hx).1;lia
  have iy:i<vs.length:=by have:=(B5.mp hy).1;lia
  have hT:s.TypeIs (.ref z) "zip":=⟨_,u,rfl⟩
  unfold j4;refine t4<|Ms<|LZ (name:=x9 "__next__") hT F.slot_zip_next<|K6 F.slot_zip_next hT F.entry_zip_next ?_<|F.args_zip_next_1<|.ref z;refine BF (k:=i) (jY (show X.A.in1.handled=a8 from I.ok.hd d) t1 j L a1 us.toArray) (jY (show X.A.in1.handled=a8 from I.ok.hd d) t2 l D a2 vs.toArray) Z u g J ⟨h1,iu⟩ ⟨h2,iv⟩ (by simpa using ix) (by simpa using iy) λh' tk px py T aj an C aT ab s1 s2 hp hk=>u5 ⟨_,rfl,?_⟩;refine wpAny_letOwnedTupleGo_zip aT λh2 bd m=>?_;have bm:T≠z:=λq=>by subst q;exact p5 (z8 u)<|Nat.not_lt_of_le C
  obtain⟨M,ax,bk⟩:=ru.get hx;obtain⟨N,aD,bl⟩:=rv.get hy;have e1:M=px:=by rw[Qt,ax]at aj;exact C1 aj
  have e2:N=py:=by rw[Qt,aD]at an;exact C1 an
  subst e1 e2;have aS:n9 h2 T M N:=m.extBut _ _ bm hp;refine⟨.ref T,v8 H T<|.tup [x,y],?_,rfl,⟨T,x,y,rfl,I.hok.fresh C,rfl,λzs hq=>by rw[hq.inj I n];exact hx,λzs hq=>by rw[hq.inj I p];exact hy⟩,⟨bd,m.extBut _ _ (A8 O)<|hk _ _ (A8 O) S V W g,⟨_,_,m.extBut _ _ (A8 as) ab⟩,s1.1.at λo e=>m.extBut _ _ (A8 G) e,s2.1.at λo e=>m.extBut _ _ (A8 R) e⟩,λc d=>?_⟩;refine I.turnedT (t':=tk) Q (λc o d e=>?_) C ⟨by simp[KW],[M,N],.cons bk<|.cons bl .nil,⟨_,aS,rfl,⟨0,rfl⟩,rfl⟩⟩;simp only[z7,Ls,or_false,not_or]at d;exact m.extBut _ _ d.1<|hk _ _ d.1 d.2.2.1 d.2.2.2.1 d.2.2.2.2 e;obtain⟨oc,ec⟩:∃o,s.heap.get? c=a7 o:=by simp only[z7,Ls,or_false]at d;rcases d with rfl|rfl|rfl|rfl|rfl;exact⟨_,u⟩;exact⟨_,g⟩;exact⟨_,J⟩;obtain⟨o,e,_⟩:=h1.obj;exact⟨o,e⟩;obtain⟨o,e,_⟩:=L8.obj ‹L8 t2 s.heap _ D i›;exact⟨o,e⟩
  rw[am<|A4<|E5 (z8 ec) C];exact(Q c d).1
 done:=by
  rintro X hP hw hK d i ap s σ H E I Q ⟨u,g,⟨a,b,J⟩,h1,h2⟩ ⟨xs,ys,n,p,ai⟩;subst hP hw hK;obtain⟨us,ru,iu,bf⟩:=n.is I;obtain⟨vs,rv,iv,bi⟩:=p.is I;have lu:=ru.length;have lv:=rv.length;have f:=Q;have B:=nd;simp only[KN,z7,Ls,or_false,not_or]at B;obtain⟨⟨O,as,G,R⟩,⟨S,V,W⟩,⟨r,t⟩,Y,_⟩:=B;have a1:L≠j:=n.ne I (f j<|by simp);have a2:D≠l:=p.ne I (f l<|by simp);have Z:ZA z TI TO j l [j,L] [l,D]:=⟨nd,by simp[G,A8<|n.ne I<|f z<|by simp],by simp[r,A8<|n.ne I<|f TO<|by simp],by simp[A8 Y,A8<|n.ne I<|f l<|by simp],by simp[R,A8<|p.ne I<|f z<|by simp],by simp[t,A8<|p.ne I<|f TO<|by simp],by simp[Y,A8<|p.ne I<|f j<|by simp]⟩
  have hT:s.TypeIs (.ref z) "zip":=⟨_,u,rfl⟩
  unfold j4;refine t4<|Ms<|LZ (name:=x9 "__next__") hT F.slot_zip_next<|K6 F.slot_zip_next hT F.entry_zip_next ?_<|F.args_zip_next_1<|.ref z;refine BH (k:=i) (jY (show X.A.in1.handled=a8 from I.ok.hd d) t1 j L a1 us.toArray) (jY (show X.A.in1.handled=a8 from I.ok.hd d) t2 l D a2 vs.toArray) Z u g J ⟨h1,iu⟩ ⟨h2,iv⟩ ?_ λh' tk e hk ⟨o,ho,aP⟩=>?_;rw[A5,A5,<-lu,<-lv];exact ai;refine t4<|N8 (T:="StopIteration") (b:=a9) ⟨o,ho,aP⟩ isSubtype_stop<|u5 ⟨rfl,?_⟩;refine I.turnedL (t':=tk) Q λc o d e=>?_;simp only[z7,Ls,or_false,not_or]at d;exact hk _ _ d.1 d.2.2.1 d.2.2.2.1 d.2.2.2.2 e
 self:=λ_ _ _ _ _ st h=>wpAny_pyIter_zip st.1 h
end
noncomputable abbrev Oo(t:Bool)(l:d6):d7:={ cls:=.type<|if t=a9 then "tuple_iterator" else "list_iterator",data:=.fields #[.ref l,.int 0 0] }
def wT(h:LM t s.heap l xs)(q:Q (.ref s.heap.objs.size) { s with heap:=s.heap.push (Oo t l) }):i0 (i4 prog w) A (j6<|.ref l) Q E s:=by
 cases t with
 |true=>exact Pv (show s.heap.IsTuple l xs from h) q
 |false=>exact OQ (show s.heap.IsList l xs from h) q
noncomputable abbrev O1(h:d8)(t1:Bool)(l1:d6):d8:=h.push<|Oo t1 l1
noncomputable abbrev O0(h:d8)(t1 t2:Bool)(l1 l2:d6):d8:=(O1 h t1 l1).push<|Oo t2 l2
noncomputable abbrev OZ(h:d8)(t1 t2:Bool)(l1 l2:d6):d8:=(O0 h t1 t2 l1 l2).push { cls:=.type "tuple",data:=.seq #[.ref h.objs.size,.ref (O1 h t1 l1).objs.size] }
noncomputable abbrev OY(h:d8)(t1 t2:Bool)(l1 l2:d6):d8:=(OZ h t1 t2 l1 l2).push { cls:=.type "tuple",data:=.seq #[.none,.none] }
noncomputable abbrev NO(h:d8)(t1 t2:Bool)(l1 l2:d6):d8:=(OY h t1 t2 l1 l2).push { cls:=.type "zip",data:=.fields #[.none,.bool c5,.bool c5,.ref (O0 h t1 t2 l1 l2).objs.size,.ref (OZ h t1 t2 l1 l2).objs.size] }
def LM.push(x:LM t h l xs)(o:d7):LM t (h.push o) l xs:=by
 cases t with
 |true=>obtain⟨u,e,r⟩:=(show h.IsTuple l xs from x);exact(show (h.push o).IsTuple l xs from⟨u,w5 _ e,r⟩)
 |false=>obtain⟨u,e,r⟩:=(show h.IsList l xs from x);exact(show (h.push o).IsList l xs from⟨u,w5 _ e,r⟩)
def BG(E F:Bool)(b l:d6)(xs ys:Array c6):Meets (Builtin.«zip.__new__» ⟨[.type "zip",.ref b,.ref l],[]⟩) (λ_ R s=>LM E s.heap b xs/\LM F s.heap l ys/\R (.ok<|.ret<|.ref (OY s.heap E F b l).objs.size) { s with heap:=NO s.heap E F b l }):=.of_wp λe w A R s h=>by
  obtain⟨p,g,d,q,o⟩:=s;obtain⟨a,f,h⟩:=h;have c:=sub_zip;have r:LM E (Shared.heap ⟨p,g,d,q,o⟩) b xs:=a;have i:LM F (Shared.heap ⟨p.push<|Oo E b,g,d,q,o⟩) l ys:=f.push _
  wp_walk using wT r,wT i
  exact⟨_,rfl,h⟩
def Bn(h1:LM t1 s.heap l1 xs)(h2:LM t2 s.heap l2 ys)(h:∀h',QI t1 t2 (s.heap.objs.size+4) (s.heap.objs.size+2) (s.heap.objs.size+3) s.heap.objs.size (s.heap.objs.size+1) l1 l2 0 h'->(∀c o,s.heap.get? c=a7 o->h'.get? c=a7 o)->Q (.ref<|s.heap.objs.size+4) { s with heap:=h' }):i0 (i4 prog w) A (call (.type "zip") [.ref l1,.ref l2]) Q E s:=by
 refine callType_new F.called_zip b0 (F.typeCall_zip_2 _ _) (F.newCall_zip_2 _ _) (λb=>F.args_object_init_3 b _ _) F.entry_zip_new (BG t1 t2 l1 l2 xs ys) ⟨h1,h2,?_⟩;have z:(O1 s.heap t1 l1).objs.size=s.heap.objs.size+1:=KG ..;have d:(O0 s.heap t1 t2 l1 l2).objs.size=s.heap.objs.size+2:=by rw[KG,z]
 have f:(OZ s.heap t1 t2 l1 l2).objs.size=s.heap.objs.size+3:=by rw[KG,d]
 have m:(OY s.heap t1 t2 l1 l2).objs.size=s.heap.objs.size+4:=by rw[KG,f]
 have p:∀{h:d8}{c:d6}{o:d7} (u:d7),h.get? c=a7 o->(h.push u).get? c=a7 o:=λu e=>w5 _ e;have j:(NO s.heap t1 t2 l1 l2).get? (OY s.heap t1 t2 l1 l2).objs.size=a7 _:=B6 _ rfl;have i:(NO s.heap t1 t2 l1 l2).get? (OZ s.heap t1 t2 l1 l2).objs.size=a7 _:=p _<|B6 _ rfl;have g3:(NO s.heap t1 t2 l1 l2).get? (O0 s.heap t1 t2 l1 l2).objs.size=a7 _:=p _<|p _<|B6 _ rfl;have g:(NO s.heap t1 t2 l1 l2).get? (O1 s.heap t1 l1).objs.size=a7 _:=p _<|p _<|p _<|B6 _ rfl;have g1:(NO s.heap t1 t2 l1 l2).get? s.heap.objs.size=a7 _:=p _<|p _<|p _<|p _<|B6 _ rfl;have k:∀(t:Bool) (h:d8) (a l:d6),h.get? a=a7 (Oo t l)->L8 t h a l 0:=λt h a l e=>by cases t<;>exact⟨_,e,rfl,rfl⟩
 show _/\_;rw[d,f,m]at j;rw[z,d]at g3;rw[f]at i;rw[z]at g;rw[m];exact⟨⟨_,j,rfl⟩,h _ ⟨j,g3,⟨_,_,i⟩,k _ _ _ _ g1,k _ _ _ _ g⟩ λc o q=>p _<|p _<|p _<|p _<|p _ q⟩
noncomputable def zipD(xs ys:List D):List D:=(xs.zip ys).map λp=>.tup [p.1,p.2]
def Bz(M:t7)(x:D)(xs:List D)(ok:t7->Prop):Prop:=match x with
 |.tup ds=>xs=ds/\ok=λ_=>True
 |.ref n=>ah M n xs/\ok=λM=>ah M n xs
 |_=>False
def dZip(t:I9):Lz:=λS M R=>t S M λds a=>match ds with
 | [x,y]=>∃xs ys o1 o2,Bz a x xs o1/\Bz a y ys o2/\R ⟨zipD xs ys,λM=>o1 M/\o2 M⟩ a
 |_=>False
def DC:f7 "zip" = a7 (.type "zip"):=by decide +kernel
def Bz.sq{X:Cx}(m:v4 X.K ρ M H)(h:Bz M x xs ok)(r:u7 X.K ρ H x v)(e:aR v u):∃(t:Bool) (l:d6),u=.ref l/\ok M/\∀ρ' M' H',v4 X.K ρ' M' H'->Grow X.K ρ H ρ' H'->ok M'->∃vs,Sq t X.K H' l vs/\Reps X.K ρ' H' xs vs:=by
 unfold Bz at h;split at h;obtain⟨rfl,rfl⟩:=h;obtain⟨a,vs,rfl,q,r⟩:=u7.inv_tup r;cases e;exact⟨a9,a,rfl,trivial,λρ' M' H' s g _=>⟨vs,g.tup a vs q,r.grow g⟩⟩;obtain⟨h,rfl⟩:=h;cases r with
 |@ref n a f=>cases e;exact⟨c5,a,rfl,h,λρ' M' H' s g ok=>ah.seq s ok<|aW g.pre f⟩
 exact h.elim
def KA.zip{ρ:List d6}{H:Hp}{xs ys:List D}{o1 o2:t7->Prop}{E F:Bool}{f j:d6}{K:u6}(h1:∀ρ' M' H',v4 K ρ' M' H'->Grow K ρ H ρ' H'->o1 M'->∃vs,Sq E K H' f vs/\Reps K ρ' H' xs vs) (h2:∀ρ' M' H',v4 K ρ' M' H'->Grow K ρ H ρ' H'->o2 M'->∃vs,Sq F K H' j vs/\Reps K ρ' H' ys vs):KA K ⟨zipD xs ys,λM=>o1 M/\o2 M⟩ ρ H (QK K E F f j) where
 go:=λi ρ' M' H' m g ok hi=>by
  obtain⟨vs,q,r⟩:=h1 ρ' M' H' m g ok.1;obtain⟨s,c,l⟩:=h2 ρ' M' H' m g ok.2;have v:i<xs.length/\i<ys.length:=by simpa [zipD,Nat.lt_min]using hi
  have t:=r.length;have k:=l.length;exact⟨vs,s,_,_,q,c,A1 b7,A1<|by lia⟩
 yld:=λi ρ' M' H' x A m g ok hi y=>by obtain⟨vs,q,r⟩:=h1 ρ' M' H' m g ok.1;obtain⟨s,c,l⟩:=h2 ρ' M' H' m g ok.2;obtain⟨T,a,b,rfl,h,rfl,n,o⟩:=y;obtain⟨d,p,w⟩:=r.getV<|n vs q;obtain⟨e,u,z⟩:=l.getV<|o s c;refine⟨.tup [d,e],ρ',?_,m.laid h,Grow.laid h,.tup (D0.of aI)<|.cons (w.grow<|Grow.laid h)<|.cons (z.grow<|Grow.laid h) .nil⟩;show (zipD xs ys)[i]?=_;have:(xs.zip ys)[i]?=a7 (d,e):=List.getElem?_zip_eq_some.mpr ⟨p,u⟩;rw[zipD,F5,this];rfl
 stop:=λρ' M' H' m g ok=>by obtain⟨vs,q,r⟩:=h1 ρ' M' H' m g ok.1;obtain⟨s,c,l⟩:=h2 ρ' M' H' m g ok.2;have t:=r.length;have k:=l.length;refine⟨vs,s,q,c,?_⟩;show (zipD xs ys).length=_\/_;rw[zipD,v5,List.length_zip];lia
def JT(E:X.mg "zip" = a8)(C:DA X [a,b] ta)(D:Gl X "zip":=by rfl)(hs:i7 [a,b] X.env=[(c5,eval a X.env),(c5,eval b X.env)]:=by rfl)(i:i7 [b] X.env=[(c5,eval b X.env)]:=by rfl):DI X (.Tuple elts x1 q) (.Call (.Name "zip" p) [a,b] [] pos) (dZip ta):=by
 intro l s σ H R I h;obtain⟨S,M,ρ,Q,W,Y,F,k⟩:=h;refine Call_ (iB I D E DC<|Ol (v6 (C pos l s σ H _ I ⟨S,M,ρ,_,W,Y,F,λv H' w=>w⟩) ?_) (by rw[hs,i])<|by rw[i];rfl);rintro us e ⟨vs,H1,g,r,ds,n,f,j,g1,d,m⟩
 try dsimp only at m
 split at m;obtain⟨xs,ys,o1,o2,Z,w2,T⟩:=m
 first|have z:=Reps.inv_cons d|have z:=az.inv_cons d
 clear d;obtain⟨_,_,rfl,A,d⟩:=z
 first|have z:=Reps.inv_cons d|have z:=az.inv_cons d
 clear d;obtain⟨_,_,rfl,B,d⟩:=z;cases d
 first|have z:=Reps.inv_cons r|have z:=az.inv_cons r
 clear r;obtain⟨_,_,rfl,x,r⟩:=z
 first|have z:=Reps.inv_cons r|have z:=az.inv_cons r
 clear r;obtain⟨_,_,rfl,y,r⟩:=z;cases r;obtain⟨t1,l1,rfl,K,o⟩:=Z.sq j A x;obtain⟨t2,l2,rfl,L,t⟩:=w2.sq j B y;obtain⟨as,U,_⟩:=o f n H1 j .refl K;obtain⟨bs,V,_⟩:=t f n H1 j .refl L;obtain⟨is,_,G,_⟩:=U.is g;obtain⟨js,_,J,_⟩:=V.is g;refine Bn G J λh' st N=>?_;refine wpAny_pyIter_zip st.1 ?_;have P:[e.heap.objs.size+4,e.heap.objs.size+2,e.heap.objs.size+3,e.heap.objs.size,e.heap.objs.size+1].Nodup:=by simp
 refine⟨e.heap.objs.size+4,_,_,_,H1,rfl,g.kept (t':=e.toks) N,BT P,st,λc u=>?_,k _ H1 ⟨_,n,f,j,g1,KA.zip o t,T⟩⟩;have O:e.heap.objs.size<=c:=by simp only[z7,Ls,or_false]at u;rcases u with rfl|rfl|rfl|rfl|rfl<;>first|exact Oa _ _|exact v7 _
 exact g.fpOk O<|g.hok.fresh O;exact m.elim
def qRev:D->t7->DK->Prop:=λx M Q=>match x with
 |.ref n=>∃xs,ah M n xs/\Q (.ref M.length) (M++[.lst xs.reverse])
 |.tup xs=>Q (.tup xs.reverse) M
 |_=>False
def Hf(te:A3)(ts:Mo):A3:=λS M Q=>te S M λx a=>ts S a λl b=>l=a7 (-1)/\qRev x b Q
def Reps.reverse{K:u6}{ρ:List d6}{H:Hp}:∀{ds:List D}{vs:List V},Reps K ρ H ds vs->Reps K ρ H ds.reverse vs.reverse
 |_,_,.nil=>.nil
 |_,_,.cons h r=>by simp only[List.reverse_cons];exact r.reverse.append<|.cons h .nil
theorem EG(D:IsTup s.heap t items)(hs:s.heap.IsSliceOf sl .none .none vk)(C:l9 vk (a7 (-1)))(h:Q (.ref s.heap.objs.size) { s with heap:=s.heap.push { cls:=.type "tuple",data:=.seq items.toList.reverse.toArray } }) (hz:items.size<=sizeLine):i0 (i4 prog w) A (m5 (.ref t)<|.ref sl) Q E s:=by
 obtain⟨B,c,o,d⟩:=id hs;have n:s.TypeIs (.ref sl) "slice":=⟨B,c,o⟩
 unfold m5
 try with_reducible refine J6 ?_
 first|refine t4 (u5 ?_)|skip
 refine t4<|wpAny_sequenceKey D.typeIs b0<|t4<|LZ (name:=x9 "__getitem__") D.typeIs MV<|K6 MV D.typeIs entry_tuple_getitem ?_<|args_tuple_getitem _ _;refine(show i0 (i4 prog w) _ (PN (.ref t) >>= _) _ _ s from t4<|tupleItemsOf_ D<|t4<|Nb n ?_);rw[o8<|by decide];have r:∀{Q:Int×Int×Nat->f9->Prop}{A:f8}{E:c6->f9->Prop},Q ((items.size:Int)-1,-1,items.size) s->i0 (i4 prog w) A (PQ (.ref sl)<|pure (items.size:Int)) Q E s:=λ{Q A E} h=>by
  unfold PQ QP;refine t4<|t4<|F6 c d (x:=.none) rfl<|t4<|F6 c d (x:=.none) rfl<|t4<|F6 c d (x:=vk) rfl<|u5 ?_;refine t4<|_root_.HT.slicePart_ C ?_;show i0 _ _ (if ((-1:Int)==0)=a9 then _ else _) _ _ s;rw[p0<|by decide];refine t4<|_root_.HT.slicePart_ .none<|t4<|_root_.HT.slicePart_ .none<|t4<|u5 ?_;show i0 _ _ (pure ((items.size:Int)-1,(-1:Int),NN ((items.size:Int)-1) (-1) (-1))) _ _ s;have e:NN ((items.size:Int)-1) (-1) (-1)=items.size:=by unfold NN;rw[p0<|by decide];split;rw[show (-(-1):Int)=1 by decide,Int.ediv_one];lia;lia
  rw[e];exact u5 h
 refine t4<|r ?_;have p:¬(((items.size:Int)-1==0&&(-1:Int)==1&&items.size==items.size)=a9):=by intro q;rw[A2,A2]at q;exact p5 q.1.2<|by decide
 show i0 _ _ (if ((items.size:Int)-1==0&&(-1:Int)==1&&items.size==items.size)=a9 then _ else _) _ _ s;rw[p0 p];have y:((B7 items.size).filterMap λ(k:Nat)=>items[((items.size:Int)-1+(k:Int) * -1).toNat]?)=items.toList.reverse:=by
  have u:∀k∈B7 items.size,items[((items.size:Int)-1+(k:Int) * -1).toNat]?=a7 (items.toList.reverse.getD k .none):=λk j=>by have j:=G1.mp j;rw[show ((items.size:Int)-1+(k:Int) * -1).toNat=items.size-1-k by lia];rw[G8,List.getElem?_reverse (by rw[G7];exact j),G7,K2,Lm<|by lia];rfl
  have v:∀(l:List Nat) (f:Nat->Option c6) (g:Nat->c6),(∀k∈l,f k=a7 (g k))->l.filterMap f=l.map g:=λl f g h=>by
   induction l with
   |nil=>rfl
   |cons a l z=>rw[MA,h a A9,B9,z λk j=>h k<|C4 _ j]
  rw[v _ _ _ u];apply List.ext_getElem;simp;intro i h1 h2;simp at h1;simp[G8,h1]
 rw[y];have b:items.toList.reverse.toArray.size<=sizeLine:=by simpa using hz
 first
  |exact t4 (m:=NL _) (KJ (u5 ⟨_,rfl,u5 h⟩) b)
  |exact t4 (m:=NL _) (KJ (t4 (u5 (u5 ⟨_,rfl,u5 h⟩))) b)
  |exact t4 (t4 (m:=NL _) (KJ (u5 (u5 ⟨_,rfl,u5 h⟩)) b))
def d_rev{st:i3}{ts:Mo}(P:DE X e te)(hs:PO X (a7 st) (Hd X.K ts)):DE X (.Subscript e (.Slice a8 a8 (a7 st) p2) pos) (Hf te ts):=by
 rintro p s σ H R I ⟨S,M,ρ,Q,Y,G,q,k⟩;refine Subscript_<|v6 (P p s σ H _ I ⟨S,M,ρ,_,Y,G,q,λv H' w=>w⟩) ?_;rintro v W ⟨x,H1,J,E,d,N,u,t,g1,F,V⟩;refine wpAny_Slice ?_;rw[evalPart_none];refine u5<|u5<|v6 (hs p W σ H1 _ J ⟨S,N,u,_,t,G.grow g1,V,λl y w=>w⟩) ?_;rintro Z n ⟨l,y,L,C,M2,ab,c,m,g⟩;obtain⟨rfl,g⟩:=g;have f:t5 X p σ y { n with heap:=n.heap.push { cls:=.type "slice",data:=.fields #[.none,.none,Z] } }:=L.kept (t':=n.toks) λb A q=>w5 _ q;unfold qRev at g;split at g;obtain⟨xs,O,g⟩:=g;obtain⟨_,rfl,T⟩:=u7.inv_ref F;cases E;obtain⟨vs,U,r⟩:=ah.seq c O<|aW m.pre T;obtain⟨its,j,B,z⟩:=f.list U;have i:=j.length;refine tail_any (ops:=[.ref _,.ref n.heap.objs.size]) B.isList.typeIs slot_list_getitem.lookup ?_ (by with_unfolding_all rfl);refine wpAny_getItem_list_slice B.isList (Qg ..) .none .none C b0 ?_ (by rw[A5];lia);rw[krv_pick];refine⟨.ref _,_,f.laid (t':=n.toks) (o:=.lst vs.reverse) (λb A q=>w5 _ q) (v7 _) ⟨by rw[List.length_reverse];exact z,its.reverse,0,j.reverse,B6 _ rfl⟩,rfl,k _ _<|VQ.trans (g1.trans m)<|VQ.laidL c .refl r.reverse (f.hok.fresh<|v7 _) g⟩;obtain⟨_,_,rfl,h,r⟩:=u7.inv_tup F;cases E;have h2:=(u7.tup h r).grow m;cases h2 with
 |@tup a vs _ h r=>obtain⟨its,j,D,z⟩:=f.tuple h;have i:=j.length;refine tail_any (ops:=[.ref _,.ref n.heap.objs.size]) D.typeIs MV.lookup ?_ (by with_unfolding_all rfl);refine EG D (Qg ..) C ?_ (by rw[A5];lia);exact⟨.ref _,_,f.laid (t':=n.toks) (o:=.tup vs.reverse) (λb A q=>w5 _ q) (v7 _) ⟨by rw[List.length_reverse];exact z,its.reverse,j.reverse,DM.new _ _⟩,rfl,k _ _<|VQ.trans (g1.trans m)<|VQ.laidT c .refl r.reverse (f.hok.fresh<|v7 _) g⟩
 exact g.elim
def sW{K:u6}{ρ:List d6}{H:Hp}:∀xs:List c8,Reps K ρ H (xs.map D.str) (xs.map V.str)
 | []=>.nil
 |x::xs=>.cons (.str x)<|sW xs
def vm{D:d6}{vs:List c6}{n:Nat}{Q:c6->f9->Prop}(B:s.heap.get? D=a7 (n4 "list" vs.toArray n))(h2:vs.length<2)(h:∀h' c,(∀b o,b≠D->s.heap.get? b=a7 o->h'.get? b=a7 o)->h'.get? D=a7 (n4 "list" vs.toArray c)->Q .none { s with heap:=h' }):i0 (i4 prog w) A (call (.builtin "list.sort") [.ref D]) Q E s:=by
 have f:vs.length<=sizeLine:=by rw[KW];lia
 refine K6 slot_list_sort (⟨_,B,rfl⟩) Ph ?_<|args_list_sort<|.ref D;rw[list_sort_plain];refine t4<|NA B rfl<|t4<|MJ B rfl ?_ (by rw[A5];exact f)<|B0 _;obtain⟨k,e⟩:∃k,(s.heap.update D<|F9 λ_=>(#[]:Array c6)).get? D=a7 (n4 "list" #[] k):=⟨_,MN B λ_=>#[]⟩
 refine t4<|Nz e rfl<|t4<|OI (t4<|MK (J6 ?_)<|B0 _) f;dsimp only;have g:vs.toArray.size<2:=by rw[A5];exact h2
 rw[o8 g,o8 g];refine t4<|u5 ?_;rw[Pg];refine t4<|u5 ?_;dsimp only;generalize d:((s.heap.update D<|F9 λ_=>(#[]:Array c6)).push<|n4 "tuple" vs.toArray 0).push (n4 "list" #[] 0)=g3;have a:g3.get? D=a7 (n4 "list" #[] k):=by rw[<-d];exact w5 _<|w5 _ e
 have m:∀b o,b≠D->s.heap.get? b=a7 o->g3.get? b=a7 o:=λb o i q=>by rw[<-d];refine w5 _<|w5 _ ?_;rw[My _ _ _ _ i];exact q
 refine t4<|Nz a rfl ?_;have r:∀us:List c6,us.length<2->(us.toArray.zip us.toArray).map (·.2)=us.toArray:=λus hu=>by
  match us,hu with
  | [],_=>simp
  | [v],_=>simp
  |_::_::_,hu=>simp at hu;lia
 have t:(arrOf<|NW general' (vs.toArray.zip vs.toArray) #[] 7 a8).map (·.2)=vs.toArray:=r vs h2;rw[t];refine t4 (MJ a rfl ?_ (B0 _)<|by rw[A5];exact Nat.le_succ_of_le f);simp only[show failedOf (NW general' (vs.toArray.zip vs.toArray) #[] 7 a8)=a8 from rfl,bne_self_eq_false,C8,p8];obtain⟨j,l⟩:∃j,(g3.update D<|F9 λ_=>vs.toArray).get? D=a7 (n4 "list" vs.toArray j):=⟨_,MN a λ_=>vs.toArray⟩
 refine u5 ⟨_,rfl,h _ j (λb o i q=>?_) l⟩;rw[My _ _ _ _ i];exact m b o i q
def zt{k:Nat}{D:d6}{xs:List L2.D}{P:List V}{its:List c6}{R:VK}{h1:d8}{tk n:Nat}{m:c8->Option c6}{A:f8}{E:c6->f9->Prop}(hr:Room k X.A)(hA:A.units<=X.A.units+4)(I:t5 X pins σ H s)(sm:v4 X.K ρ M H)(so:SrtG M xs)(r:Reps X.K ρ H xs P)(O:az P its)(T:s.heap.Ns X.env.locals m) (N:h1.Ns X.env.locals m) (l:∀b u,b≠X.env.locals->s.heap.get? b=a7 u->h1.get? b=a7 u) (J:s.heap.get? D=a8) (F:D≠X.env.locals) (ho:h1.get? D=a7 (n4 "list" its.toArray n))(kk:∀v H',((∀Q:DK,(∀ys,ys.Perm xs->rJ M ys->Q (.ref M.length) (M++[.lst ys]))->VQ X.K ρ H Q v H'))->R v H'):i0 (i4 X.prog X.w) A (call (.builtin "list.sort") [.ref D]) (λ_ s'=>EP X pins σ R (.ref D) s') E { s with heap:=h1,toks:=tk }:=by
 have lw:=r.length;have li:=O.length;have ab:=so.len;have L:H D=a8:=C6.none I.hok J;have y:∀b u,s.heap.get? b=a7 u->b≠D:=λb u e q=>by subst q;rw[J]at e;cases e
 by_cases h2:its.length<2;refine vm ho h2 λh' c G Y=>?_;have W:h'.Ns X.env.locals m:=by obtain⟨o,es,ep,e,aO⟩:=N;exact⟨o,es,ep,G _ _ (A8 F) e,aO⟩
 refine⟨.ref D,_,I.laidF (t':=tk) (o:=.lst P) (λb u g e=>G b u (y b u e)<|l b u g e) T W J L ⟨by rw[KW];lia,its,c,O,Y⟩,rfl,kk _ _ λQ S=>VQ.laidL sm .refl r L<|S xs (Ni _) ?_⟩;unfold rJ
 match xs,(show xs.length<2 by lia) with
 | [],_=>exact Od
 | [x],_=>exact OX _ _
 |_::_::_,hx=>simp at hx;lia
 have z:2<=its.length:=by lia
 have d:∀a o,(a,o)∈Att.ledger h1 X.env.locals D↔a≠X.env.locals/\a≠D/\h1.get? a=a7 o:=λa o=>Att.mem_ledger;have U:UpdF D (n4 "list" its.toArray n) ([]++(D,n4 "list" its.toArray n)::Att.ledger h1 X.env.locals D) λo'=>(D,o')::Att.ledger h1 X.env.locals D:=Ny λp hp=>((d p.1 p.2).mp hp).2.1;refine kat_lsort (s:={ s with heap:=h1,toks:=tk }) (vs:=its) (Att.fr_all N) (Att.news_ledger F ho) U rfl z b7 λe1 h' F' N'=>?_;have kp:∀b u,b≠X.env.locals->s.heap.get? b=a7 u->h'.get? b=a7 u:=λb u g e=>(N' (b,u)<|C4 _<|(d b u).mpr ⟨g,y b u e,l b u g e⟩).1;have I':t5 X pins σ H { s with heap:=h',toks:=tk }:=I.keptF (t':=tk) kp T F'.ns;have hu:A.in1.units+v3<k7:=by have:=hr.un;have:v3=30:=rfl;show A.units+1+v3<k7;lia
 refine D3 (jN I' sm so r O z hu) (λκ s' hk=>?_) λ_ _ x=>x;obtain⟨rfl,B⟩:=hk;refine Srt.wp_run (n:=its.length) (c:=λi j=>if i<xs.length then(if j<xs.length then C9 M v3 (xs.getD i default) (xs.getD j default)else a9)else c5) (λi j C hi hj hc=>?_) _ (Srt.sort_bd<|by lia).1 ?_;refine B i j C hi hj ?_;rw[o8 b7,o8<|by lia]at hc;exact hc;have t:=Srt.All.run (c:=λi j=>if i<xs.length then(if j<xs.length then C9 M v3 (xs.getD i default) (xs.getD j default)else a9)else c5) _ (Srt.sort_bd (n:=its.length)<|by lia).2;obtain⟨o1,o2,o3⟩:=Cu so;have f:=Srt.sort_list xs b7 o1 o2 o3
 try dsimp only at f
 rw[show xs.length=its.length by lia]at f t ⊢;generalize Srt.run _ (LP its.length)=p at t f ⊢;have hi:∀i∈p.toList,i<xs.length:=λi h=>by have:=t.mem_iff.mp h;rw[G1]at this;lia
 refine KasFin.intro F' N' (Ny λq hq=>((d q.1 q.2).mp hq).2.1) λh2 c F2 N2=>?_;have r':=r.perm p.toList hi;have Z:=O.perm p.toList (λi h=>by have:=hi i h;lia);refine⟨.ref D,_,I.laidF (t':=tk) (o:=.lst<|p.toList.map λi=>P.getD i .non) (λb u g e=>(N2 (b,u)<|C4 _<|(d b u).mpr ⟨g,y b u e,l b u g e⟩).1) T F2.ns J L ⟨?_,_,c,Z,(N2 _ A9).1⟩,rfl,kk _ _ λQ S=>VQ.laidL sm .refl r' L<|S _ f.1 f.2⟩;rw[v5];have:=f.1.length_eq;rw[v5]at this;rw[KW];lia
section
variable{K:u6}{ρ:List d6}{H:Hp}{M:t7}
def v4.writeD(S:v4 K ρ M H)(t:ρ[n]?=a7 a)(b:M[n]?=a7 (.dct kvs))(h:H a=a7 (.dK kv))(r:Reps K ρ H (kvs'.map (·.2)) vs'):v4 K ρ (M.set n<|.dct kvs') (v8 H a (.dK (oM (kvs'.map (·.1)) vs')))/\Grow K ρ H ρ (v8 H a (.dK (oM (kvs'.map (·.1)) vs'))):=S.writeG t (λ⟨_,z⟩=>by rw[b]at z;cases z) h rfl λg=>⟨vs',aI,r.grow g⟩
noncomputable def rH(kvs:List (c8×D))(k:c8):Option D:=(kvs.find? λp=>decide<|p.1=k).map (·.2)
noncomputable def xH(kvs:List (c8×D))(k:c8)(d:D):List (c8×D):=if (kvs.any λp=>decide<|p.1=k)=a9 then kvs.map (λp=>if p.1=k then(p.1,d)else p)else kvs++[(k,d)]
def Gj(a b:c8):decide ((AC6 a:E1)=AC6 b)=decide (a=b):=Em a b
def vW:∀{kvs:List (c8×D)}{vs:List V},Reps K ρ H (kvs.map (·.2)) vs->rH kvs k=a7 d->∃v,xB (oM (kvs.map (·.1)) vs) (AC6 k)=a7 v/\u7 K ρ H d v
 | [],_,_,e=>by simp[rH]at e
 |(k',d')::kvs,_,.cons h t,e=>by
  by_cases q:k'=k;subst q;have:d'=d:=by simpa [rH]using e
  subst this;exact⟨_,by simp[oM,xB],h⟩;have e':rH kvs k=a7 d:=by simpa [rH,Nj,q]using e
  obtain⟨v,h1,h2⟩:=vW t e';refine⟨v,?_,h2⟩;have:¬(AC6 k':E1)=AC6 k:=λz=>q<|Sum.inr.inj z;simpa [oM,xB,Nj,this]using h1
def xm:∀{kvs:List (c8×D)}{vs:List V},Reps K ρ H (kvs.map (·.2)) vs->((oM (kvs.map (·.1)) vs).any λkv=>decide<|kv.1=AC6 k)=kvs.any λp=>decide (p.1=k)
 | [],_,_=>rfl
 |(k',d')::kvs,_,.cons h t=>by
  have ih:=xm (k:=k) t;show (decide ((AC6 k':E1)=AC6 k)||(oM (kvs.map (·.1)) _).any _)=(decide (k'=k)||kvs.any _)
  rw[ih,Gj]
def wK(hd:u7 K ρ H d v):∀{kvs:List (c8×D)}{vs:List V},Reps K ρ H (kvs.map (·.2)) vs->∃vs',(oM (kvs.map (·.1)) vs).map (λkv=>if kv.1=AC6 k then(kv.1,v)else kv)=oM ((kvs.map λp=>if p.1=k then(p.1,d)else p).map (·.1)) vs'/\Reps K ρ H ((kvs.map λp=>if p.1=k then(p.1,d)else p).map (·.2)) vs'
 | [],_,.nil=>⟨[],rfl,.nil⟩
 |(k',d')::kvs,_,.cons (v:=v') h t=>by obtain⟨vs',e,r⟩:=wK (k:=k) hd t;by_cases q:k'=k;subst q;refine⟨v::vs',?_,?_⟩;simp only[B9,p9,oM,NI]at e ⊢;rw[e];simp only[B9,p9];exact .cons hd r;have q':¬(AC6 k':E1)=AC6 k:=λz=>q<|Sum.inr.inj z;refine⟨v'::vs',?_,?_⟩;simp only[B9,p0 q,p0 q',oM,NI]at e ⊢;rw[e];simp only[B9,p0 q];exact .cons h r
def sS:∀{kvs:List (c8×D)}{vs:List V},Reps K ρ H (kvs.map (·.2)) vs->oM (kvs.map (·.1)) vs++[(AC6 k,v)]=oM (kvs.map (·.1)++[k]) (vs++[v])
 | [],_,.nil=>rfl
 |(k',d')::kvs,_,.cons h t=>by have:=sS (k:=k) (v:=v) t;simp only[B9,oM,NI,LH]at this ⊢;rw[this]
def EW(h:u7 K ρ H d v)(r:Reps K ρ H (kvs.map (·.2)) vs):∃vs',yC (oM (kvs.map (·.1)) vs) (AC6 k) v=oM ((xH kvs k d).map (·.1)) vs'/\Reps K ρ H ((xH kvs k d).map (·.2)) vs':=by unfold yC xH;rw[xm r];by_cases q:(kvs.any λp=>decide<|p.1=k)=a9;rw[o8 q,o8 q];exact wK h r;rw[p0 q,p0 q];refine⟨vs++[v],?_,?_⟩;rw[sS r,Mv];rfl;rw[Mv];exact r.append<|.cons h .nil
end
section
variable{X:Cx}{o i value:i3}{td ty tv:A3}{pos pos':i5}
def Bg:A3:=λ_ M Q=>Q (.ref M.length)<|M++[.dct []]
def Ka:DE X (.Dict [] [] pos) Bg:=by refine PE.imp Cs ?_;rintro σ H R ⟨S,M,ρ,Q,s,c,q,k⟩;refine λp h=>?_;have j:Q (.ref M.length) (M++[.dct []]):=q;exact k _ _ ⟨.ref M.length,M++[.dct []],ρ++[p],s.laidM (mo:=.dct []) h ⟨[],aI,.nil⟩,Grow.laidR h,.ref s.last,j⟩
def Bi(t c:A3):A3:=λS M Q=>t S M λx a=>c S a λy b=>match x,y with
 |.ref n,.str k=>∃s d,b[n]?=a7 (.dct s)/\rH s k=a7 d/\Q d b
 |_,_=>False
def Kb(x:X.A.units+1<k7)(B:DE X o td)(hi:DE X i ty)(hs:NoSl i):DE X (.Subscript o i pos) (Bi td ty):=by
 refine PE.imp (Fi x B hi hs) ?_;rintro σ H R ⟨S,M,ρ,Q,s,r,q,k⟩;refine⟨S,M,ρ,_,s,r,q,?_⟩;rintro v H1 ⟨d,f,c,I,g1,E,C⟩;refine⟨S,f,c,_,I,r.grow g1,C,?_⟩;rintro u J ⟨e,h,a,n,j,F,g⟩
 try dsimp only at g
 split at g;obtain⟨z,d,m,y,D⟩:=g;obtain⟨_,rfl,p⟩:=u7.inv_ref E;cases F;obtain⟨vs,l,G⟩:=n.obj _ _ _ (aW j.pre p) m;obtain⟨w,t,b⟩:=vW G y;exact⟨_,w,rfl,.inl ⟨_,AC6 _,.inl l,rfl,t.symm⟩,k _ _ ⟨d,h,a,n,g1.trans j,b,D⟩⟩;exact g.elim
def Bh(d t e:A3):t9:=λE S M=>e S M λv b=>d S b λx c=>t S c λy a=>match x,y with
 |.ref n,.str k=>∃s,a[n]?=a7 (.dct s)/\s.length<sizeLine/\E.nx S (a.set n<|.dct<|xH s k v)
 |_,_=>False
def GD(C:X.A.units+1<k7)(B:DE X o td)(hi:DE X i ty)(D:DE X value tv)(hs:j0 value (a7<|.Subscript o i pos') pos.line X.env=pure c5):DS X (.Assign [.Subscript o i pos'] value pos) (Bh td ty tv):=by
 refine PS.imp (Fd C B hi D hs) ?_;rintro E σ H ⟨S,M,ρ,F,s,c,q,k⟩;refine⟨S,M,ρ,_,s,c,q,?_⟩;rintro v H1 ⟨d,p,b,Q,g1,L,I⟩;refine⟨S,p,b,_,Q,c.grow g1,I,?_⟩;rintro x V ⟨e,u,g,R,j,N,J⟩;refine⟨S,u,g,_,R,(c.grow g1).grow j,J,?_⟩;rintro y W ⟨f,Y,h,w,g3,P,a⟩
 try dsimp only at a
 split at a;obtain⟨G,m,Z,K⟩:=a;obtain⟨_,rfl,n⟩:=u7.inv_ref N;cases P;obtain⟨vs,l,r⟩:=w.obj _ _ _ (aW g3.pre n) m;obtain⟨T,z,O⟩:=EW ((L.grow j).grow g3) r;obtain⟨U,t⟩:=w.writeD (aW g3.pre n) m l O;refine⟨_,_,rfl,.inl ⟨_,AC6 _,l,rfl,?_,by rw[z]⟩,k.nx σ _<|SQ.trans ((g1.trans j).trans g3) ⟨S,_,h,U,t,(((c.grow g1).grow j).grow g3).grow t,K⟩⟩;have:=r.length;rw[v5]at this;rw[oM,v5,List.length_zip,v5];lia;exact a.elim
def bN:J3:=λds M Q=>match ds with
 | [.ref n]=>∃xs,(ah M n xs\/∃s,M[n]?=a7 (.dct s)/\xs=s.map λp=>.str p.1)/\SrtOk M xs/\∀ys,ys.Perm xs->rJ M ys->Q (.ref M.length) (M++[.lst ys])
 |_=>False
def At:∀{kvs:List (c8×D)}{vs:List V}{us:List (E1×c6)},kvs.length=vs.length->KV (oM (kvs.map (·.1)) vs) us->us.map (·.1)=kvs.map (λp=>(AC6 p.1:E1))
 | [],_,_,_,h=>by cases h;rfl
 |_::_,[],_,e,_=>by simp at e
 |p::kvs,v::vs,_,e,h=>by
  have h':KV ((AC6 p.1,v)::oM (kvs.map (·.1)) vs) _:=h;cases h' with
  |cons a t=>rw[B9,B9,<-a.1,At (by simpa using e) t]
def rR:∀(ks:List c8) (vs:List c6),vs.length=ks.length->(∀(j:Nat) (v:c6),vs[j]?=a7 v->∃k,ks[j]?=a7 k/\vD (AC6 k) v=a9)->az (ks.map V.str) vs
 | [],[],_,_=>.nil
 | [],_::_,e,_=>by simp at e
 |_::_,[],e,_=>by simp at e
 |k::ks,v::vs,e,h=>by
  obtain⟨k',e1,e2⟩:=h 0 v rfl;have:k=k':=by simpa using e1
  subst this;rcases bo e2 with⟨i,t,z,_⟩|⟨x,t,z,rfl⟩
  cases z;cases z;exact .cons ⟨t,rfl⟩<|rR ks vs (by simpa using e) λj u hj=>by simpa using h (j+1) u (by simpa using hj)
theorem yp{k:Nat}(Z:Room k X.A)(hc:X.calm=a9):ou X (.builtin "sorted") bN:=by
 rintro F s σ H vs us R I rv ⟨ds,M,ρ,Q,T,f,q,kk⟩;unfold bN at q;split at q;obtain⟨xs,hL|⟨kvs,hM,rfl⟩,U,q⟩:=q;exact Bl Z F s σ H vs us R I rv ⟨_,M,ρ,Q,T,f,⟨xs,hL,U.g,q⟩,kk⟩
 first|have y:=Reps.inv_cons f|have y:=az.inv_cons f
 clear f;obtain⟨_,_,rfl,r1,f⟩:=y;cases f;obtain⟨u,rfl,G⟩:=az.one rv;obtain⟨a,rfl,e⟩:=u7.inv_ref r1;cases G;obtain⟨ws,W,r⟩:=T.obj _ _ _ e hM;obtain⟨z1,z2,d,L,dd⟩:=(show cB X.prog X.w H s.heap a (.dK _)from I.hok a _ W)
 obtain⟨ep,t⟩:=dd.dictAt;obtain⟨m,Y,hm⟩:=I.loc;have l:a≠X.env.locals:=ad W I.free;obtain⟨oa,_,c,_⟩:=id t;have lk:kvs.length=ws.length:=by have:=r.length;rwa [v5]at this
 have C:=At lk L;have lp:d.length=kvs.length:=by have:=q9 Lq C;simpa using this
 have E:∀b o,(b,o)∈[]++(a,oa)::Att.ledger s.heap X.env.locals a↔b≠X.env.locals/\s.heap.get? b=a7 o:=λb o=>by rw[E9,z7,Att.mem_ledger];constructor;rintro(h|⟨h1,_,h3⟩);cases h;exact⟨l,c⟩;exact⟨h1,h3⟩;rintro⟨h1,h2⟩;by_cases z:b=a;subst z;rw[c]at h2;cases h2;exact .inl rfl;exact .inr ⟨h1,z,h2⟩
 refine kdu_sorted (kdl_dict (knd:=cx X.prog X.w) (kvs:=d) (ep:=ep) z2) (I.ok.hd hc) (Att.fr_all Y) (Att.news_ledger l c) t (by rw[lp,KW];have:=U.len;rw[v5]at this;lia) λD h' tk vs F' N lt hl hP=>?_;have kp:∀b u,b≠X.env.locals->s.heap.get? b=a7 u->h'.get? b=a7 u:=λb u hb e=>(N (b,u)<|C4 _<|(E b u).mpr ⟨hb,e⟩).1;have O:D≠X.env.locals:=(N _ A9).2.1;have hD:s.heap.get? D=a8:=by
  cases q:s.heap.get? D with
  |none=>rfl
  |some o=>exact p5 (lt (D,o)<|(E D o).mpr ⟨O,q⟩)<|E8 _
 have S:az ((kvs.map (·.1)).map V.str) vs:=by
  refine rR _ _ el λj v hj=>?_;obtain⟨B,x,G,e2⟩:=hP j v hj;have i:(d.map (·.1))[j]?=a7 B:=by rw[F5,G];rfl
  rw[C,F5]at i;cases J:kvs[j]? with
  |none=>rw[J]at i;cases i
  |some p=>rw[J]at i;have:B=AC6 p.1:=(C1 i).symm;subst this;exact⟨p.1,by rw[F5,J];rfl,e2⟩
 have P:Reps X.K ρ H (kvs.map λp=>L2.D.str p.1) ((kvs.map (·.1)).map V.str):=by have:=sW (K:=X.K) (ρ:=ρ) (H:=H) (kvs.map (·.1));rw[B8]at this;exact this
 exact zt (n:=0) Z (by show X.A.units+1<=X.A.units+4;lia) I T U.g P S Y F'.ns kp hD O (N _ A9).1 λv H' x=>kk v H'<|x Q q;exact q.elim
end
structure O7(X:Cx)(es:List i3)(t:Hb):Prop where
 ok:OB X es t
def FZ:O7 X [] gJ:=⟨GJ⟩
def CZ(h1:HG X e g)(h2:O7 X es u)(hs:(j3 (e::es) X.env).map (·.2)=j2 e X.env::(j3 es X.env).map (·.2):=by kernel_rfl):O7 X (e::es) (aQ g u):=⟨Dv h1.ok h2.ok hs⟩
def IU(h:O7 X es u)(f:X.calm=a9:=by kernel_rfl)(a:(j3 es X.env).length=n:=by kernel_rfl)(c:(j3 es X.env).findIdx? (·.1)=a8:=by kernel_rfl):HG X (.Tuple es j pos) (gI n u):=⟨JV h.ok f a c⟩
def IV(B:HE X o to)(hi:HE X i ti)(f:∀v,j2 (.Subscript o i pos) X.env v=(do
   let ov <-i9 [v] (eval o X.env)
   let iv <-i9 [v,ov] (eval i X.env)
   standAt pos
   i9 [v,ov,iv] (setItem ov iv v)
   release [v,ov,iv] []):=by intro _;kernel_rfl):HG X (.Subscript o i pos) (Dw to ti):=⟨JW B.ok hi.ok f⟩
def El(i:HE X e te)(S:HG X tg g)(hs:swapsWithSole [tg] e pos.line X.env=pure c5:=by kernel_rfl)(w:swappedStores [tg] e X.env=pure a8:=by kernel_rfl)(h1:(j3 [tg] X.env).map (·.2)=[j2 tg X.env]:=by kernel_rfl):HS X (.Assign [tg] e pos) (BE te g):=⟨JR i.ok S.ok hs w h1⟩
def IS(d:X.mg "zip" = a8)(f:HA X [a,b] t)(S:X.env.kindOf "zip" = a7 .globalImplicit:=by kernel_rfl)(hs:i7 [a,b] X.env=[(c5,eval a X.env),(c5,eval b X.env)]:=by kernel_rfl)(c:i7 [b] X.env=[(c5,eval b X.env)]:=by kernel_rfl):HI X (.Tuple es x1 q) (.Call (.Name "zip" p) [a,b] [] pos) (dZip t):=⟨JT d f.ok S hs c⟩
def k_rev{st:i3}{ts:Mo}(i:HE X e te)(hs:HO' X (a7 st) ts):HE X (.Subscript e (.Slice a8 a8 (a7 st) p2) pos) (Hf te ts):=⟨d_rev i.ok hs.ok⟩
def Gq:J5 X (j9 .Add) aF:=⟨Fz⟩
def Gr:HC X (.type "list") eV:=⟨GR⟩
def Dh:HC X (.type "tuple") bX:=⟨DB⟩
def ua(i:Room k X.A)(f:X.calm=a9:=by kernel_rfl):HC X (.builtin "sorted") bN:=⟨yp i f⟩
def Jf:HE X (.Dict [] [] pos) Bg:=⟨Ka⟩
def wB{X:Cx}{k:Nat}(i:Room k X.A):X.A.units+1<k7:=by have:=i.un;lia
def Jg(r:Room k X.A)(B:HE X o to)(hi:HE X i ti)(hs:NoSl i:=by intro _ _;kernel_rfl):HE X (.Subscript o i pos) (Bi to ti):=⟨Kb (wB r) B.ok hi.ok hs⟩
def Ap(r:Room k X.A)(B:HE X o to)(hi:HE X i ti)(c:HE X e te)(hs:j0 e (a7<|.Subscript o i pos') pos.line X.env=pure c5:=by kernel_rfl):HS X (.Assign [.Subscript o i pos'] e pos) (Bh to ti te):=⟨GD (wB r) B.ok hi.ok c.ok hs⟩
def w4.never{P:d5}{w:c9}{K:u6}{mg:c8->Option c6}{base:d8}{k:Nat}{x:c8}{st:i8}{ps:List c8}{d:A7}(F:dq K mg x st ps)(h:∀ds M R,¬d ds M R):w4 P w K mg base k x ps d:=by obtain⟨f,b,a,m,c⟩:=F;refine⟨f,b,⟨λvs H Q E q=>?_,λA o s H O us vs Q E _ _ _ _ q=>?_⟩,m,a.kp,c⟩;obtain⟨ds,M,ρ,R,_,_,q,_⟩:=q;exact(h ds M R q).elim;obtain⟨ds,M,ρ,R,_,_,q,_⟩:=q;exact(h ds M R q).elim
def Hr(t:Nat)(s:List Nat)(wi:TI)(g:TG)(tt:TT)(te:TE)(N:TG):TS:=λD σ H=>On t s wi g tt te σ H λv H1=>N v σ H1 D.nx
theorem Co(B:BlkSc X N' nt js scope)(hc:X.calm=a9)(hi:PI X tg iter wi)(hg:∀cl s0 H0 ex,PG (z6 X N' scope cl s0 H0 ex) tg g) (ht:∀cl s0 H0 ex,Ly (z6 X N' scope cl s0 H0 ex) ifs tt) (he:∀cl s0 H0 ex,PE (z6 X N' scope cl s0 H0 ex) elt te) (hn:PG X (.Name x pos') gN)(hs:∀x,j8 iter X.env x=pure x) (an:j0 (.ListComp elt [⟨tg,iter,ifs,0⟩] scope pos) (a7<|.Name x pos') pos2.line X.env=pure a9):PS X (.Assign [.Name x pos'] (.ListComp elt [⟨tg,iter,ifs,0⟩] scope pos) pos2) (Hr nt js wi g tt te gN):=by
 intro a s σ H Dn I h;rw[exec_Assign_Name_used _ _ _ _ an];refine t4<|wpAny_standAt ?_;obtain⟨cl,V,i,E⟩:=iD (scope:=scope) (env:=X.env) λp j hf=>I.ok.has p.1<|B.free p j hf;refine t4<|show i0 (i4 X.prog X.w) X.A (comprehension (.ListComp elt [⟨tg,iter,ifs,0⟩] scope pos) scope X.env _ (newList []) c5 (eval iter X.env) (a7<|j2 (.Name x pos') X.env) >>= λ_=>pure ()) _ _ _ from t4 ?_;refine Qz (use:=a7<|j2 (.Name x pos') X.env) (Q:=λ_ u=>i0 (i4 X.prog X.w) X.A (pure ()) (λ_ s3=>i0 (i4 X.prog X.w) X.A (pure Flow.next) (SP X a Dn) X.xe s3) X.xe u) rfl hs V B.kind B.loc ?_;refine v6 (hi a s σ H _ I h) λv s1 h1=>v6 h1 λas n h2=>?_;obtain⟨it,fp,tn,J,H2,e,l,T,U,M,W,⟨m0,w0⟩,N⟩:=h2;subst e;refine KJ<|wpAny_newFunctionEnv B.nocell (by intro y hy;simp at hy) (λh1 F G=>?_) B.kind;have r:∀b∈fp,b<n.heap.objs.size:=λb f=>by obtain⟨o,e,_⟩:=T.obj _ _ U b f;exact z8 e
 have hC:(n.heap.push<|bz [] 0).objs.size=n.heap.objs.size+1:=KG ..;have K:∀b o,(n.heap.push<|bz [] 0).get? b=a7 o->h1.get? b=a7 o:=λb o e=>(G.2 b<|A4<|z8 e).trans<|w5 _ e;have I3:=l.blkStart (tk:=n.toks+([]:List (c8×c6)).length) B i E M r K F;have L:tn 0 h1:=T.keep _ _ _ U λb _ o e=>K b o<|w5 _ e;have ab:n.heap.objs.size∉fp:=λz=>E8 _<|r _ z;have ai:n.heap.objs.size∉frs X.stack:=λz=>by rcases z7.mp (l.stkSub _ z)with q|q;exact p5 l.lt (by rw[<-q];exact E8 _);exact l.nofs (v7 _) q
 have D:n.heap.objs.size≠(n.heap.push<|bz [] 0).objs.size:=by rw[hC];exact A4<|K5 _
 have ltc:∀z c,cl.lookup z=a7 c->c<n.heap.objs.size:=λz c e=>by obtain⟨v,q⟩:=l.cell z c<|i z c e;exact q.lt
 have t:∀b∈fp,b≠(n.heap.push<|bz [] 0).objs.size/\b∉frs X.stack/\∀x c,cl.lookup x=a7 c->c≠b:=λb f=>by refine⟨by rw[hC];exact A4<|Mj<|r b f,λz=>?_,λx c e=>(M b f).2.2.2.2.1 x c<|i x c e⟩;rcases z7.mp (l.stkSub b z)with q|q;exact(M b f).2.1 q;exact(M b f).2.2.1 q
 have ap:n.heap.objs.size<=(n.heap.push<|bz [] 0).objs.size:=by rw[hC];exact NY _
 have m:k9 (i4 X.prog X.w) X.A (.compLoop (.ListComp elt [⟨tg,iter,ifs,0⟩] scope pos) 0 (.ref it) (.ref n.heap.objs.size)<|m9 scope cl (n.heap.push<|bz [] 0).objs.size X.env) (compPost (i4 X.prog X.w) X.A X.xe (a7<|j2 (.Name x pos') X.env) (λ_ u=>i0 (i4 X.prog X.w) X.A (pure ()) (λ_ s3=>i0 (i4 X.prog X.w) X.A (pure Flow.next) (SP X a Dn) X.xe s3) X.xe u) (.ref n.heap.objs.size) (n.heap.push<|bz [] 0).objs.size) { n with heap:=h1,toks:=n.toks+([]:List (c8×c6)).length }:=by
  refine Af (s0:={ n with heap:=n.heap.push (bz [] 0) }) (H0:=H2) (N':=N') (Q:=λv H1=>gN v σ H1 Dn.nx) (Turn.at T hc) (hg _ _ _ _) (ht _ _ _ _) (he _ _ _ _) T ab N t D ai (λx c e=>A4<|ltc x c e) ?_ m0 I3 L (λb f=>(M b f).1) w0;intro τ H' s' vs its k R rv hl q;obtain⟨mm,aj,_⟩:=id R.loc;obtain⟨C,es,Y,eC,aO⟩:=id aj;have I5:t5 X a σ (v8 H' n.heap.objs.size<|.lst vs) s':=l.blkEnd M R rv hl ⟨rfl,λ_ _=>rfl⟩;have Z:v8 H' n.heap.objs.size (.lst vs) (n.heap.push<|bz [] 0).objs.size=a8:=by rw[am<|A8 D];exact R.free
  have fk:∀Hx:Hp,Hx (n.heap.push<|bz [] 0).objs.size=a8->oy X a Hx (n.heap.push<|bz [] 0).objs.size:=λHx hx=>l.fpOk ap hx;have dC:∀v,C.data≠.cell v:=λv z=>by
   have:∃es Y,C.data=.dict es Y:=by
    first
     |(obtain⟨d,_⟩:=aO;exact⟨_,_,d⟩)
     |(obtain⟨_,d,_⟩:=aO;exact⟨_,_,d⟩)
     |(obtain⟨_,_,d,_⟩:=aO;exact⟨_,_,d⟩)
   obtain⟨_,_,d⟩:=this;rw[d]at z;cases z
  have I6:t5 X (a++[((n.heap.push<|bz [] 0).objs.size,C)]) σ (v8 H' n.heap.objs.size<|.lst vs) s':=I5.pins_of λp j=>by
   rcases J7.mp j with j|j;exact I5.pin p<|E3 _ j;have:p=((n.heap.push<|bz [] 0).objs.size,C):=by simpa using j
   subst this;exact⟨eC,Z,(fk _ Z).2.1,(fk _ Z).2.2.1,dC⟩
  refine v6 (hn _ s' σ _ (.ref n.heap.objs.size) (.ref n.heap.objs.size) _ I6 rfl q) ?_;rintro _ s7 ⟨O,P,S,q7⟩;obtain⟨p1,p2,_⟩:=S.pin ((n.heap.push<|bz [] 0).objs.size,C)<|E3 _<|E3 _ A9;refine⟨mm,⟨C,es,Y,p1,aO⟩,λh' sb=>u5<|u5 ⟨O,P,?_,q7⟩⟩;have I8:t5 X a O P s7:=S.pins_of λp j=>S.pin p<|E3 _<|NK _ j;refine I8.turnedL (t':=s7.toks) (fp:=[(n.heap.push<|bz [] 0).objs.size]) (λb f=>?_) λb o f e=>(sb.2 b<|by simpa using f).trans e;have:b=(n.heap.push<|bz [] 0).objs.size:=by simpa using f
  subst this;exact fk P p2
 exact Qw m<|T.self _ 0 _ _ _ L m
def lr(t:Nat)(s:List Nat)(b:Lz)(g:KR)(tt:G9)(te:A3)(i:Nat):t9:=λE S M=>E4 t s b g tt te S M λd a=>al i d S a E.nx
def Dt(B:BlkSc X N' nt js scope)(f:X.calm=a9)(hi:DI X tg iter di)(j:∀cl s0 H0 ex,DG (z6 X N' scope cl s0 H0 ex) tg g) (D:∀cl s0 H0 ex,Ly (z6 X N' scope cl s0 H0 ex) ifs<|lowT X.K tt) (e:∀cl s0 H0 ex,DE (z6 X N' scope cl s0 H0 ex) elt te) (n:DG X (.Name x pos') (al i))(hs:∀x,j8 iter X.env x=pure x) (h:j0 (.ListComp elt [⟨tg,iter,ifs,0⟩] scope pos) (a7<|.Name x pos') pos2.line X.env=pure a9):DS X (.Assign [.Name x pos'] (.ListComp elt [⟨tg,iter,ifs,0⟩] scope pos) pos2) (lr nt js di g tt te i):=PS.imp (Co (g:=lowG X.K g) (tt:=lowT X.K tt) (te:=lowE X.K te) B f hi (λcl s0 H0 ex=>j cl s0 H0 ex) D (λcl s0 H0 ex=>e cl s0 H0 ex) n hs h) λE σ H ⟨S,M,ρ,F,s,r,q,k⟩ =>
  vp σ H _ ⟨S,M,ρ,_,s,r,q,λv H1 ⟨d,b,c,o,g1,m,l⟩=>⟨d,S,b,c,_,o,r.grow g1,m,l,λa H' w=>k.nx a H'<|SQ.trans g1 w⟩⟩
def CU(a:X.N.Nodup)(hi:HI X tg iter di)(S:∀cl s0 H0 ex,HG (z6 X N' scope cl s0 H0 ex) tg g) (D:∀cl s0 H0 ex,M7 (z6 X N' scope cl s0 H0 ex) ifs tt) (e:∀cl s0 H0 ex,HE (z6 X N' scope cl s0 H0 ex) elt te) (B:lz X.env.scope.names X.N N' nt js scope=a9:=by kernel_rfl) (f:X.calm=a9:=by kernel_rfl)(hs:∀x,j8 iter X.env x=pure x:=by intro _;kernel_rfl) (w:j0 (.ListComp elt [⟨tg,iter,ifs,0⟩] scope pos) (a7<|.Name x pos') pos2.line X.env=pure a9:=by kernel_rfl)(h:X.N[i]?=a7 x:=by kernel_rfl) (c:FF X.env.scope x=a9:=by kernel_rfl) (b:X.fn x=a9:=by kernel_rfl):HS X (.Assign [.Name x pos'] (.ListComp elt [⟨tg,iter,ifs,0⟩] scope pos) pos2) (lr nt js di g tt te i):=⟨Dt (BlkSc.chk B) f hi.ok (λcl s0 H0 ex=>(S cl s0 H0 ex).ok) (λcl s0 H0 ex=>(D cl s0 H0 ex).ok) (λcl s0 H0 ex=>(e cl s0 H0 ex).ok) (vN a h (wN c)<|.inl b) hs w⟩
def QH:atI (a::r) 0=a7 a:=by have:=aY (xs:=a::r) (j:=0) (v:=a) rfl;simpa using this
def Os:atI (a::b::r) 1=a7 b:=by have:=aY (xs:=a::b::r) (j:=1) (v:=b) rfl;simpa using this
def Oq:atI (a::b::c::r) 2=a7 c:=by have:=aY (xs:=a::b::c::r) (j:=2) (v:=c) rfl;simpa using this
def aE.lst(h:R (.ref M.length) (M++[.lst xs]))(f:M.length<=n)(e:(M++L)[n]?=a7 (.lst xs))(b:Bels M.length xs):aE M R (.ref n) (M++L):=.inr<|.inr ⟨M,n,xs,.refl,rfl,f,e,Kv _ _,b,h⟩
def aE.chg(c:LA M M1)(h:R d M1)(b:D5 M.length d)(p:M1 <+: M'):aE M R d M':=.inr<|.inl ⟨M1,c,b,p,h⟩
def aE.chgL(c:LA M M1)(h:R (.ref M.length) (M1++[.lst xs]))(f:M.length<=n)(e:M'[n]?=a7 (.lst xs))(p:M1 <+: M')(b:Bels M.length xs):aE M R (.ref n) M':=.inr<|.inr ⟨M1,n,xs,c,rfl,f,e,p,b,h⟩
def fA:(M++a::L).set M.length b=M++b::L:=by rw[List.set_append_right _ _<|v7 _];simp
def bw:(M++a::L)[M.length]?=a7 a:=by simp
def uS:M <+: M++L:=Kv _ _
def iO(I:List D->List D->SD->t7->Prop)(h0:∀acc S M,I [] acc S M->ok M/\Q (.ref M.length) (M++[.lst acc]))(h1:∀x xs acc S M,I (x::xs) acc S M->∀K:List D->SD->t7->Prop,(∀acc S M,I xs acc S M->K acc S M)->ok M/\g x S M λS2 M2=>tt S2 M2 λb M3=>if b=a9 then te S2 M3 λy M4=>acc.length<sizeLine/\K (acc++[y]) S2 M4 else K acc S2 M3):∀xs acc S M,I xs acc S M->fX ok g tt te Q xs acc S M
 | [],acc,S,M,h=>h0 acc S M h
 |x::xs,acc,S,M,h=>h1 x xs acc S M h _<|iO I h0 h1 xs
noncomputable def KP:D->c8
 |.str x=>x
 |_=>M8
theorem dS{ys:List D}{s:List c8}(h:ys.Perm (s.map D.str)):∃ns:List c8,ys=ns.map D.str/\ns.Perm s:=by
 refine⟨ys.map KP,?_,?_⟩;rw[B8];have:∀y∈ys,(D.str ∘ KP) y=y:=λy O=>by obtain⟨x,_,rfl⟩:=w9.mp<|h.mem_iff.mp O;rfl
 exact(LU this ▸ (List.map_id' ys).symm:ys=ys.map (D.str ∘ KP));have:=h.map KP;rw[B8]at this;have e:(KP ∘ D.str)=id:=rfl
 rwa [e,KU]at this
def kq{M:t7}{s:List c8}(h:s.length<64):SrtOk M (s.map D.str):=by refine⟨by rw[v5];exact h,λx a=>?_,λx a y O=>?_,.inl λx a=>?_⟩;obtain⟨z,_,rfl⟩:=w9.mp a;rfl;obtain⟨z,_,rfl⟩:=w9.mp a;obtain⟨F,_,rfl⟩:=w9.mp O;rfl;obtain⟨z,_,rfl⟩:=w9.mp a;exact⟨z,rfl⟩
def sX(h:(kvs.map (·.1)).Nodup):((xH kvs k d).map (·.1)).Nodup:=by
 unfold xH;by_cases q:(kvs.any λp=>decide<|p.1=k)=a9;rw[o8 q,B8];have:((λx:c8×D=>x.1) ∘ λp:c8×D=>if p.1=k then(p.1,d)else p)=λx=>x.1:=by funext p;show (if p.1=k then(p.1,d)else p).1=p.1;split<;>rfl
 rw[this];exact h;rw[p0 q,Mv,Pq];refine⟨h,b9,λa f b c e=>?_⟩;simp at c;subst c e;obtain⟨p,g,e⟩:=w9.mp f;exact q<|OO.mpr ⟨p,g,by simpa using e⟩
def lS:(xH kvs k d).length<=kvs.length+1/\1<=(xH kvs k d).length:=by unfold xH;by_cases q:(kvs.any λp=>decide<|p.1=k)=a9;rw[o8 q,v5];obtain⟨p,h,_⟩:=OO.mp q;have:0<kvs.length:=List.length_pos_of_mem h;lia;rw[p0 q,E2,Oj];lia
def wE{P:c8×D->Prop}{kvs:List (c8×D)}{k:c8}{d:D}(h:∀p∈kvs,P p)(c:P (k,d)):∀p∈xH kvs k d,P p:=by unfold xH;intro p a;by_cases q:(kvs.any λp=>decide<|p.1=k)=a9;rw[o8 q]at a;obtain⟨f,b,rfl⟩:=w9.mp a;by_cases e:f.1=k;rw[o8 e,e];exact c;rw[p0 e];exact h f b;rw[p0 q]at a;rcases J7.mp a with a|a;exact h p a;rw[Ky.mp a];exact c
def BP(h:k∈kvs.map (·.1)):∃d,rH kvs k=a7 d/\(k,d)∈kvs:=by
 obtain⟨p,a,rfl⟩:=w9.mp h;cases e:kvs.find? λq=>decide (q.1=p.1) with
 |none=>exact p5 (List.find?_eq_none.mp e p a)<|by simp
 |some q =>
  have h1:=List.mem_of_find?_eq_some e;have h2:q.1=p.1:=by simpa using List.find?_some e
  exact⟨q.2,by rw[rH,e];rfl,by rw[<-h2];exact h1⟩
def jX:(M++a::b::L)[M.length+1]?=a7 b:=by rw[LK b7,show M.length+1-M.length=1 by lia];rfl
def qY:(M++a::b::c::L)[M.length+2]?=a7 c:=by rw[LK b7,show M.length+2-M.length=2 by lia];rfl
def Cd:(M++a::b::c::L).set (M.length+2) d=M++a::b::d::L:=by rw[List.set_append_right _ _ b7,show M.length+2-M.length=2 by lia];rfl
theorem wF{α:Type}(f:α->D)(g:D->α)(S:∀a,g (f a)=a){ys:List D}{l:List α}(h:ys.Perm (l.map f)):∃l':List α,ys=l'.map f/\l'.Perm l:=by
 refine⟨ys.map g,?_,?_⟩;rw[B8];have:∀y∈ys,(f ∘ g) y=y:=λy O=>by obtain⟨x,_,rfl⟩:=w9.mp<|h.mem_iff.mp O;show f (g<|f x)=f x;rw[S]
 exact(LU this ▸ (List.map_id' ys).symm:ys=ys.map (f ∘ g));have:=h.map g;rw[B8]at this;have e:(g ∘ f)=id:=funext S
 rwa [e,KU]at this
def fZ{α:Type}{f:α->D}{l:List α}{j:Nat}(h:j<l.length):atI (l.map f) (j:Int)=a7 (f l[j]):=aY<|by rw[F5,A1 h];rfl
def xg:∀xs ys:List c8,yi (u8 M n) (kh M n) (xs.map D.str) (ys.map D.str)=a9
 | [],ys=>by cases ys<;>rfl
 |_::_,[]=>rfl
 |x::xs,y::ys=>by show (if u8 M n (.str x) (.str y)=a9 then yi _ _ (xs.map D.str) (ys.map D.str)else kh M n (.str x) (.str y))=a9;split;exact xg xs ys;cases n<;>rfl
noncomputable def br(w:c9):d7:={ cls:=.type "set",dict:=a8,data:=.set #[] 0 (.fresh 0 0<|!w.params.followText "set-order") }
def vO(a:c6)(h:Q₁ (.ref s.heap.objs.size) { s with heap:=s.heap.push (br w) }):k9 (i4 prog w) A (.call (.builtin "set.__new__") ⟨[.type "set",a],[]⟩) (wants Q₁ E) s:=by
 refine codeAny_of_tree<|show i0 (i4 prog w) A.in1 (do checkBuiltinCall "set.__new__" ⟨[.type "set",a],[]⟩;again (.builtin "set.__new__" ⟨[.type "set",a],[]⟩)) _ _ s from ?_;refine t4<|wpAny_of_eq (F.newCall_set_1 a)<|u5 ⟨OD F.plain_set_new _,MM F.entry_set_new ?_⟩;rw[OW F.plain_set_new _];have c:=sub_set_self;obtain⟨p,g,d,q,o⟩:=s;unfold Builtin.«set.__new__» Builtin.Frozenset.newClass;dsimp only
 wp_walk
 refine NG<|u5 ?_;simp only[newObj];exact t4<|wpAny_alloc<|u5<|u5 h
structure TxSrc(prog:d5)(w:c9)(h:d8)(l:d6)(T:String)(n:Nat)(P:Nat->c6->Prop):Prop where
 obj:∃o,h.get? l=a7 o/\o.cls=.type T
 ns:isSubtype (.type T) (.type "set")=pure c5
 nf:isSubtype (.type T) (.type "frozenset")=pure c5
 nd:(MH T==MH "dict")=c5
 iter:∀(A:f8) (s':f9),A.handled=a8->(∀o,h.get? l=a7 o->s'.heap.get? l=a7 o)->∃(oI:d7) (St:Nat->d8->Prop),(∀(E:c6->f9->Prop) (Q:c6->f9->Prop),Q (.ref s'.heap.objs.size) { s' with heap:=s'.heap.push oI }->i0 (i4 prog w) A (j6<|.ref l) Q E s') /\Walks prog w A s'.heap.objs.size [s'.heap.objs.size,l] [s'.heap.objs.size] n P St/\St 0 (s'.heap.push oI)
def uN:isSubtype (.type "tuple") (.type "set")=pure c5:=by rw[isSubtype_type];kernel_rfl
def sO:isSubtype (.type "tuple") (.type "frozenset")=pure c5:=by rw[isSubtype_type];kernel_rfl
def TxSrc.list(g:h.IsList l its):TxSrc prog w h l "list" its.size (λi v=>its[i]?=a7 v):=by
 refine⟨let ⟨o,e,c,_⟩:=g;⟨o,e,c⟩,F.sub_list_set,F.sub_list_frozenset,b0,λA s' b k=>?_⟩;have a:s'.heap.IsList l its:=g.at k;have lt:l<s'.heap.objs.size:=let ⟨o,e,_⟩:=a;z8 e
 exact⟨_,_,λE Q q=>OQ a q,Walks.list b _ l (A4 lt) its,⟨_,B6 _ rfl,rfl,rfl⟩,a.push _⟩
def TxSrc.tuple(g:h.IsTuple l its):TxSrc prog w h l "tuple" its.size (λi v=>its[i]?=a7 v):=by
 refine⟨let ⟨o,e,c,_⟩:=g;⟨o,e,c⟩,uN,sO,b0,λA s' b k=>?_⟩;have a:s'.heap.IsTuple l its:=let ⟨o,e,r⟩:=g;⟨o,k o e,r⟩
 have lt:l<s'.heap.objs.size:=let ⟨o,e,_⟩:=a;z8 e
 exact⟨_,_,λE Q q=>Pv a q,Walks.tuple b _ l (A4 lt) its,⟨_,B6 _ rfl,rfl,rfl⟩,let ⟨o,e,r⟩:=a;⟨o,w5 _ e,r⟩⟩
def bu:Slot "set_iterator" "__next__" "set_iterator.__next__":=.of (owner:="set_iterator") (n:="__next__") (by rw[typeLookup_type,builtinLookup_eq_fast];kernel_rfl) dO dO dO (by first|exact .inl dO|exact .inr<|by decide +kernel)<|by rw[isSubtype_type];kernel_rfl
def fV:entryFor table "set_iterator.__next__" = a7 Builtin.«set_iterator.__next__»:=entryFor_of_tree<|by kernel_rfl
def nv:Manifest.owners.lookup (String.ofList ['r','o','t','a','r','e','t','i','_','t','e','s'].reverse)=a7 Manifest.sig_set_iterator:=by kernel_rfl
theorem iQ(a:c6):argsOk "set_iterator.__next__" ⟨[a],[]⟩:=by unfold argsOk;rw[signature?_of (id:="set_iterator.__next__") (n:=['_','_','t','x','e','n','_','_']) (o:=['r','o','t','a','r','e','t','i','_','t','e','s']) (by kernel_rfl) nv];kernel_rfl
def rz:entryFor table "set.__iter__" = a7 Builtin.«frozenset.__iter__»:=entryFor_alias (id':="frozenset.__iter__") (by kernel_rfl) rfl dO<|by kernel_rfl
def kF{α:Type}:∀(l:List α) (i:Nat) (h:i<l.length),(l[i]::l.eraseIdx i).Perm l
 |x::l,0,_=>Ni _
 |x::l,i+1,h=>by
  have h':i<l.length:=by simpa using h
  exact(List.Perm.swap x l[i]<|l.eraseIdx i).trans<|Pe x<|kF l i h'
def yr(f:n≠0)(h:∀i d,i<n->Q i { s with drawn:=d }):i0 M A (choose src n) Q E s:=by intro Γ p a;show Sem.wp M Γ (Sem.choose src n λi=>Sem.pure i) _ _ p s;rw[Sem.wp_choose];refine⟨f,?_⟩;rw[Sem.wp_pure];exact h _ _<|Nat.mod_lt _<|Nat.pos_of_ne_zero f
def ug{α:Type}{M:Model}{A:f8}{E:c6->f9->Prop}:∀(n:Nat) (xs:List α) (s:f9) (Q:List α->f9->Prop),xs.length=n->(∀ys d,ys.Perm xs->Q ys { s with drawn:=d })->i0 M A (drawOrder n xs) Q E s
 | 0,xs,s,Q,e,h=>by
  cases xs with
  |nil=>exact u5<|h [] s.drawn<|Ni _
  |cons _ _=>cases e
 |n+1,[],s,Q,e,h=>by cases e
 |n+1,x::xs,s,Q,e,h=>by unfold drawOrder;refine t4<|yr b9 λi d hi=>?_;rw[A1 hi];refine t4<|ug n ((x::xs).eraseIdx i) { s with drawn:=d } _ (by rw[List.length_eraseIdx_of_lt hi];simp at e ⊢;lia) λys d' hp=>u5<|h _ d' ?_;exact(Pe _ hp).trans<|kF _ i hi
def mW{α:Type}(next:Nat->Nat)(xs:Array α):(o0 next xs).toList.Perm xs.toList:=by
 have o:∀(l k:Nat) (left:List α) (t:Array α),left.length=l->(pickOrder.go next l k left t).toList.Perm (t.toList++left):=by
  intro l;induction l with
  |zero =>
   intro k left t e;cases left with
   |nil=>simp[pickOrder.go]
   |cons _ _=>cases e
  |succ n i=>intro k left t e;have hi:next k % left.length<left.length:=Nat.mod_lt _ b7;unfold pickOrder.go;rw[A1 hi];dsimp only;refine(i (k+1) _ _<|by rw[List.length_eraseIdx_of_lt hi];lia).trans ?_;rw[Array.toList_push,F0];exact List.Perm.append_left _<|kF _ _ hi
 have:=o xs.size 0 xs.toList #[] b9;simpa [o0]using this
noncomputable def fQ(first:c6)(i n:Nat)(a:d6)(ep:Nat):d7:={ cls:=.type "set_iterator",data:=.fields #[first,j7 i,.ref a,j7 n,j7 ep] }
structure SetAt(h:d8)(a:d6)(o:d7)(es:Array (Int×c6))(ep:Nat)(t:o5):Prop where
 ob:h.get? a=a7 o
 dt:o.data=.set es ep t
 ft:t.fits es.size=a9
def pO(c:A.handled=a8)(h:∀h' e,(∀b o,s.heap.get? b=a7 o->h'.get? b=a7 o)->(∃o,h'.get? e=a7 o/\o.cls=.type "StopIteration")->F (.ref e) { s with heap:=h' }):i0 (i4 prog w) A (do raiseNew (<-newExc (.type "StopIteration") []):Sem Fin) Q F s:=by refine t4 ?_;simp only[newExc,newTuple];refine t4 (KJ (t4 (m:=n6 _ _)<|wpAny_of_eq (a:=G6) (by first|rfl|(simp only[n6];rfl))<|KJ ?_<|by size_fits)<|by size_fits);simp only[raiseNew];refine t4<|wpAny_handled ?_;rw[c];exact t4<|u5<|wpAny_throw<|h _ _ (λb o e=>w5 _<|w5 _ e) ⟨_,B6 _ rfl,rfl⟩
def nF{slot i next:Nat}{x:c6}{Q:Option c6->f9->Prop}(I:s.heap.get? it=a7 (fQ (j7 slot) i es.size a ep))(S:SetAt s.heap a o es ep t)(f:∀(A:f8) (E:c6->f9->Prop) (Q:Option (c6×Nat)->f9->Prop),Q (a7 (x,next)) s->i0 (i4 prog w) A (setNext a slot i ep) Q E s)(b:∀h',h'.get? it=a7 (fQ (j7 next) (i+1) es.size a ep)->NB it s.heap h'->Q (a7 x) { s with heap:=h' }):i0 (i4 prog w) A (j4<|.ref it) Q E s:=by
 have m:s.TypeIs (.ref it) "set_iterator":=⟨_,I,rfl⟩
 unfold j4;refine t4<|Ms<|LZ (name:=x9 "__next__") m bu<|K6 bu m fV ?_<|iQ _;unfold Builtin.«set_iterator.__next__»;refine t4<|u5<|t4<|wpAny_fieldsOf I rfl ?_;dsimp only[fQ,j7];refine t4<|OV S.ob S.dt S.ft ?_;rw[p0<|by simp];refine t4<|f _ _ _ ?_;dsimp only;refine t4<|Lr I rfl b9<|t4<|Lr (Lu _ I rfl) rfl b9<|u5 ⟨x,rfl,u5<|b _ ?_<|(MS ..).trans<|MS ..⟩;refine(Lu _ (Lu _ I rfl) rfl).trans ?_;simp[fQ,Nd,j7]
def fM{slot i:Nat}{Q:Option c6->f9->Prop}(g:A.handled=a8)(I:s.heap.get? it=a7 (fQ (j7 slot) i es.size a ep))(S:SetAt s.heap a o es ep t)(n:∀(A:f8) (E:c6->f9->Prop) (Q:Option (c6×Nat)->f9->Prop),Q a8 s->i0 (i4 prog w) A (setNext a slot i ep) Q E s)(h:∀h',(∀b o,b≠it->s.heap.get? b=a7 o->h'.get? b=a7 o)->Q a8 { s with heap:=h' }):i0 (i4 prog w) A (j4<|.ref it) Q E s:=by
 have m:s.TypeIs (.ref it) "set_iterator":=⟨_,I,rfl⟩
 unfold j4;refine t4<|Ms<|LZ (name:=x9 "__next__") m bu<|K6 bu m fV ?_<|iQ _;unfold Builtin.«set_iterator.__next__»;refine t4<|u5<|t4<|wpAny_fieldsOf I rfl ?_;dsimp only[fQ,j7];refine t4<|OV S.ob S.dt S.ft ?_;rw[p0<|by simp];refine t4<|n _ _ _ ?_;dsimp only;refine t4<|Lr I rfl b9 ?_;refine pO (by simp[g]) ?_;rintro h' e k ⟨oe,c,f⟩;refine t4<|N8 (T:="StopIteration") (b:=a9) ⟨oe,c,f⟩ isSubtype_stop<|u5<|h h' λb j d L=>k b j ?_;exact((MS ..).2 b d).trans L
def xN{tt:d6}{ps:List Nat}{i j:Nat}{e:Int×c6}{Q:Option c6->f9->Prop}(I:s.heap.get? it=a7 (fQ (.ref tt) i es.size a ep))(B:s.heap.IsTuple tt (ps.map λ(k:Nat)=>j7 k).toArray)(S:SetAt s.heap a o es ep t)(hj:ps[i]?=a7 j) (d:es[j]?=a7 e) (c:∀h',h'.get? it=a7 (fQ (.ref tt) (i+1) es.size a ep)->NB it s.heap h'->Q (a7 e.2) { s with heap:=h' }):i0 (i4 prog w) A (j4<|.ref it) Q E s:=by
 have m:s.TypeIs (.ref it) "set_iterator":=⟨_,I,rfl⟩
 obtain⟨f,b,_,n,h⟩:=B;unfold j4;refine t4<|Ms<|LZ (name:=x9 "__next__") m bu<|K6 bu m fV ?_<|iQ _;unfold Builtin.«set_iterator.__next__»;refine t4<|u5<|t4<|wpAny_fieldsOf I rfl ?_;dsimp only[fQ,j7];refine t4<|OV S.ob S.dt S.ft ?_;rw[p0<|by simp];refine t4<|LG b h ?_;have x:(ps.map λ(k:Nat)=>j7 k).toArray[i]?=a7 (.int j 0):=by simp[hj,j7]
 simp only[LJ,x];unfold setNextDrawn;refine t4<|t4<|LS S.ob S.dt S.ft ?_;simp only[bne_self_eq_false,C8,p8,d];refine u5<|t4<|Lr I rfl b9<|u5 ⟨_,rfl,u5<|c _ ?_<|MS ..⟩;refine(Lu _ I rfl).trans ?_;simp[fQ,Nd,j7]
def oK{tt:d6}{ps:List Nat}{i:Nat}{Q:Option c6->f9->Prop}(l:A.handled=a8)(I:s.heap.get? it=a7 (fQ (.ref tt) i es.size a ep))(B:s.heap.IsTuple tt (ps.map λ(k:Nat)=>j7 k).toArray)(S:SetAt s.heap a o es ep t)(hj:ps[i]?=a8) (d:∀h',(∀b o,b≠it->s.heap.get? b=a7 o->h'.get? b=a7 o)->Q a8 { s with heap:=h' }):i0 (i4 prog w) A (j4<|.ref it) Q E s:=by
 have m:s.TypeIs (.ref it) "set_iterator":=⟨_,I,rfl⟩
 obtain⟨r,c,_,q,h⟩:=B;unfold j4;refine t4<|Ms<|LZ (name:=x9 "__next__") m bu<|K6 bu m fV ?_<|iQ _;unfold Builtin.«set_iterator.__next__»;refine t4<|u5<|t4<|wpAny_fieldsOf I rfl ?_;dsimp only[fQ,j7];refine t4<|OV S.ob S.dt S.ft ?_;rw[p0<|by simp];refine t4<|LG c h ?_;have x:(ps.map λ(k:Nat)=>j7 k).toArray[i]?=a8:=by simpa using hj
 simp only[LJ,x];refine t4<|Lr I rfl b9<|t4<|Lr (Lu _ I rfl) rfl b9 ?_;refine pO (by simp[l]) ?_;rintro h' e n ⟨oe,j,g⟩;refine t4<|N8 (T:="StopIteration") (b:=a9) ⟨oe,j,g⟩ isSubtype_stop<|u5<|d h' λb p f L=>n b p ?_;exact(((MS ..).trans<|MS ..).2 b f).trans L
end L2
namespace L2
def nodup_le{α:Type}[DecidableEq α]:∀(l xs:List α),l.Nodup->(∀x∈l,x∈xs)->l.length<=xs.length
 | [],xs,_,_=>B0 _
 |a::l,xs,nd,h=>by have ha:a∈xs:=h a A9;have nd':=KN.mp nd;have ih:=nodup_le l (xs.erase a) nd'.2 λx hx=>(List.mem_erase_of_ne<|show x≠a from λz=>nd'.1<|by rw[<-z];exact hx).mpr<|h x<|C4 _ hx;rw[List.length_erase_of_mem ha]at ih;have:0<xs.length:=List.length_pos_of_mem ha;rw[D4];lia
end L2
namespace Ht
open PySem
noncomputable def Ot(m:Nat)(p:Nh):Nh:=if p.more > 0 then { p with j:=p.j+1,more:=p.more-1 } else
 { p with j:=(MI m p.i p.perturb).1,more:=KM m (MI m p.i p.perturb).1-(MI m p.i p.perturb).1,i:=(MI m p.i p.perturb).1,perturb:=(MI m p.i p.perturb).2 }
noncomputable def ko(m i t:Nat):Nh:={ j:=i,more:=KM m i-i,i,perturb:=t,dummy:=a8 }
noncomputable def mP(m:Nat)(p:Nh):Nat->Nh
 | 0=>p
 |n+1=>Ot m<|mP m p n
noncomputable def sq(m:Nat)(h:Int)(n:Nat):Nh:=mP m (ko m (Mh h % (m+1))<|Mh h) n
def sP(m:Nat)(p:Nh)(a b:Nat):mP m p (a+b)=mP m (mP m p a) b:=by
 induction b with
 |zero=>rfl
 |succ b i=>rw[Nat.add_succ,mP,i];rfl
def HH(m i:Nat):KM m i-i<=9:=by unfold KM;split<;>lia
def AC(m i pt:Nat):∀k,k<=KM m i-i->mP m (ko m i pt) k={ j:=i+k,more:=KM m i-i-k,i,perturb:=pt,dummy:=a8 }
 | 0,_=>by simp[mP,ko]
 |k+1,h=>by rw[mP,AC m i pt k<|by lia];unfold Ot;rw[o8<|show KM m i-i-k > 0 by lia];simp only[SetTable.Probe.mk.injEq,true_and,and_true];lia
def CG(m i t:Nat):mP m (ko m i t) (KM m i-i+1)=ko m (MI m i t).1 (MI m i t).2:=by rw[mP,AC m i t _<|v7 _];unfold Ot;rw[p0<|show ¬KM m i-i-(KM m i-i) > 0 by lia];rfl
noncomputable def fB(m:Nat)(h:Int):Nat->Nat×Nat
 | 0=>(Mh h % (m+1),Mh h)
 |k+1=>MI m (fB m h k).1 (fB m h k).2
noncomputable def gk(m:Nat)(h:Int):Nat->Nat
 | 0=>0
 |k+1=>gk m h k+(KM m (fB m h k).1-(fB m h k).1+1)
def DH(m:Nat)(h:Int)(k:Nat):gk m h k<=10*k:=by
 induction k with
 |zero=>exact v7 _
 |succ k i=>have:=HH m (fB m h k).1;unfold gk;lia
def DU(m:Nat)(h:Int)(k:Nat):sq m h (gk m h k)=ko m (fB m h k).1 (fB m h k).2:=by
 induction k with
 |zero=>rfl
 |succ k i=>unfold sq at i ⊢;unfold gk;rw[sP,i,CG];rfl
def zq(m:Nat)(h:Int)(k r:Nat)(i:r<=KM m (fB m h k).1-(fB m h k).1):(sq m h<|gk m h k+r).j=(fB m h k).1+r:=by have e:=DU m h k;unfold sq at e ⊢;rw[sP,e,AC _ _ _ _ i]
def GV(h:Int):Mh h<2 ^ 64:=by unfold Mh;have a:=KH h (show (2 ^ 64:Int)≠0 by decide);have h1:=K1 h (show (0:Int)<2 ^ 64 by decide);lia
def pR(m:Nat)(h:Int):∀k,(fB m h k).2=Mh h / 32 ^ k
 | 0=>by simp[fB]
 |k+1=>by show (fB m h k).2 / 32=_;rw[pR m h k,Nat.div_div_eq_div_mul,<-Nat.pow_succ]
def sY(m:Nat)(h:Int)(k:Nat)(a:13<=k):(fB m h k).2=0:=by
 rw[pR];apply Nat.div_eq_of_lt;have h1:=GV h;have h2:32 ^ 13<=32 ^ k:=Nat.pow_le_pow_right b0 a;have b:(2:Nat) ^ 64<32 ^ 13:=by decide
 lia
noncomputable def vT(m i:Nat):Nat:=(i*5+1) % (m+1)
noncomputable def cr(m i:Nat):Nat->Nat
 | 0=>i
 |k+1=>vT m<|cr m i k
def fv(m i a b:Nat):cr m i (a+b)=cr m (cr m i a) b:=by
 induction b with
 |zero=>rfl
 |succ b h=>rw[Nat.add_succ,cr,h];rfl
def uP(m:Nat)(h:Int)(r:Nat):(fB m h<|13+r).1=cr m (fB m h 13).1 r:=by
 induction r with
 |zero=>rfl
 |succ r i=>show (MI m (fB m h<|13+r).1 (fB m h<|13+r).2).1=vT m (cr m (fB m h 13).1 r);rw[sY m h _ b7,i];rfl
def uQ(m:Nat)(h:Int):∀k,(fB m h k).1<=m
 | 0=>Nat.lt_succ_iff.mp<|Nat.mod_lt _<|Nat.succ_pos _
 |k+1=>Nat.lt_succ_iff.mp<|Nat.mod_lt _<|Nat.succ_pos _
def Hg(m:Nat):Prop:=cr m 0 (m+1)=0/\∀s,s<=m->∃k,k<=m/\cr m 0 k=s
noncomputable def uY(m:Nat):Nat->Nat->List Nat
 | 0,_=>[]
 |n+1,i=>i::uY m n (vT m i)
def nA(m:Nat):∀(n i k:Nat),k<n->(uY m n i)[k]?=a7 (cr m i k)
 | 0,_,_,h=>p5 h<|MP _
 |n+1,i,0,_=>rfl
 |n+1,i,k+1,h=>by rw[uY,MC,nA m n (vT m i) k b7,<-show cr m (cr m i 1) k=cr m i (k+1)from by rw[<-fv,Nat.add_comm]];rfl
def vI(m:Nat)(h:((uY m (m+2) 0)[m+1]?==a7 0&&(B7<|m+1).all λs=>(uY m (m+1) 0).contains s)=a9):Hg m:=by
 rw[A2,p7,z5]at h;refine⟨?_,λs hs=>?_⟩;have:=nA m (m+2) 0 (m+1) b7;rw[h.1]at this;exact(C1 this).symm;have:=h.2 s (G1.mpr<|by lia);rw[List.contains_iff_mem]at this;obtain⟨k,a⟩:=LV this;have g:k<m+1:=by
  have:=(B5.mp a).1;have B:∀n i,(uY m n i).length=n:=by
   intro n;induction n with
   |zero=>intro i;rfl
   |succ n b=>intro i;simp[uY,b]
  rw[B]at this;exact this
 rw[nA m _ 0 k g]at a;exact⟨k,b7,C1 a⟩
def full7:Hg 7:=vI 7<|by decide +kernel
def Jz:Hg 31:=vI 31<|by decide +kernel
def Gw:Hg 127:=vI 127<|by decide +kernel
def AN(F:Hg m)(hi:i<=m)(hs:s<=m):∃k,k<=m/\cr m i k=s:=by obtain⟨a,f,c⟩:=F.2 i hi;obtain⟨b,d,L⟩:=F.2 s hs;by_cases h:a<=b;refine⟨b-a,b7,?_⟩;rw[<-c,<-fv,show a+(b-a)=b by lia];exact L;refine⟨m+1-a+b,b7,?_⟩;rw[<-c,<-fv,show a+(m+1-a+b)=(m+1)+b by lia,fv,F.1];exact L
def oQ(m:Nat):Prop:=m=7\/m=31\/m=127
def oQ.full(h:oQ m):Hg m:=by rcases h with rfl|rfl|rfl;exact full7;exact Jz;exact Gw
def Eu(d:oQ m)(h:Int)(hs:s<=m):∃k,k<=m+13/\(fB m h k).1=s:=by obtain⟨r,i,e⟩:=AN d.full (uQ m h 13) hs;exact⟨13+r,b7,by rw[uP];exact e⟩
def ET(d:oQ m)(h:Int)(hs:s<=m):∃n,n<10*(m+15)/\(sq m h n).j=s:=by obtain⟨k,a,e⟩:=Eu d h hs;refine⟨gk m h k,by have:=DH m h k;lia,?_⟩;rw[DU];exact e
def Hw(h:Int):∀n,∃k r,r<=KM m (fB m h k).1-(fB m h k).1/\n=gk m h k+r
 | 0=>⟨0,0,B0 _,rfl⟩
 |n+1=>by obtain⟨k,r,hr,e⟩:=Hw (m:=m) h n;by_cases q:r<KM m (fB m h k).1-(fB m h k).1;exact⟨k,r+1,q,b7⟩;exact⟨k+1,0,B0 _,by rw[gk];lia⟩
def zp(h:Int)(n:Nat):(sq m h n).j<=m:=by obtain⟨k,r,i,e⟩:=Hw (m:=m) h n;rw[e,zq m h k r i];have:=uQ m h k;unfold KM at i;split at i<;>lia
def below_spec(xs:Array Nat)(v:xs.toList.Pairwise (· < ·))(j:Nat):G0 xs j<=xs.size/\(∀k (h:k<xs.size),k<G0 xs j->xs[k]<j)/\∀k (h:k<xs.size),G0 xs j<=k->j<=xs[k]:=by
 have m:∀a b (g:a<xs.size) (i:b<xs.size),a<b->xs[a]<xs[b]:=λa b g i h=>by have:=PL.mp v a b (by simpa using g) (by simpa using i) h;simpa using this
 have r:∀(l o hi:Nat),o<=hi->hi<=xs.size->hi-o<=l->(∀k (h:k<xs.size),k<o->xs[k]<j)->(∀k (h:k<xs.size),hi<=k->j<=xs[k]) -> NH xs j l o hi<=xs.size/\(∀k (h:k<xs.size),k<NH xs j l o hi->xs[k]<j)/\∀k (h:k<xs.size),NH xs j l o hi<=k->j<=xs[k]:=by
  intro l;induction l with
  |zero =>
   intro o hi h1 h2 s d c;have:o=hi:=by lia
   subst this;exact⟨h2,d,c⟩
  |succ l n =>
   intro o hi h1 h2 s d c;unfold NH;by_cases h:o<hi;rw[o8 h];have f:(o+hi) / 2<xs.size:=by lia
   have p:xs.getD ((o+hi) / 2) j=xs[(o+hi) / 2]:=by simp[LB,f]
   simp only[p];by_cases q:xs[(o+hi) / 2]<j;rw[o8 q];refine n _ _ b7 h2 b7 (λk e u=>?_) c;rcases LQ k ((o+hi) / 2)with z|z;exact Nat.lt_trans (m k _ e f z) q;have:k=(o+hi) / 2:=by lia
   subst this;exact q;rw[p0 q];refine n _ _ b7 b7 b7 d λk e t=>?_;rcases LQ ((o+hi) / 2) k with z|z;exact KY (Mp.mp q)<|Mr<|m _ k f e z;have:k=(o+hi) / 2:=by lia
   subst this;exact Mp.mp q;rw[p0 h];have:o=hi:=by lia
   subst this;exact⟨h2,d,c⟩
 exact r xs.size 0 xs.size (B0 _) (v7 _) b7 (λk _ h=>p5 h<|MP _) λk h h'=>p5 h<|Mp.mpr h'
def below_at(r:xs.toList.Pairwise (· < ·))(h:xs[i]?=a7 j):G0 xs j=i:=by
 obtain⟨hi,e⟩:=Ln.mp h;obtain⟨g,c,u⟩:=below_spec xs r j;have m:∀a b (f:a<xs.size) (d:b<xs.size),a<b->xs[a]<xs[b]:=λa b f d h=>by have:=PL.mp r a b eh (by simpa using d) h;simpa using this
 rcases Oc (G0 xs j) i with q|q|q;have d:G0 xs j<xs.size:=by lia
 have:=u _ d<|v7 _;have:=m _ i d hi q;lia;exact q;have:=c i hi q;lia
def slot_live{t:o5}(r:t.place.toList.Pairwise (· < ·)){i j:Nat}(h:t.place[i]?=a7 j):t.slot j=.live i:=by unfold SetTable.slot;simp only[below_at r h];rw[o8<|by rw[h];simp]
def xF{t:o5}(d:t.dummies = #[]){j:Nat}(h:j∉t.place.toList):t.slot j=.empty:=by
 unfold SetTable.slot;have e:¬(t.place[G0 t.place j]?==a7 j)=a9:=λz=>h (by rw[p7]at z;have:=Array.mem_of_getElem? z;simpa using this);have l:SetTable.has t.dummies j=c5:=by rw[d];rfl
 simp only[e,p8,l,C8]
def go_spec{t:o5}(r:t.place.toList.Pairwise (· < ·))(x:t.dummies = #[])(hashAt:Nat->Int)(h:Int):∀(fuel n N:Nat),n<=N->N<n+fuel->(sq t.mask h N).j∉t.place.toList->(∀k,n<=k->k<N->(sq t.mask h k).j∈t.place.toList) ->(∀k,(sq t.mask h k).dummy=a8) ->((∀k i,n<=k->k<N->t.place[i]?=a7 (sq t.mask h k).j->hashAt i≠h)/\Qd t hashAt h fuel (sq t.mask h n)=a7 (.empty (sq t.mask h N).j a8)) \/∃n' i,n<=n'/\n' < N/\t.place[i]?=a7 (sq t.mask h n').j/\hashAt i=h/\(∀k i,n<=k->k<n'->t.place[i]?=a7 (sq t.mask h k).j->hashAt i≠h)/\Qd t hashAt h fuel (sq t.mask h n)=a7 (.candidate (sq t.mask h n').j i<|sq t.mask h<|n'+1):=by
 intro fuel;induction fuel with
 |zero=>intro n N h1 h2;lia
 |succ fuel A =>
  intro n N h1 h2 g l m;unfold Qd;by_cases e:n=N;subst e;rw[xF x g];exact .inl ⟨λk i a b=>by lia,by rw[m]⟩;have y:=l n (v7 _) b7;obtain⟨i,hi⟩:=LV y;have d:t.place[i]?=a7 (sq t.mask h n).j:=by rw[<-K2];exact hi
  rw[slot_live r d];dsimp only;have u:∀i',t.place[i']?=a7 (sq t.mask h n).j->i'=i:=λi' z=>by rw[<-below_at r z,below_at r d]
  by_cases q:hashAt i=h;simp only[p7,q,p9];exact .inr ⟨n,i,v7 _,b7,d,q,λk i a b=>by lia,rfl⟩;simp only[p7,q,p8];rcases A (n+1) N b7 b7 g (λk a b=>l k b7 b) m with⟨B,C⟩|⟨n',i',F,o,p,s,v,w⟩
  refine .inl ⟨λk i' a b c=>?_,C⟩;rcases LQ n k with z|z;exact B k i' z b c;have:k=n:=by lia
  subst this;rw[u i' c];exact q;refine .inr ⟨n',i',b7,o,p,s,λk f a b c=>?_,w⟩;rcases LQ n k with z|z;exact v k f z b c;have:k=n:=by lia
  subst this;rw[u f c];exact q
def sq_dummy(m:Nat)(h:Int):∀n,(sq m h n).dummy=a8
 | 0=>rfl
 |n+1=>by show (Ot m<|sq m h n).dummy=a8;unfold Ot;split;exact sq_dummy m h n;exact sq_dummy m h n
structure TOk(t:o5)(hs:List Int):Prop where
 msk:oQ t.mask
 len:t.place.size=hs.length
 nod:t.dummies = #[]
 ris:t.place.toList.Pairwise (· < ·)
 rng:∀j∈t.place.toList,j<=t.mask
 few:t.place.size*5<t.mask*3
 path:∀(i:Nat) (h:Int) (j:Nat),hs[i]?=a7 h->t.place[i]?=a7 j->∃n,(sq t.mask h n).j=j/\∀n',n' < n->(sq t.mask h n').j∈t.place.toList
def AI{m:Nat}{l:List Nat}(n:l.Nodup)(i:∀j∈l,j<=m)(g:l.length<=m):∃j,j<=m/\j∉l:=by refine MD λf=>?_;have a:∀j∈B7 (m+1),j∈l:=λj L=>MD λh=>f ⟨j,by have:=G1.mp L;lia,h⟩;have:=L2.nodup_le (B7<|m+1) l ON a;rw[Ob]at this;lia
def vJ{m:Nat}(f:oQ m){l:List Nat}(i:l.Nodup)(r:∀j∈l,j<=m)(g:l.length<=m)(h:Int):∃N,N<10*(m+15)/\(sq m h N).j∉l/\∀k,k<N->(sq m h k).j∈l:=by
 obtain⟨s,hs,u⟩:=AI i r g;obtain⟨n,o,M⟩:=ET f h hs;have:∀b n,n<b->(sq m h n).j∉l->∃N,N<=n/\(sq m h N).j∉l/\∀k,k<N->(sq m h k).j∈l:=by
  intro b;induction b with
  |zero=>intro n h;lia
  |succ b t=>intro n w p;by_cases q:∀k,k<n->(sq m h k).j∈l;exact⟨n,v7 _,p,q⟩;have:∃k,k<n/\(sq m h k).j∉l:=MD λz=>q λk e=>MD λv=>z ⟨k,e,v⟩;obtain⟨k,e,d⟩:=this;obtain⟨N,F,a,c⟩:=t k b7 d;exact⟨N,b7,a,c⟩
 obtain⟨N,F,a,c⟩:=this (n+1) n (K5 _) (by rw[M];exact u);exact⟨N,b7,a,c⟩
def TOk.empty{t:o5}{hs:List Int}(T:TOk t hs)(h:Int):∃N,N<10*(t.mask+15)/\(sq t.mask h N).j∉t.place.toList/\∀k,k<N->(sq t.mask h k).j∈t.place.toList:=by refine vJ T.msk (T.ris.imp λh=>A4 h) T.rng ?_ h;have:=T.few;rw[G7];rcases T.msk with e|e|e<;>lia
def zD{t:o5}(r:t.place.toList.Pairwise (· < ·)){j:Nat}(hj:j∉t.place.toList):(t.put j).1.place.toList=t.place.toList.take (G0 t.place j)++j::t.place.toList.drop (G0 t.place j)/\(t.put j).1.place.toList.Pairwise (· < ·):=by
 obtain⟨o,m,u⟩:=below_spec t.place r j;have e:(t.put j).1.place.toList=t.place.toList.take (G0 t.place j)++j::t.place.toList.drop (G0 t.place j):=by show (Pp t.place (G0 t.place j) j).toList=_;rw[SetTable.toList_insertAt]
 refine⟨e,?_⟩;rw[e,List.pairwise_append];refine⟨r.sublist<|Of ..,OR.mpr ⟨λx c=>?_,r.sublist<|List.drop_sublist ..⟩,λx c y O=>?_⟩;obtain⟨k,h⟩:=LV c;rw[Pu]at h;have d:t.place[G0 t.place j+k]?=a7 x:=by rw[<-K2];exact h
 obtain⟨g,f⟩:=Ln.mp d;have:=u _ g<|Oa _ _;rw[f]at this;rcases LQ j x with z|z;exact z;have:x=j:=by lia
 subst this;exact p5 (Qp c) hj;obtain⟨k,h⟩:=LV c;rw[List.getElem?_take]at h;split at h;rename_i l;have d:t.place[k]?=a7 x:=by rw[<-K2];exact h
 obtain⟨g,f⟩:=Ln.mp d;have h1:=m k g l;rw[f]at h1;rcases z7.mp O with rfl|O;exact h1;obtain⟨B,a⟩:=LV O;rw[Pu]at a;have b:t.place[G0 t.place j+B]?=a7 y:=by rw[<-K2];exact a
 obtain⟨i,n⟩:=Ln.mp b;have:=u _ i<|Oa _ _;rw[n]at this;lia;cases h
end Ht
namespace L2
open PySem PySem.Spec PyProof.Rows DL PySem.W
def im:Slot "set_iterator" "__iter__" "set_iterator.__iter__":=.of (owner:="set_iterator") (n:="__iter__") (by rw[typeLookup_type,builtinLookup_eq_fast];kernel_rfl) dO dO dO (by first|exact .inl dO|exact .inr<|by decide +kernel)<|by rw[isSubtype_type];kernel_rfl
def lG:entryFor table "set_iterator.__iter__" = a7 Builtin.«dict_keyiterator.__iter__»:=entryFor_alias (id':="dict_keyiterator.__iter__") (by kernel_rfl) rfl dO<|by kernel_rfl
theorem om(a:c6):argsOk "set_iterator.__iter__" ⟨[a],[]⟩:=by unfold argsOk;rw[signature?_of (id:="set_iterator.__iter__") (n:=['_','_','r','e','t','i','_','_']) (o:=['r','o','t','a','r','e','t','i','_','t','e','s']) (by kernel_rfl) nv];kernel_rfl
def iI(I:s.heap.get? it=a7 (fQ first i n a ep))(h:Q (.ref it) s):i0 (i4 prog w) A (j6<|.ref it) Q E s:=by
 have m:s.TypeIs (.ref it) "set_iterator":=⟨_,I,rfl⟩
 refine wpAny_pyIter_slot m im<|K6 im m lG (show i0 _ _ (ret<|.ref it) _ _ s from ?_)<|om _;exact u5 ⟨_,rfl,"set_iterator",_,m,bu.lookup,h⟩
def SetAt.at(S:SetAt h a o es ep t)(k:∀o,h.get? a=a7 o->h'.get? a=a7 o):SetAt h' a o es ep t:=⟨k _ S.ob,S.dt,S.ft⟩
def kR(d:w.params.followText "set-order" = a9)(S:SetAt s.heap a o es ep t)(h:Q (((o0 (w.params.setOrder a ep) es)[i]?).map λe=>(e.2,0)) s):i0 (i4 prog w) A (setNext a 0 i ep) Q E s:=by unfold setNext;refine t4<|LS S.ob S.dt S.ft ?_;unfold setsByText;refine t4<|t4<|NG<|u5 ?_;simp only[i4,d,p9,bne_self_eq_false,C8,p8];unfold setWalk;refine t4<|t4<|LS S.ob S.dt S.ft ?_;unfold setsByText;refine t4<|t4<|NG<|u5 ?_;simp only[i4,d,p9];exact t4<|NG<|u5<|u5 h
def xy(d:w.params.followText "set-order" = a9)(m:A.handled=a8)(f:a≠it):Walks prog w A it [it,a] [it] es.size (λi v=>((o0 (w.params.setOrder a ep) es).toList.map (·.2))[i]?=a7 v) (λi h=>h.get? it=a7 (fQ (j7 0) i es.size a ep)/\SetAt h a o es ep t) where
 sub:=λb d=>by simp at d;simp[d]
 frame:=λ_ _ _ st l=>⟨l it b9 _ st.1,st.2.at λo e=>l a b9 o e⟩
 item:=λi s Q E hi st c=>by
  have g:(o0 (w.params.setOrder a ep) es).size=es.size:=by have:=(mW (w.params.setOrder a ep) es).length_eq;simpa using this
  obtain⟨e,j⟩:∃e,(o0 (w.params.setOrder a ep) es)[i]?=a7 e:=⟨_,Lm<|by rw[g];exact hi⟩
  refine nF (slot:=0) (next:=0) (x:=e.2) st.1 st.2 (λA E Q q=>kR d st.2<|by rw[j];exact q) λh' h1 T=>c _ h' s.toks (by simp[j]) ⟨h1,st.2.at λo e=>(T.2 a f).trans e⟩ λb o d e=>(T.2 b<|by simpa using d).trans e
 done:=λs Q E st c=>by
  have g:(o0 (w.params.setOrder a ep) es).size=es.size:=by have:=(mW (w.params.setOrder a ep) es).length_eq;simpa using this
  refine fM (slot:=0) m st.1 st.2 (λA E Q q=>kR d st.2 ?_) λh' k=>c h' s.toks λb o d e=>k b o (by simpa using d) e;rw[PF<|by rw[g];exact v7 _];exact q
 self:=λ_ _ _ _ st c=>iI st.1 c
def uB{tt:d6}{ps:List Nat}(p:ps.Perm (B7 es.size))(y:A.handled=a8)(m:a≠it)(n:tt≠it):Walks prog w A it [it,a,tt] [it] es.size (λi v=>(ps.filterMap λj=>(es[j]?).map (·.2))[i]?=a7 v) (λi h=>h.get? it=a7 (fQ (.ref tt) i es.size a ep)/\SetAt h a o es ep t/\h.IsTuple tt (ps.map λ(k:Nat)=>j7 k).toArray) where
 sub:=λb f=>by simp at f;simp[f]
 frame:=λ_ _ _ st g=>⟨g it b9 _ st.1,st.2.1.at λo e=>g a b9 o e,let ⟨o,e,r⟩:=st.2.2;⟨o,g tt b9 _ e,r⟩⟩
 item:=λi s Q E hi st d=>by
  have u:ps.length=es.size:=by have:=p.length_eq;simpa using this
  have l:∀j∈ps,j<es.size:=λj L=>by have:=p.mem_iff.mp L;simpa using this
  have L:ps[i]?=a7 ps[i]:=A1 b7;have c:ps[i]<es.size:=l _<|KI _;have q:es[ps[i]]?=a7 es[ps[i]]:=Lm c;have x:(ps.filterMap λj=>(es[j]?).map (·.2))=ps.map λj=>(es.getD j default).2:=by
   clear L u p hi st d q c;induction ps with
   |nil=>rfl
   |cons j r z=>have L:=l j A9;rw[MA,Lm L,B9,<-z λk g=>l k<|C4 _ g];simp[LB,L]
  refine xN st.1 st.2.2 st.2.1 L q λh' h1 T=>d _ h' s.toks ?_ ⟨h1,st.2.1.at λo e=>(T.2 a m).trans e,let ⟨o,e,r⟩:=st.2.2;⟨o,(T.2 tt n).trans e,r⟩⟩ λb o f e=>(T.2 b<|by simpa using f).trans e;rw[x,F5,L];simp[LB,c]
 done:=λs Q E st d=>by
  have u:ps.length=es.size:=by have:=p.length_eq;simpa using this
  exact oK y st.1 st.2.2 st.2.1 (MU<|by lia) λh' k=>d h' s.toks λb o f e=>k b o eh e
 self:=λ_ _ _ _ st d=>iI st.1 d
def kT(b:w.params.followText "set-order" = c5)(d:t.led=a9)(hsz:es.size<=1)(S:SetAt s.heap a o es ep t)(h:Q (match es[G0 t.place slot]?,t.place[G0 t.place slot]? with|some (_,x),a7 j=>a7 (x,j+1)|_,_=>a8) s):i0 (i4 prog w) A (setNext a slot i ep) Q E s:=by unfold setNext;refine t4<|LS S.ob S.dt S.ft ?_;unfold setsByText;refine t4<|t4<|NG<|u5 ?_;simp only[i4,b,C8,p8];refine Mu (λz=>?_) λ_=>?_;have F:(!t.plain&&decide (es.size > 1))=a9:=z;simp at F;lia;refine t4<|show i0 (i4 prog w) A (if (!t.led && !es.isEmpty)=a9 then unsupported _ else pure ()) _ _ s from ?_;rw[d];simp only[Mg,Pf,C8,p8];exact u5<|u5 h
def ut(j k:Nat):G0 #[j] k=if j<k then 1 else 0:=by unfold G0;simp only[A5,D4,Ix];unfold NH;simp only[Nat.zero_lt_succ,p9];by_cases h:j<k;simp[h,NH];simp[h,NH]
def xz(d:w.params.followText "set-order" = c5)(c:t.led=a9)(hsz:es.size<=1)(p:A.handled=a8)(g:a≠it):Walks prog w A it [it,a] [it] es.size (λi v=>(es.toList.map (·.2))[i]?=a7 v) (λi h=>h.get? it=a7 (fQ (j7 (if i=0 then 0 else t.place.getD 0 0+1:Nat)) i es.size a ep)/\SetAt h a o es ep t) where
 sub:=λb d=>by simp at d;simp[d]
 frame:=λ_ _ _ st m=>⟨m it b9 _ st.1,st.2.at λo e=>m a b9 o e⟩
 item:=λi s Q E hi st f=>by
  obtain rfl:i=0:=by lia
  have ps:t.place.size=1:=by have:=st.2.ft;simp[N1]at this;lia
  obtain⟨j,L⟩:∃j,t.place = #[j]:=⟨t.place[0],by apply Array.ext (by simpa using ps);intro i h1 h2;simp at h2;subst h2;rfl⟩
  have l:es[0]?=a7 es[0]:=Lm hi;refine nF (slot:=0) (next:=j+1) (x:=es[0].2) st.1 st.2 (λA E Q q=>kT d c hsz st.2 ?_) λh' h1 T=>f _ h' s.toks ?_ ⟨?_,st.2.at λo e=>(T.2 a g).trans e⟩ λb o d e=>(T.2 b<|by simpa using d).trans e;rw[L,ut,p0<|MP _,l];exact q;rw[F5,K2,l];rfl;simpa [L]using h1
 done:=λs Q E st f=>by
  refine fM (slot:=if es.size=0 then 0 else t.place.getD 0 0+1) p st.1 st.2 (λA E Q q=>kT d c hsz st.2 ?_) λh' k=>f h' s.toks λb o d e=>k b o (by simpa using d) e;have ps:t.place.size=es.size:=by have:=st.2.ft;simp[N1]at this;lia
  by_cases z:es.size=0;have:es = #[]:=Array.eq_empty_of_size_eq_zero z;subst this;simpa using q;obtain⟨j,L⟩:∃j,t.place = #[j]:=⟨t.place[0],by apply Array.ext c4;intro i h1 h2;simp at h2;subst h2;rfl⟩
  have n:G0 t.place (if es.size=0 then 0 else t.place.getD 0 0+1)=1:=by rw[p0 z,L,ut];simp
  rw[n,PF<|by lia];exact q
 self:=λ_ _ _ _ st f=>iI st.1 f
def kU(c:w.params.followText "set-order" = c5)(d:t.led=a9)(b:(!t.plain&&decide (es.size > 1))=c5)(S:SetAt s.heap a o es ep t)(h:Q (match es[G0 t.place slot]?,t.place[G0 t.place slot]? with|some (_,x),a7 j=>a7 (x,j+1)|_,_=>a8) s):i0 (i4 prog w) A (setNext a slot i ep) Q E s:=by unfold setNext;refine t4<|LS S.ob S.dt S.ft ?_;unfold setsByText;refine t4<|t4<|NG<|u5 ?_;simp only[i4,c,C8,p8];refine Mu (λz=>?_) λ_=>?_;have F:(!t.plain&&decide (es.size > 1))=a9:=z;rw[b]at F;cases F;refine t4<|show i0 (i4 prog w) A (if (!t.led && !es.isEmpty)=a9 then unsupported _ else pure ()) _ _ s from ?_;rw[d];simp only[Mg,Pf,C8,p8];exact u5<|u5 h
def xA(d:w.params.followText "set-order" = c5)(c:t.led=a9)(j:(!t.plain&&decide (es.size > 1))=c5)(G:t.place.toList.Pairwise (· < ·))(I:A.handled=a8)(r:a≠it):Walks prog w A it [it,a] [it] es.size (λi v=>(es.toList.map (·.2))[i]?=a7 v) (λi h=>h.get? it=a7 (fQ (j7 (if i=0 then 0 else t.place.getD (i-1) 0+1:Nat)) i es.size a ep)/\SetAt h a o es ep t):=by
 have l:∀i,i<=t.place.size->G0 t.place (if i=0 then 0 else t.place.getD (i-1) 0+1)=i:=λi hi=>by
  obtain⟨n,f,u⟩:=Ht.below_spec t.place G<|if i=0 then 0 else t.place.getD (i-1) 0+1;have m:∀a b (B:a<t.place.size) (d:b<t.place.size),a<b->t.place[a]<t.place[b]:=λa b B d h=>by have:=PL.mp G a b (by simpa using B) (by simpa using d) h;simpa using this
  by_cases z:i=0;rw[o8 z]at n f u ⊢;rcases Nat.eq_zero_or_pos (G0 t.place 0)with q|q;rw[q,z];have:=f 0 b7 q;lia;rw[p0 z]at n f u ⊢;have p:i-1<t.place.size:=by lia
  have H:t.place.getD (i-1) 0=t.place[i-1]:=by simp[LB,p]
  rw[H]at n f u ⊢;rcases Oc (G0 t.place<|t.place[i-1]+1) i with q|q|q;have:=u (i-1) p b7;lia;exact q;have:=f i b7 q;have:=m (i-1) i p b7 b7;lia
 exact {
  sub:=λb d=>by simp at d;simp[d]
  frame:=λ_ _ _ st D=>⟨D it b9 _ st.1,st.2.at λo e=>D a b9 o e⟩
  item:=λi s Q E hi st g=>by
   have ps:t.place.size=es.size:=by have:=st.2.ft;simp[N1]at this;lia
   have F:i<t.place.size:=by lia
   have C:es[i]?=a7 es[i]:=Lm hi;have y:t.place[i]?=a7 t.place[i]:=Lm F;refine nF (next:=t.place[i]+1) (x:=es[i].2) st.1 st.2 (λA E Q q=>kU d c j st.2 ?_) λh' h1 T=>g _ h' s.toks ?_ ⟨?_,st.2.at λo e=>(T.2 a r).trans e⟩ λb o d e=>(T.2 b<|by simpa using d).trans e;rw[l i b7,C,y];exact q;rw[F5,K2,C];rfl;rw[p0<|Nat.succ_ne_zero i,Nat.add_sub_cancel,show t.place.getD i 0=t.place[i] by simp[LB,F]];exact h1
  done:=λs Q E st g=>by
   have ps:t.place.size=es.size:=by have:=st.2.ft;simp[N1]at this;lia
   refine fM I st.1 st.2 (λA E Q q=>kU d c j st.2 ?_) λh' k=>g h' s.toks λb o d e=>k b o (by simpa using d) e;rw[l es.size b7,PF<|v7 _];exact q
  self:=λ_ _ _ _ st g=>iI st.1 g }
def Dd(S:SetAt s.heap a o es ep t)(B:o.cls=.type "set")(x:t.plain=a9->es.size<=1\/t.place.toList.Pairwise (· < ·))(g:t.led = !w.params.followText "set-order")(hz:es.size<=sizeLine)(h:∀(it:d6) (h':d8) (d:Drawn) (vs:List c6) (fp:List d6) (St:Nat->d8->Prop),(∀b o,s.heap.get? b=a7 o->h'.get? b=a7 o)->vs.Perm (es.toList.map (·.2))->s.heap.objs.size<=it->it<h'.objs.size->(∀b∈fp,b=a\/s.heap.objs.size<=b/\b<h'.objs.size) -> (∀A':f8,A'.handled=a8->Walks prog w A' it fp [it] es.size (λi v=>vs[i]?=a7 v) St)->St 0 h'->Q (.ref it) { s with heap:=h',drawn:=d }):i0 (i4 prog w) A (j6<|.ref a) Q E s:=by
 have T:s.TypeIs (.ref a) "set":=⟨o,S.ob,B⟩
 have r:a<s.heap.objs.size:=z8 S.ob;refine wpAny_pyIter_slot T F.slot_set_iter<|K6 F.slot_set_iter T rz ?_<|F.args_set_iter_1 _;unfold Builtin.«frozenset.__iter__»;refine t4<|show i0 (i4 prog w) _ (pure a) _ _ s from u5 ?_;unfold Builtin.Frozenset.sizeOf;refine t4<|t4<|OV S.ob S.dt S.ft<|u5 ?_;unfold setDrawn;refine t4<|t4<|LS S.ob S.dt S.ft ?_;unfold setsByText;refine t4<|t4<|NG<|u5<|u5 ?_;by_cases p:(!w.params.followText "set-order" && (!t.plain&&decide (es.size > 1)))=a9;refine Mu (λ_=>?_) λz=>p5 p z;refine t4<|ug _ _ _ _ b9 λps d u=>?_;refine t4<|show i0 (i4 prog w) _ (newObj (.type "tuple")<|.seq (ps.map λ(i:Nat)=>j7 i).toArray) _ _ _ from KJ ?_ (by have e:=u.length_eq;rw[Ob]at e;show (ps.map λ(i:Nat)=>j7 i).toArray.size<=sizeLine;rw[A5,v5,e];exact hz);have S1:=S.at (h':=s.heap.push { cls:=.type "tuple",data:=.seq (ps.map λ(i:Nat)=>j7 i).toArray }) λo e=>w5 _ e;refine t4<|wpAny_setEpoch_of (s:={ s with heap:=_,drawn:=d }) S1.ob S1.dt S1.ft ?_;refine t4 (show i0 (i4 prog w) _ (newObj (.type "set_iterator")<|.fields #[.ref s.heap.objs.size,j7 0,.ref a,j7 es.size,j7 ep]) _ _ _ from KJ ?_<|by size_fits);refine u5 ⟨_,rfl,"set_iterator",_,⟨_,B6 _ rfl,rfl⟩,bu.lookup,?_⟩;have n:(s.heap.push { cls:=.type "tuple",data:=.seq (ps.map λ(i:Nat)=>j7 i).toArray }).objs.size=s.heap.objs.size+1:=KG ..;refine h _ _ d (ps.filterMap λj=>(es[j]?).map (·.2)) _ _ (λb o e=>w5 _<|w5 _ e) ?_ (by show s.heap.objs.size<=(s.heap.push _).objs.size;rw[n];exact NY _) (by show _<((s.heap.push _).push _).objs.size;rw[KG (h:=s.heap.push _)];exact K5 _) ?_ (λA' k=>uB (o:=o) (t:=t) (ep:=ep) u k (A4<|by rw[n];exact Mj r)<|A4<|by rw[n];exact K5 _) ⟨B6 _ rfl,S1.at λo e=>w5 _ e,⟨_,w5 _<|B6 _ rfl,rfl,_,rfl⟩⟩;refine(u.filterMap _).trans ?_;have y:(B7 es.size).filterMap (λj=>(es[j]?).map (·.2))=((B7 es.size).filterMap λj=>es[j]?).map (·.2):=by rw[List.map_filterMap]
 rw[y,filterMap_getElem?_range];intro b c;rw[KG,n];rcases z7.mp c with rfl|c;exact .inr ⟨by rw[n];exact NY _,by rw[n];exact K5 _⟩;rcases z7.mp c with rfl|c;exact .inl rfl;rw[Ky.mp c];exact .inr ⟨v7 _,Mj<|K5 _⟩;refine Mu (λz=>p5 z p) λ_=>?_;refine t4<|u5<|t4<|wpAny_setEpoch_of S.ob S.dt S.ft ?_;refine t4 (show i0 (i4 prog w) _ (newObj (.type "set_iterator")<|.fields #[j7 0,j7 0,.ref a,j7 es.size,j7 ep]) _ _ _ from KJ ?_<|by size_fits);refine u5 ⟨_,rfl,"set_iterator",_,⟨_,B6 _ rfl,rfl⟩,bu.lookup,?_⟩;have S1:=S.at (h':=s.heap.push<|fQ (j7 0) 0 es.size a ep) λo e=>w5 _ e;have l:∀b∈[s.heap.objs.size,a],b=a\/s.heap.objs.size<=b/\b<(s.heap.push<|fQ (j7 0) 0 es.size a ep).objs.size:=λb c=>by rcases z7.mp c with rfl|c;exact .inr ⟨v7 _,by rw[KG];exact K5 _⟩;exact .inl<|Ky.mp c
 by_cases c:w.params.followText "set-order" = a9;refine h _ _ s.drawn ((o0 (w.params.setOrder a ep) es).toList.map (·.2)) _ _ (λb o e=>w5 _ e) ((mW _ es).map _) (v7 _) (by rw[KG];exact K5 _) l (λA' k=>xy (o:=o) (t:=t) (ep:=ep) c k<|A4 r) ⟨B6 _ rfl,S1⟩;have f:w.params.followText "set-order" = c5:=by simpa using c
 have m:(!t.plain&&decide (es.size > 1))=c5:=by rw[f]at p;simpa using p
 have ag:es.size<=1\/t.place.toList.Pairwise (· < ·):=by by_cases q:t.plain=a9;exact x q;simp[q]at m;exact .inl m
 rcases ag with h1|C;refine h _ _ s.drawn (es.toList.map (·.2)) _ _ (λb o e=>w5 _ e) (Ni _) (v7 _) (by rw[KG];exact K5 _) l (λA' k=>xz (o:=o) (t:=t) (ep:=ep) f (by rw[g,f];rfl) h1 k<|A4 r) ⟨?_,S1⟩;rw[o8 rfl];exact B6 _ rfl;refine h _ _ s.drawn (es.toList.map (·.2)) _ _ (λb o e=>w5 _ e) (Ni _) (v7 _) (by rw[KG];exact K5 _) l (λA' k=>xA (o:=o) (t:=t) (ep:=ep) f (by rw[g,f];rfl) m C k<|A4 r) ⟨?_,S1⟩;rw[o8 rfl];exact B6 _ rfl
end L2
namespace L2
open PySem PySem.Spec PyProof.Rows DL PySem.W PySem.Calls PyProof.V
def Df(m:s.TypeIs (.ref a) "set")(h:Q c5 s):i0 (i4 prog w) A (QQ<|.ref a) Q E s:=by
 unfold QQ;refine t4<|N6 m F.slot_set_len.lookup ?_;generalize hi:("set.__len__":String)=t
 wp_delta
 rw[show splitId t=a7 ("set","__len__") by rw[<-hi];decide +kernel];rw[<-hi];refine t4<|N8 (T:="set") (b:=a9) m sub_set_self<|Mu (λz=>p5 z<|by decide) λ_=>Mu (λ_=>t4<|Nb m<|u5 h) λz=>p5 dO z
def yd{R:Result->f9->Prop}(N:A.handled=a8)(S:SetAt s.heap a o es ep t)(B:o.cls=.type "set")(G:t.plain=a9->es.size<=1\/t.place.toList.Pairwise (· < ·))(v:t.led = !w.params.followText "set-order")(hz:es.size<=sizeLine){D:d6}{c₀:Nat} (p:D≠a) (L:s.heap.get? D=a7 { cls:=.type "list",data:=.seq #[] c₀ }) (res:c6)(Y:∀h' tk d vs c,(∀b u,b≠D->s.heap.get? b=a7 u->h'.get? b=a7 u)->h'.get? D=a7 { cls:=.type "list",data:=.seq vs c }->vs.toList.Perm (es.toList.map (·.2))->R (.ok<|.ret res) { s with heap:=h',toks:=tk,drawn:=d }):i0 (i4 prog w) A.in1 (PR (.ref D) (.ref a) res)
   (λfin s'=>match fin with|.done f=>R (.ok f) s'|.again c'=>c'.quiet=a9/\k9 (i4 prog w) A c' R s') (λe s'=>R (.error e) s') s:=by
 have ld:D<s.heap.objs.size:=z8 L;have Z:s.TypeIs (.ref a) "set":=⟨o,S.ob,B⟩
 unfold PR;refine t4<|Nb Z ?_;have Q:Builtin.List.listSameRef (.ref D) (.ref a)=c5:=by simp[Builtin.List.listSameRef,p]
 have T:(MH "set" == MH "list")=c5:=by decide
 have U:(MH "set" == MH "tuple")=c5:=by decide
 simp only[Q,T,U,Bool.or_false,C8,p8];refine t4<|Dd S B G v hz λit h1 d vs X St H pv I ab C W st=>?_;have M:D∉X:=λz=>by
  rcases C D z with e|⟨e,_⟩
  exact p e;exact p5 ld<|Mp.mpr e
 have lv:vs.length=es.size:=by have:=pv.length_eq;simpa using this
 have K:∀(h:d8) (g:Nat),St 0 h->(∀b u,b≠D->h1.get? b=a7 u->h.get? b=a7 u)->h.get? D=a7 { cls:=.type "list",data:=.seq #[] g } -> k9 (i4 prog w) A (.builtin "list.extend.loop" ⟨[.ref D,.ref it,res],[]⟩) R { s with heap:=h,drawn:=d }:=λh g J kk y=>by
  refine codeAny_extend_loopS (W A.in1<|by simp[N]).toS hz D M res es.size 0 _ #[] g rfl (B0 _) J y (ItemsOf.nil _) λs' acc c' O m j=>?_;rw[Moved.eq_with O];have V:acc.toList=vs:=by
   apply List.ext_getElem?;intro i;by_cases hi:i<es.size;have E:i<acc.size:=by rw[j.1];exact hi
   have h1:acc[i]?=a7 acc[i]:=Lm E;rw[K2,h1];exact(j.2 i _ h1).symm;rw[MU (by rw[G7,j.1];lia),MU<|by lia]
  refine Y s'.heap s'.toks d acc c' (λb u k e=>O.heap b u (λz=>?_)<|kk b u k<|H b u e) m (by rw[V];exact pv);rcases z7.mp z with P|z;exact k P;rw[Ky.mp z]at e;exact p5 (z8 e)<|Mp.mpr I
 have l:=H _ _ L;refine t4<|J6<|Df (s:={ s with heap:=h1,drawn:=d }) ⟨o,H _ _ S.ob,B⟩ ?_;refine Mu (λz=>?_) λ_=>u5 ⟨OD F.plain_extend_loop _,K h1 c₀ st (λ_ _ _ e=>e) l⟩;refine t4 (M9 (t4 (show i0 (i4 prog w) _ (updateSeq D (·.push .none) >>= λ_=>updateSeq D (·.pop)) _ _ _ from t4<|wpAny_updateSeq l rfl ?_)));have n:=Lu (F9 (·.push G6)) l rfl;refine wpAny_updateSeq (hz:=by seq_fits) n rfl ?_;have x:=Lu (F9 (·.pop)) n rfl;have r:∀b,b≠D->((h1.update D (F9 (·.push G6))).update D (F9 (·.pop))).get? b=h1.get? b:=λb k=>by rw[MB _ _<|A8 k,MB _ _<|A8 k]
 refine u5 ⟨OD F.plain_extend_loop _,K _ _ ((W A N).frame 0 _ _ st λb k u e=>(r b λq=>M<|q ▸ k).trans e) (λb u k e=>(r b k).trans e) x⟩
def xE{Q:c6->f9->Prop}(H:A.handled=a8)(S:SetAt s.heap a o es ep t)(G:o.cls=.type "set")(y:t.plain=a9->es.size<=1\/t.place.toList.Pairwise (· < ·))(j:t.led = !w.params.followText "set-order")(hz:es.size<=sizeLine)(h:∀h' tk d D (vs:List c6),(∀b u,s.heap.get? b=a7 u->h'.get? b=a7 u)->s.heap.get? D=a8->h'.get? D=a7 { cls:=.type "list",data:=.seq vs.toArray }->vs.Perm (es.toList.map (·.2)) -> i0 (i4 prog w) A.in1 (call (.builtin "list.sort") [.ref D]) (λ_ s'=>Q (.ref D) s') E { s with heap:=h',toks:=tk,drawn:=d }):i0 (i4 prog w) A (call (.builtin "sorted") [.ref a]) Q E s:=by
 have I:a<s.heap.objs.size:=z8 S.ob;refine call_function_entry kind_sorted plain_sorted entry_sorted (args_sorted1 _) ?_;unfold Builtin.«sorted»;refine t4 (m:=checkCount "sorted" 1 1 _)<|u5 ?_;unfold collect;refine t4<|t4<|wpAny_runValue<|MM F.entry_proto_collect ?_;rw[OW F.plain_proto_collect _];refine(show i0 (i4 prog w) _ (newList [] >>= λl=>again<|.builtin "list.__iadd__" ⟨[l,.ref a],[]⟩) _ _ s from t4<|KJ<|u5 ⟨OD F.plain_list_iadd _,MM F.entry_list_iadd ?_⟩);rw[OW F.plain_list_iadd _];have S1:=S.at (h':=s.heap.push { cls:=.type "list",data:=.seq ([]:List c6).toArray }) λo e=>w5 _ e;have B:=yd (prog:=prog) (A:=A.in1) (s:={ s with heap:=s.heap.push { cls:=.type "list",data:=.seq ([]:List c6).toArray } }) (D:=s.heap.objs.size) (c₀:=0) (res:=.ref s.heap.objs.size) (R:=λr s'=>∃h' tk d vs c,r=.ok (.ret<|.ref s.heap.objs.size)/\s'={ s with heap:=h',toks:=tk,drawn:=d }/\(∀b u,s.heap.get? b=a7 u->h'.get? b=a7 u)/\h'.get? s.heap.objs.size=a7 { cls:=.type "list",data:=.seq vs c }/\vs.toList.Perm (es.toList.map (·.2))) (by simp[H]) S1 G y j hz (Nc I) (B6 _ rfl) λh' tk d vs c k g p=>⟨h',tk,d,vs,c,rfl,rfl,λb u e=>k b u (A4<|z8 e)<|w5 _ e,g,p⟩
 have i:∀h' tk d (vs:Array c6) c,(∀b u,s.heap.get? b=a7 u->h'.get? b=a7 u)->h'.get? s.heap.objs.size=a7 { cls:=.type "list",data:=.seq vs c }->vs.toList.Perm (es.toList.map (·.2)) -> i0 (i4 prog w) A.in1 (do let ob <-load s.heap.objs.size;match ob.data with|.seq xs _=>pure xs.toList|_=>unsupported "internal:collect":Sem (List c6)) (λxs s'=>i0 (i4 prog w) A.in1 (do let l <-newList xs;let _ <-i9 [l] (call (.builtin "list.sort") [l] []);ret l) (λn s'=>∃v,n=Fin.done (Flow.ret v)/\Q v s') E s') E { s with heap:=h',toks:=tk,drawn:=d }:=λh' tk d vs c C g p=>by
  refine t4 (wpAny_load g<|u5<|t4<|MK ?_<|by rw[p.length_eq];simpa using hz);have J:s.heap.objs.size<h'.objs.size:=z8 g;refine t4<|J6<|D3 (h (h'.push { cls:=.type "list",data:=.seq vs.toList.toArray }) tk d h'.objs.size vs.toList (λb u e=>w5 _<|C b u e) ?_ (B6 _ rfl) p) (λ_ s' q=>u5 ⟨_,rfl,q⟩) λ_ _ z=>z;cases q:s.heap.get? h'.objs.size with
  |none=>rfl
  |some o'=>exact p5 (z8<|C _ _ q)<|E8 _
 refine D3 B (λn s' x=>?_) λe s' ⟨_,_,_,_,_,z,_⟩=>by cases z
 cases n with
 |done f=>obtain⟨h',tk,d,vs,c,z,rfl,C,g,p⟩:=x;cases z;exact i h' tk d vs c C g p
 |again c'=>refine⟨x.1,Mq x.2 ?_⟩;rintro r K ⟨h',tk,d,vs,c,z,e,C,g,p⟩;subst z e;exact i h' tk d vs c C g p
end L2
namespace L2
open PySem PySem.Spec PyProof.Rows DL PySem.W
def DJ(M:t7)(d:D)(xs:List c8):Prop:=(∃n,d=.ref n/\ah M n (xs.map .str))\/d=.tup (xs.map .str)
def t5.drew(I:t5 X pins σ H s):t5 X pins σ H { s with drawn:=d }:=⟨I.ok,I.os,I.bare,I.base,I.loc,I.cell,I.free,I.freeC,I.pin,I.hok,I.len⟩
end L2
namespace L2
open PySem PySem.Spec PyProof.Rows DL PySem.Builtin PySem.Builtin.Str PySem.StrLaws
end L2
namespace L2
open PySem PySem.Spec PyProof.Rows DL PySem.W
end L2
namespace Ht
open PySem
def LN(ow:Array (Option Nat))(s:Nat):Prop:=∃i,ow[s]?=a7 (a7 i)
def getD_none(hs:s<ow.size):(ow.getD s<|a7 0).isNone=a9↔¬LN ow s:=by
 have e:ow[s]?=a7 ow[s]:=Lm hs;have l:ow.getD s (a7 0)=ow[s]:=by simp[LB,hs]
 rw[l];unfold LN;rw[e];cases ow[s]<;>simp
def AO(hz:ow.size=m+1)(h:Int):∀(fuel k0 k:Nat),k0<=k->k<k0+fuel->¬LN ow (fB m h k).1->(∀n,n<gk m h k0->LN ow (sq m h n).j) ->∃N,PD m ow fuel (fB m h k0).1 (fB m h k0).2=a7 (sq m h N).j/\¬LN ow (sq m h N).j/\∀n,n<N->LN ow (sq m h n).j:=by
 intro fuel;induction fuel with
 |zero=>intro k0 k h1 h2;lia
 |succ fuel l =>
  intro k0 k h1 h2 c d;have p:=uQ m h k0;have u:KM m (fB m h k0).1<=m/\(fB m h k0).1<=KM m (fB m h k0).1:=by unfold KM;split<;>lia
  unfold PD;cases f:(B7<|KM m (fB m h k0).1+1-(fB m h k0).1).find? λk=>(ow.getD ((fB m h k0).1+k)<|a7 0).isNone with
  |some r =>
   have i:=List.find?_some f;have b:=List.mem_of_find?_eq_some f;rw[G1]at b;refine⟨gk m h k0+r,by rw[zq m h k0 r<|by lia],?_,λn g=>?_⟩;rw[zq m h k0 r<|by lia];exact(getD_none<|by lia).mp i;rcases LQ n (gk m h k0)with q|q;exact d n q;obtain⟨r',rfl⟩:∃r',n=gk m h k0+r':=⟨n-gk m h k0,b7⟩
   rw[zq m h k0 r'<|by lia];refine MD λo=>?_;have t:r' < r:=by lia
   have z:=(getD_none (ow:=ow) (s:=(fB m h k0).1+r')<|by lia).mpr o;have:=List.find?_range_eq_some.mp f;have:=this.2.2 r' t;rw[z]at this;exact p5 this<|by simp
  |none =>
   have a:∀r,r<=KM m (fB m h k0).1-(fB m h k0).1->LN ow ((fB m h k0).1+r):=λr i=>by refine MD λo=>?_;have z:=(getD_none (ow:=ow) (s:=(fB m h k0).1+r)<|by lia).mpr o;have:=List.find?_eq_none.mp f r (G1.mpr<|by lia);exact this z
   have v:k0≠k:=λe=>by subst e;exact c<|a 0<|B0 _
   refine l (k0+1) k b7 b7 c λn g=>?_;unfold gk at g;rcases LQ n (gk m h k0)with q|q;exact d n q;obtain⟨r',rfl⟩:∃r',n=gk m h k0+r':=⟨n-gk m h k0,b7⟩
   rw[zq m h k0 r'<|by lia];exact a r'<|by lia
structure Laid(m:Nat)(hs:List Int)(ow:Array (Option Nat))(k:Nat):Prop where
 sz:ow.size=m+1
 lt:∀s i:Nat,ow[s]?=a7 (a7 i)->i<k
 inj:∀s s' i:Nat,ow[s]?=a7 (a7 i)->ow[s']?=a7 (a7 i)->s=s'
 all:∀i:Nat,i<k->∃s:Nat,ow[s]?=a7 (a7 i)
 path:∀(s i:Nat) (h:Int),ow[s]?=a7 (a7 i)->hs[i]?=a7 h->∃n,(sq m h n).j=s/\∀n',n' < n->LN ow (sq m h n').j
def Laid.room(L:Laid m hs ow k)(q:k<=m):∃s,s<=m/\¬LN ow s:=by
 refine MD λo=>?_;have c:∀s,s<=m->LN ow s:=λs hs=>MD λz=>o ⟨s,hs,z⟩;have d:∀s,s∈B7 (m+1)->((ow.getD s a8).getD 0)∈B7 k:=λs u=>by
  obtain⟨i,e⟩:=c s (by have:=G1.mp u;lia);have:ow.getD s a8=a7 i:=by obtain⟨g,z⟩:=Ln.mp e;simp[LB,g,z]
  rw[this];exact G1.mpr<|L.lt s i e
 have X:((B7<|m+1).map λs=>(ow.getD s a8).getD 0).Nodup:=by
  rw[L5,K0];have base:=ON (n:=m+1);rw[L5]at base;refine base.imp_of_mem λ{a b} ha hb hne e=>hne ?_;obtain⟨i,f⟩:=c a (by have:=G1.mp ha;lia);obtain⟨j,h⟩:=c b (by have:=G1.mp hb;lia);have t:ow.getD a a8=a7 i:=by obtain⟨g,z⟩:=Ln.mp f;simp[LB,g,z]
  have l:ow.getD b a8=a7 j:=by obtain⟨g,z⟩:=Ln.mp h;simp[LB,g,z]
  rw[t,l]at e;have:i=j:=e;subst this;exact L.inj a b i f h
 have:=L2.nodup_le _ (B7 k) X λx p=>by obtain⟨s,u,rfl⟩:=w9.mp p;exact d s u
 rw[v5,Ob,Ob]at this;lia
def Laid.step(D:oQ m)(L:Laid m hs ow k)(B:k<=m)(A:hs[k]?=a7 h):∃j,PD m ow (N4 m) (Mh h % (m+1)) (Mh h)=a7 j/\Laid m hs (ow.setIfInBounds j<|a7 k) (k+1):=by
 obtain⟨s,g,l⟩:=L.room B;obtain⟨H,C,e⟩:=Eu D h g;obtain⟨N,x,M,y⟩:=AO L.sz h (N4 m) 0 H (B0 _) (by unfold N4;lia) (by rw[e];exact l) λn E=>p5 E<|MP _;refine⟨(sq m h N).j,x,?_⟩;have G:(sq m h N).j<ow.size:=by have:=zp (m:=m) h N;rw[L.sz];lia
 have a:(ow.setIfInBounds (sq m h N).j<|a7 k)[(sq m h N).j]?=a7 (a7 k):=by rw[Array.getElem?_setIfInBounds_self_of_lt G]
 have r:∀s,s≠(sq m h N).j->(ow.setIfInBounds (sq m h N).j<|a7 k)[s]?=ow[s]?:=λs f=>Array.getElem?_setIfInBounds_ne<|A8 f;have w:∀s,LN ow s->LN (ow.setIfInBounds (sq m h N).j<|a7 k) s:=λs ⟨i,z⟩=>by by_cases q:s=(sq m h N).j;subst q;exact⟨k,a⟩;exact⟨i,by rw[r s q];exact z⟩
 have d:∀s i,(ow.setIfInBounds (sq m h N).j<|a7 k)[s]?=a7 (a7 i)->(s=(sq m h N).j/\i=k)\/(s≠(sq m h N).j/\ow[s]?=a7 (a7 i)):=λs i z=>by by_cases q:s=(sq m h N).j;subst q;rw[a]at z;cases z;exact .inl ⟨rfl,rfl⟩;rw[r s q]at z;exact .inr ⟨q,z⟩
 refine⟨by rw[Array.size_setIfInBounds];exact L.sz,λs i z=>?_,λs s' i z F=>?_,λi hi=>?_,λs i h' z b=>?_⟩;rcases d s i z with⟨_,e⟩|⟨_,z⟩
 lia;have:=L.lt s i z;lia;rcases d s i z with⟨t,p⟩|⟨_,z⟩
 rcases d s' i F with⟨R,_⟩|⟨_,F⟩
 rw[t,R];have:=L.lt s' i F;lia;rcases d s' i F with⟨_,J⟩|⟨_,F⟩
 have:=L.lt s i z;lia;exact L.inj s s' i z F;by_cases q:i=k;subst q;exact⟨_,a⟩;obtain⟨s,z⟩:=L.all i b7;refine⟨s,?_⟩;rw[r s λe=>M ⟨i,by rw[<-e];exact z⟩];exact z;rcases d s i z with⟨t,p⟩|⟨_,z⟩
 subst t p;rw[A]at b;cases b;exact⟨N,rfl,λo c=>w _<|y o c⟩;obtain⟨n,u,v⟩:=L.path s i h' z b;exact⟨n,u,λo c=>w _<|v o c⟩
def FL(l:oQ m)(hs:List Int)(q:hs.length<=m):∃ow,SetTable.layClean m hs.toArray=a7 ow/\Laid m hs ow hs.length:=by
 have start:Laid m hs (Array.replicate (m+1) a8) 0:=by
  have n:∀s i:Nat,(Array.replicate (m+1) (a8:Option Nat))[s]?≠a7 (a7 i):=λs i z=>by rw[Array.getElem?_replicate]at z;split at z<;>cases z
  exact⟨b9,λs i z=>p5 z<|n s i,λs _ i z=>p5 z<|n s i,λi hi=>p5 hi<|MP _,λs i _ z=>p5 z<|n s i⟩
 have c:∀(aO:List Int) (k:Nat) (ow:Array (Option Nat)),hs.drop k=aO->k+aO.length=hs.length->Laid m hs ow k -> ∃o,aO.foldl (init:=a7 (ow,k)) (λacc h=>do
    let (owner,k) <-acc
    let j <-PD m owner (N4 m) (Mh h % (m+1)) (Mh h)
    pure (owner.setIfInBounds j<|a7 k,k+1))=a7 (o,hs.length)/\Laid m hs o hs.length:=by
  intro aO;induction aO with
  |nil =>
   intro k ow e a L;have:k=hs.length:=by simpa using a
   subst this;exact⟨ow,rfl,L⟩
  |cons h aO p =>
   intro k ow e a L;have d:hs[k]?=a7 h:=by
    have:(hs.drop k)[0]?=a7 h:=by rw[e];rfl
    rw[Pu]at this;simpa using this
   rw[D4]at a;obtain⟨j,f,b⟩:=L.step l b7 d;obtain⟨o,g1,g⟩:=p (k+1) (ow.setIfInBounds j<|a7 k) (by
    have:hs.drop (k+1)=(hs.drop k).drop 1:=by rw[List.drop_drop]
    rw[this,e];rfl) b7 b
   refine⟨o,?_,g⟩;rw[List.foldl_cons];simp only[Option.bind_eq_bind,Option.bind_some,f,Option.pure_def];exact g1
 obtain⟨ow,g1,g⟩:=c hs 0 _ rfl b9 start;refine⟨ow,?_,g⟩;unfold SetTable.layClean;rw[<-Array.foldl_toList];have:hs.toArray.toList=hs:=by simp
 rw[this,g1];rfl
def mY{α:Type}[DecidableEq α]:∀{l l':List α},l.Nodup->l'.Nodup->(∀x,x∈l↔x∈l')->l.Perm l'
 | [],l',_,_,h=>by have:l'=[]:=List.eq_nil_iff_forall_not_mem.mpr λx hx=>p5 ((h x).mpr hx) b9;rw[this]
 |x::l,l',n,n',h=>by have hx:x∈l':=(h x).mp A9;have n1:=KN.mp n;refine(Pe x<|mY n1.2 (n'.erase x) λy=>?_).trans (List.perm_cons_erase hx).symm;by_cases e:y=x;subst e;constructor;intro z;exact p5 z n1.1;intro z;exact p5 z<|List.Nodup.not_mem_erase n';rw[List.mem_erase_of_ne e,<-h y,z7];exact⟨.inr,λz=>z.resolve_left e⟩
noncomputable def bP(m:Nat)(ow:Array (Option Nat)):List (Nat×Nat):=(B7<|m+1).filterMap λj=>(ow.getD j a8).map (j,·)
def fN(L:Laid m hs ow k):(s,i)∈bP m ow↔ow[s]?=a7 (a7 i):=by
 unfold bP;rw[OS];constructor;rintro⟨j,hj,e⟩;have h:j<ow.size:=by rw[L.sz];exact G1.mp hj
 have l:ow.getD j a8=ow[j]:=by simp[LB,h]
 rw[l]at e;cases q:ow[j] with
 |none=>rw[q]at e;cases e
 |some i'=>rw[q]at e;have:=C1 e;cases this;rw[Lm h,q]
 intro e;obtain⟨g,z⟩:=Ln.mp e;refine⟨s,G1.mpr (by rw[<-L.sz];exact g),?_⟩;have l:ow.getD s a8=ow[s]:=by simp[LB,g]
 rw[l,z];rfl
def tL(m:Nat)(ow:Array (Option Nat)):((bP m ow).map (·.1)).Pairwise (· < ·):=by unfold bP;rw[K0];refine List.Pairwise.filterMap (R:=(· < ·)) _ (λa c h b d e f=>?_)<|List.pairwise_lt_range;obtain⟨x,_,rfl⟩:=PH.mp d;obtain⟨y,_,rfl⟩:=PH.mp f;exact h
def tM(L:Laid m hs ow hs.length):((bP m ow).map (·.2)).Perm (B7 hs.length):=by
 have n:(bP m ow).Nodup:=by have:=tL m ow;rw[K0]at this;exact this.imp λh e=>by rw[e]at h;exact E8 _ h
 have X:((bP m ow).map (·.2)).Nodup:=by rw[L5,K0];rw[L5]at n;refine n.imp_of_mem λ{a b} ha hb hne e=>hne ?_;obtain⟨s,i⟩:=a;obtain⟨s',i'⟩:=b;have c:i=i':=e;subst c;rw[L.inj s s' i ((fN L).mp ha)<|(fN L).mp hb]
 refine mY X ON λi=>?_;rw[G1,List.mem_map];constructor;rintro⟨⟨s,i'⟩,hm,rfl⟩;exact L.lt s i'<|(fN L).mp hm;intro hi;obtain⟨s,e⟩:=L.all i hi;exact⟨(s,i),(fN L).mpr e,rfl⟩
def qZ{α:Type}{l:List α}{p:Nat}{x y:α}(b:p<=l.length){i:Nat}(h:(l.take p++x::l.drop p)[i]?=a7 y):(i<p/\l[i]?=a7 y)\/(i=p/\y=x)\/(p<i/\l[i-1]?=a7 y):=by
 have lt:(l.take p).length=p:=by rw[Li];lia
 rcases Oc i p with q|q|q;rw[G4 b7,List.getElem?_take,o8 q]at h;exact .inl ⟨q,h⟩;subst q;rw[LK b7,lt,LD]at h;exact .inr<|.inl ⟨rfl,(C1 h).symm⟩;rw[LK b7,lt]at h;obtain⟨r,a⟩:∃r,i-p=r+1:=⟨i-p-1,b7⟩
 rw[a,MC,Pu]at h;exact .inr<|.inr ⟨q,by rw[show i-1=p+r by lia];exact h⟩
structure TPre(t:o5)(hs:List Int):Prop where
 msk:oQ t.mask
 len:t.place.size=hs.length
 nod:t.dummies = #[]
 ris:t.place.toList.Pairwise (· < ·)
 rng:∀j∈t.place.toList,j<=t.mask
 path:∀(i:Nat) (h:Int) (j:Nat),hs[i]?=a7 h->t.place[i]?=a7 j->∃n,(sq t.mask h n).j=j/\∀n',n' < n->(sq t.mask h n').j∈t.place.toList
def put_pre(T:TOk t hs)(h2:(sq t.mask h N).j∉t.place.toList)(v:∀k,k<N->(sq t.mask h k).j∈t.place.toList)(w:Bool):(t.put (sq t.mask h N).j).2<=hs.length/\TPre { (t.put (sq t.mask h N).j).1 with plain:=w } (hs.take (t.put (sq t.mask h N).j).2++h::hs.drop (t.put (sq t.mask h N).j).2):=by
 obtain⟨e,r⟩:=zD T.ris h2;obtain⟨g,_,_⟩:=below_spec t.place T.ris (sq t.mask h N).j;have l:G0 t.place (sq t.mask h N).j<=hs.length:=by rw[<-T.len];exact g
 refine⟨l,⟨T.msk,?_,?_,r,λj L=>?_,λi h' j d L=>?_⟩⟩;have:=q9 Lq e;rw[G7,E2,D4,Li,MQ,G7]at this;show (t.put (sq t.mask h N).j).1.place.size=(hs.take (G0 t.place (sq t.mask h N).j)++h::hs.drop (G0 t.place (sq t.mask h N).j)).length;rw[this,E2,D4,Li,MQ,T.len];show (if SetTable.has t.dummies (sq t.mask h N).j then SetTable.eraseAt t.dummies (G0 t.dummies (sq t.mask h N).j)else t.dummies) = #[];rw[T.nod];rfl;have a:j∈(t.put (sq t.mask h N).j).1.place.toList:=L;rw[e]at a;rcases J7.mp a with q|q;exact T.rng j<|Py q;rcases z7.mp q with q|q;rw[q];exact zp h N;exact T.rng j<|Qp q;have s:∀x,x∈t.place.toList->x∈(t.put (sq t.mask h N).j).1.place.toList:=λx m=>by rw[e];rw[<-Qr (G0 t.place (sq t.mask h N).j) t.place.toList]at m;rcases J7.mp m with q|q;exact NK _ q;exact E3 _<|C4 _ q
 have a:(t.put (sq t.mask h N).j).1.place.toList[i]?=a7 j:=by rw[K2];exact L
 rw[e]at a;have o:∀k,hs[k]?=a7 h'->t.place[k]?=a7 j->∃n,(sq t.mask h' n).j=j/\∀f,f < n->(sq t.mask h' f).j∈(t.put (sq t.mask h N).j).1.place.toList:=λk y A=>by obtain⟨n,p,u⟩:=T.path k h' j y A;exact⟨n,p,λf c=>s _<|u f c⟩
 rcases qZ (by rw[G7];exact g) a with⟨q,z⟩|⟨q,z⟩|⟨q,z⟩
 rcases qZ l d with⟨b,F⟩|⟨b,F⟩|⟨b,F⟩
 exact o i F (by rw[<-K2];exact z);lia;lia;rcases qZ l d with⟨b,F⟩|⟨b,F⟩|⟨b,F⟩
 lia;subst z F;exact⟨N,rfl,λf c=>s _<|v f c⟩;lia;rcases qZ l d with⟨b,F⟩|⟨b,F⟩|⟨b,F⟩
 lia;lia;exact o (i-1) F<|by rw[<-K2];exact z
def TPre.ok(T:TPre t hs)(h:t.tooFull=c5):TOk t hs:=by refine⟨T.msk,T.len,T.nod,T.ris,T.rng,?_,T.path⟩;unfold SetTable.tooFull O8 at h;rw[T.nod]at h;simp at h;simpa using h
def TPre.anew(T:TPre t hs)(h:t.tooFull=a9)(M:(hs.length-1)*5<t.mask*3)(D:hs.length<=64):Qf (ND hs.length)<=sizeLine/\∃t2 ord,t.relaid hs.toArray (ND hs.length)=a7 (t2,ord)/\ord.toList.Perm (B7 hs.length)/\TOk t2 (ord.toList.map λi=>hs.getD i 0)/\t2.led=t.led:=by
 have u:hs.length*5 ≥ t.mask*3:=by unfold SetTable.tooFull O8 at h;rw[T.nod,T.len]at h;simpa using h
 have C:∃m,Qf (ND hs.length)=m+1/\oQ m/\hs.length<=m/\hs.length*5<m*3:=by
  rcases T.msk with e|e|e;have:hs.length=5:=by lia
  rw[this];exact⟨31,dO,.inr<|.inl rfl,b0,b0⟩;have:hs.length=19:=by lia
  rw[this];exact⟨127,dO,.inr<|.inr rfl,b0,b0⟩;lia
 obtain⟨m,e,g,H,f⟩:=C;refine⟨by rw[e,KW];rcases g with rfl|rfl|rfl<;>lia,?_⟩;obtain⟨ow,B,L⟩:=FL g hs H;unfold SetTable.relaid;rw[e,Nat.add_sub_cancel];unfold SetTable.laid;rw[B];refine⟨_,_,rfl,?_,?_,rfl⟩;show ((bP m ow).map (·.2)).toArray.toList.Perm _;simpa using tM L;have l:((bP m ow).map (·.1)).toArray.toList=(bP m ow).map (·.1):=by simp
 have K:((bP m ow).map (·.2)).toArray.toList=(bP m ow).map (·.2):=by simp
 have J:(bP m ow).length=hs.length:=by have:=(tM L).length_eq;simpa using this
 refine⟨g,?_,rfl,?_,λj d=>?_,?_,λi h' j E d=>?_⟩;show ((bP m ow).map (·.1)).toArray.size=(((bP m ow).map (·.2)).toArray.toList.map λi=>hs.getD i 0).length;simp;show ((bP m ow).map (·.1)).toArray.toList.Pairwise _;rw[l];exact tL m ow;have a:j∈((bP m ow).map (·.1)).toArray.toList:=d;rw[l]at a;obtain⟨⟨s,i⟩,o,rfl⟩:=w9.mp a;have:=(Ln.mp<|(fN L).mp o).1;rw[L.sz]at this;show s<=m;lia;show ((bP m ow).map (·.1)).toArray.size*5<m*3;rw[A5,v5,J];exact f;have b:(((bP m ow).map (·.2)).map λi=>hs.getD i 0)[i]?=a7 h':=by rw[<-K];exact E
 have a:((bP m ow).map (·.1))[i]?=a7 j:=by rw[<-l,K2];exact d
 rw[B8,F5]at b;rw[F5]at a;cases q:(bP m ow)[i]? with
 |none=>rw[q]at a;cases a
 |some p =>
  obtain⟨s,k⟩:=p;rw[q]at b a;have y:s=j:=C1 a;have A:hs.getD k 0=h':=C1 b;subst y;have c:=(fN L).mp<|Kw q;have v:=L.lt s k c;have G:hs[k]?=a7 h':=by rw[A1 v];rw[<-A];simp[List.getD,v]
  obtain⟨n,F,x⟩:=L.path s k h' c G;refine⟨n,F,λw r=>?_⟩;obtain⟨I,z⟩:=x w r;show (sq m h' w).j∈((bP m ow).map (·.1)).toArray.toList;rw[l];exact w9.mpr ⟨(_,I),(fN L).mpr z,rfl⟩
end Ht
namespace L2
open PySem PySem.Spec PyProof.Rows DL PySem.W
def vF:∀(n:Nat) (d:D),iL n d=a9->u9 M n d=a9
 | 0,d,h=>by cases d<;>first|rfl|cases h
 |n+1,d,h=>by
  cases d with
  |tup ds=>have h':ds.all (iL n)=a9:=h;show ds.all (u9 M n)=a9;rw[z5]at h' ⊢;exact λx hx=>vF n x<|h' x hx
  |str x=>rfl
  |int i=>rfl
  |_=>cases h
def qU:∀(n:Nat) (x y:D),iL n x=a9->iL n y=a9->(u8 M n x y=a9↔x=y):=by
 intro n;induction n with
 |zero =>
  intro x y h1 h2;cases x with
  |str a =>
   cases y with
   |str b=>simp[u8]
   |int b=>simp[u8]
   |_=>cases h2
  |int a =>
   cases y with
   |str b=>simp[u8]
   |int b=>simp[u8]
   |_=>cases h2
  |_=>cases h1
 |succ n h =>
  have o:∀xs ys:List D,xs.all (iL n)=a9->ys.all (iL n)=a9->(D9 (u8 M n) xs ys=a9↔xs=ys):=by
   intro xs;induction xs with
   |nil=>intro ys _ _;cases ys<;>simp[D9]
   |cons x xs i =>
    intro ys F c;cases ys with
    |nil=>simp[D9]
    |cons y ys=>rw[KL,A2]at F c;show (u8 M n x y&&D9 (u8 M n) xs ys)=a9↔_;rw[A2,h x y F.1 c.1,i ys F.2 c.2,NE]
  intro x y h1 h2;cases x with
  |str a =>
   cases y with
   |str b=>simp[u8]
   |int b=>simp[u8]
   |tup ys=>simp[u8]
   |_=>cases h2
  |int a =>
   cases y with
   |str b=>simp[u8]
   |int b=>simp[u8]
   |tup ys=>simp[u8]
   |_=>cases h2
  |tup xs =>
   cases y with
   |str b=>simp[u8]
   |int b=>simp[u8]
   |tup ys=>rw[D.tup.injEq];exact o _ _ h1 h2
   |_=>cases h2
  |_=>cases h1
theorem Js(sm:v4 X.K ρ M H):∀(n:Nat) (A:f8) (s:f9) (d:D) (v:V) (u:c6) (E:c6->f9->Prop) (Q:Int->f9->Prop),A.units+n<k7->t5 X pins σ H s->u7 X.K ρ H d v->aR v u->iL n d=a9 ->(∀tk,Q (C7 X.w n d) { s with toks:=tk })->i0 (i4 X.prog X.w) A (pyHash u) Q E s:=by
 intro n;induction n with
 |zero =>
  intro A s d v u E Q R I r f q h;cases r with
  |str x=>obtain⟨t,rfl⟩:=f;exact wpAny_pyHash_str<|h _
  |int x=>obtain⟨t,rfl⟩:=f;exact wpAny_pyHash_int<|h _
  |_=>cases q
 |succ n S =>
  intro A s d v u E Q R I r f q h;cases r with
  |str x=>obtain⟨t,rfl⟩:=f;exact wpAny_pyHash_str<|h _
  |int x=>obtain⟨t,rfl⟩:=f;exact wpAny_pyHash_int<|h _
  |@tup a vs ds P Y =>
   cases f;obtain⟨its,W,p,_⟩:=I.tuple P;obtain⟨o,C,N,nn,O⟩:=id p;have m:s.TypeIs (.ref a) "tuple":=⟨o,C,N⟩
   have B:ds.all (iL n)=a9:=q;unfold pyHash
   first|unfold pyHashByItsType|skip
   first|refine t4 (wpAny_cRoomFor_or (.inr<|by lia) ?_)|skip
   refine t4<|N6 m F.slot_tuple_hash.lookup ?_;refine(show i0 (i4 X.prog X.w) _ (if (a7 (OC "tuple.__hash__")==a7 G6)=a9 then _ else _) Q E s from ?_);rw[p0<|by rw[beq_builtin_none];exact NJ];refine t4<|N6 m F.slot_tuple_hash.lookup ?_;refine(show i0 (i4 X.prog X.w) _ (callSpecialIfBoundUnlessNone? (.ref a) "__hash__" _ >>= _) Q E s from t4<|wpAny_callSpecialIfBoundUnlessNone?_slot m F.slot_tuple_hash<|K6 F.slot_tuple_hash m F.entry_tuple_hash ?_<|F.args_tuple_hash_1 _);refine(show i0 (i4 X.prog X.w) _ (PN (.ref a) >>= _) _ _ s from t4<|wpAny_tupleItemsOf C O<|t4 ?_);rw[<-Og];refine N9 _ (λaO (b:Array Int) s'=>∃done left y,ds=done++left/\Reps X.K ρ H left y/\az y aO/\b.toList=done.map (C7 X.w n)/\∃tk,s'={ s with toks:=tk }) _ ?_ ?_ _ _ ⟨[],ds,vs,rfl,Y,by simpa using W,rfl,s.toks,rfl⟩;rintro x aO b s' ⟨done,left,y,e,h1,h2,k,tk,rfl⟩;cases h2 with
   |@cons Z _ i _ T J =>
    cases h1 with
    |@cons j _ c _ U L =>
     refine t4<|S _ _ j Z x _ _ (by show A.units+1+n<k7;lia) (I.tok tk) U T ?_ λg=>?_;have:=z5.mp B j (by rw[e];simp);exact this
     first
      |exact u5 ⟨done++[j],c,i,by rw[e];simp,L,J,by simp[k],g,rfl⟩
      |exact t4 (u5 (u5 ⟨done++[j],c,i,by rw[e];simp,L,J,by simp[k],g,rfl⟩))
   rintro b s' ⟨done,left,y,e,h1,h2,k,tk,rfl⟩;cases h2;cases h1;rw[Lh]at e;subst e;refine(show i0 (i4 X.prog X.w) _ (retInt<|PM b.toList) _ _ _ from ?_);rw[k];refine wpAny_ret_mkInt ?_;have l:C7 X.w (n+1) (.tup ds)=reduceHash (PM<|ds.map<|C7 X.w n):=rfl;generalize PM (ds.map<|C7 X.w n)=z at l;refine(show i0 (i4 X.prog X.w) _ (if (decide (-(2:Int) ^ 63<=z)&&decide (z<2 ^ 63))=a9 then _ else _) Q E _ from ?_);unfold reduceHash at l;by_cases G:(decide (-(2:Int) ^ 63<=z)&&decide (z<2 ^ 63))=a9;rw[o8 G]at l ⊢;exact u5 (by rw[<-l];exact h _);rw[p0 G]at l ⊢;exact t4<|M9<|u5<|by rw[<-l];exact h _
  |_=>cases q
theorem hbv_D(T:v4 X.K ρ M H):∀(n k:Nat) (A:f8) (s:f9) (d:D) (v:V) (u:c6) (E:c6->f9->Prop) (Q:Bool->f9->Prop),n<=k->t5 X pins σ H s->u7 X.K ρ H d v->aR v u->iL n d=a9->(∀b,Q b s)->i0 (i4 X.prog X.w) A (hashByValue k u) Q E s:=by
 intro n;induction n with
 |zero =>
  intro k A s d v u E Q z I r c e h;cases r with
  |str x=>obtain⟨t,rfl⟩:=c;cases k<;>exact u5<|h _
  |int x=>obtain⟨t,rfl⟩:=c;cases k<;>exact u5<|h _
  |_=>cases e
 |succ n J =>
  intro k A s d v u E Q z I r c e h;cases r with
  |str x=>obtain⟨t,rfl⟩:=c;cases k<;>exact u5<|h _
  |int x=>obtain⟨t,rfl⟩:=c;cases k<;>exact u5<|h _
  |@tup a vs ds C P =>
   cases c;obtain⟨k,rfl⟩:∃L,k=L+1:=⟨k-1,b7⟩
   obtain⟨its,l,p,_⟩:=I.tuple C;obtain⟨o,j,q,S,y⟩:=id p;have m:s.TypeIs (.ref a) "tuple":=⟨o,j,q⟩
   have B:ds.all (iL n)=a9:=e;unfold hashByValue;refine t4<|N6 m F.slot_tuple_hash.lookup ?_;dsimp only;refine t4<|LG j y ?_;simp only[OM];rw[<-Og];refine t4 ?_;refine N9 _ (λaO r s'=>s'=s/\r.1=a8/\∃left f,(∀x∈left,iL n x=a9)/\Reps X.K ρ H left f/\az f aO) _ ?_ ?_ _ _ ⟨rfl,rfl,ds,vs,z5.mp B,P,by simpa using l⟩;rintro x aO r s' ⟨rfl,i,left,f,g,h1,h2⟩;cases h2 with
   |cons N O =>
    cases h1 with
    |cons U R =>
     refine t4<|J k _ _ _ _ x _ _ b7 I U N (g _ A9) λb=>?_;cases b with
     |false=>exact u5<|u5<|h _
     |true=>exact u5 ⟨rfl,rfl,_,_,λx G=>g x<|C4 _ G,R,O⟩
   rintro⟨r1,l⟩ s' ⟨rfl,i,_⟩;simp only at i;subst i;exact u5<|h _
  |_=>cases e
theorem zA(R:v4 X.K ρ M H):∀(n k:Nat) (A:f8) (s:f9) (d:D) (v:V) (u:c6) (E:c6->f9->Prop) (Q:Bool->f9->Prop),n<=k->t5 X pins σ H s->u7 X.K ρ H d v->aR v u->iL n d=a9->Q a9 s->i0 (i4 X.prog X.w) A (eqIsQuiet k u) Q E s:=by
 intro n;induction n with
 |zero =>
  intro k A s d v u E Q y I r b e h;cases r with
  |str x=>obtain⟨t,rfl⟩:=b;rw[Po k (v:=.str x t) rfl];exact u5 h
  |int x=>obtain⟨t,rfl⟩:=b;rw[Po k (v:=.int x t) rfl];exact u5 h
  |_=>cases e
 |succ n G =>
  intro k A s d v u E Q y I r b e h;cases r with
  |str x=>obtain⟨t,rfl⟩:=b;rw[Po k (v:=.str x t) rfl];exact u5 h
  |int x=>obtain⟨t,rfl⟩:=b;rw[Po k (v:=.int x t) rfl];exact u5 h
  |@tup a vs ds z O =>
   cases b;obtain⟨k,rfl⟩:∃J,k=J+1:=⟨k-1,b7⟩
   obtain⟨its,l,p,_⟩:=I.tuple z;obtain⟨o,f,j,S,q⟩:=id p;have m:s.TypeIs (.ref a) "tuple":=⟨o,f,j⟩
   have B:ds.all (iL n)=a9:=e;unfold eqIsQuiet;refine t4<|N6 m F.slot_tuple_eq.lookup ?_;refine(show i0 (i4 X.prog X.w) A (isInstance (.ref a) (.type "tuple") >>= _) _ _ s from t4<|N8 m isSubtype_tuple_tuple ?_);simp only[Mg,C8,p8];refine t4<|LG f q ?_;simp only[OM];refine t4 ?_;rw[<-Og];refine N9 _ (λaO r s'=>s'=s/\r.1=a8/\∃left c,(∀x∈left,iL n x=a9)/\Reps X.K ρ H left c/\az c aO) _ ?_ ?_ _ _ ⟨rfl,rfl,ds,vs,z5.mp B,O,by simpa using l⟩;rintro x aO r s' ⟨rfl,i,left,c,g,h1,h2⟩;cases h2 with
   |cons L N =>
    cases h1 with
    |cons U P=>refine t4<|G k _ _ _ _ x _ _ b7 I U L (g _ A9) ?_;simp only[Mg,C8,p8];exact u5 ⟨rfl,rfl,_,_,λx C=>g x<|C4 _ C,P,N⟩
   rintro⟨r1,l⟩ s' ⟨rfl,i,_⟩;simp only at i;subst i;exact u5 h
  |_=>cases e
theorem Kf(P:v4 X.K ρ M H):∀(n k:Nat) (A:f8) (s:f9) (d:D) (v:V) (u:c6) (E:c6->f9->Prop) (Q:Bool->f9->Prop),n<=k->t5 X pins σ H s->u7 X.K ρ H d v->aR v u->iL n d=a9->Q c5 s->i0 (i4 X.prog X.w) A (ofAClassStatement k u) Q E s:=by
 intro n;induction n with
 |zero =>
  intro k A s d v u E Q y I r b e h;cases r with
  |str x=>obtain⟨t,rfl⟩:=b;cases k<;>exact u5 h
  |int x=>obtain⟨t,rfl⟩:=b;cases k<;>exact u5 h
  |_=>cases e
 |succ n F =>
  intro k A s d v u E Q y I r b e h;cases r with
  |str x=>obtain⟨t,rfl⟩:=b;cases k<;>exact u5 h
  |int x=>obtain⟨t,rfl⟩:=b;cases k<;>exact u5 h
  |@tup a vs ds z N =>
   cases b;obtain⟨k,rfl⟩:∃G,k=G+1:=⟨k-1,b7⟩
   obtain⟨its,l,p,_⟩:=I.tuple z;obtain⟨o,f,j,S,q⟩:=id p;have m:s.TypeIs (.ref a) "tuple":=⟨o,f,j⟩
   have B:ds.all (iL n)=a9:=e;unfold ofAClassStatement;refine t4<|Nb m ?_;dsimp only;simp only[r9,p9];refine t4<|u5 ?_;simp only[Mg,C8,p8];refine t4<|LG f q ?_;dsimp only;refine t4 ?_;rw[<-Og];refine N9 _ (λaO r s'=>s'=s/\r.1=a8/\∃left c,(∀x∈left,iL n x=a9)/\Reps X.K ρ H left c/\az c aO) _ ?_ ?_ _ _ ⟨rfl,rfl,ds,vs,z5.mp B,N,by simpa using l⟩;rintro x aO r s' ⟨rfl,i,left,c,g,h1,h2⟩;cases h2 with
   |cons J L =>
    cases h1 with
    |cons U O=>refine t4<|F k _ _ _ _ x _ _ b7 I U J (g _ A9) ?_;simp only[C8,p8];exact u5 ⟨rfl,rfl,_,_,λx C=>g x<|C4 _ C,O,L⟩
   rintro⟨r1,l⟩ s' ⟨rfl,i,_⟩;simp only at i;subst i;exact u5 h
  |_=>cases e
noncomputable def nQ:D->Bool
 |.tup _=>a9
 |_=>c5
def F7(X:Cx)(ρ:List d6)(H:Hp)(n:Nat)(d:D)(e:Int×c6):Prop:=(∃v,u7 X.K ρ H d v/\aR v e.2)/\e.1=C7 X.w n d/\iL n d=a9/\nQ d=a9
structure KSet(X:Cx)(ρ:List d6)(H:Hp)(h:d8)(a:d6)(n:Nat)(ds:List D)(o:d7)(es:Array (Int×c6))(ep:Nat)(t:o5):Prop where
 ob:h.get? a=a7 o
 ex:o.ExactSet
 dt:o.data=.set es ep t
 en:Paired (F7 X ρ H n) ds es.toList
 nd:ds.Nodup
 tk:Ht.TOk t (es.toList.map (·.1))
 ld:t.led = !X.w.params.followText "set-order"
def uT{α β:Type}{R:α->β->Prop}:∀{xs:List α}{ys:List β}{i:Nat}{y:β},Paired R xs ys->ys[i]?=a7 y->∃x,xs[i]?=a7 x/\R x y
 |_,_,i,y,.nil,e=>by simp at e
 |_,_,0,y,.cons r _,e=>by simp at e;subst e;exact⟨_,rfl,r⟩
 |_,_,i+1,y,.cons _ t,e=>by obtain⟨x,h1,h2⟩:=uT (i:=i) t (by simpa using e);exact⟨x,by simpa using h1,h2⟩
def jS{α β:Type}{R:α->β->Prop}:∀{xs:List α}{ys:List β}{i:Nat}{x:α},Paired R xs ys->xs[i]?=a7 x->∃y,ys[i]?=a7 y/\R x y
 |_,_,i,y,.nil,e=>by simp at e
 |_,_,0,y,.cons r _,e=>by simp at e;subst e;exact⟨_,rfl,r⟩
 |_,_,i+1,y,.cons _ t,e=>by obtain⟨x,h1,h2⟩:=jS (i:=i) t (by simpa using e);exact⟨x,by simpa using h1,h2⟩
def KSet.fits(S:KSet X ρ H h a n ds o es ep t):t.fits es.size=a9:=by
 have h1:=S.tk.len;have h2:=S.tk.few;rw[v5,G7]at h1;unfold N1;have b:t.fill=t.place.size:=by unfold O8;rw[S.tk.nod];rfl
 rw[b];simp only[A2,p7,p6];lia
def BS(m:v4 X.K ρ M H)(I:t5 X pins σ H s)(f:n<=8)(r:u7 X.K ρ H d v)(c:aR v u)(e:iL n d=a9)(h:Q c5 s):∀(l:List c6),(∀y∈l,∃d' v',u7 X.K ρ H d' v'/\aR v' y/\iL n d'=a9)->i0 (i4 X.prog X.w) A (searchCouldBeSeen u l) Q E s:=by intro l g;unfold searchCouldBeSeen;refine t4 ?_;refine N9 _ (λaO r s'=>s'=s/\r.1=a8/\∀y∈aO,∃d' v',u7 X.K ρ H d' v'/\aR v' y/\iL n d'=a9) _ ?_ ?_ _ _ ⟨rfl,rfl,g⟩;rintro y aO r' s' ⟨rfl,i,O⟩;have t:∀z∈aO,∃d' v',u7 X.K ρ H d' v'/\aR v' z/\iL n d'=a9:=λz j=>O z<|C4 _ j;obtain⟨d',v',a,b,k⟩:=O y A9;dsimp only;refine Mu (λ_=>u5 ⟨rfl,rfl,t⟩) λ_=>?_;refine t4<|zA m n 8 A _ d v u _ _ f I r c e ?_;simp only[Mg,C8,p8];refine t4<|zA m n 8 A _ d' v' y _ _ f I a b k ?_;simp only[Mg,C8,p8];refine t4<|Kf m n 8 A _ d v u _ _ f I r c e ?_;simp only[C8,p8];refine t4<|Kf m n 8 A _ d' v' y _ _ f I a b k ?_;simp only[C8,p8];exact u5 ⟨rfl,rfl,t⟩;rintro⟨a,b⟩ s' ⟨rfl,i,_⟩;simp only at i;subst i;exact u5 h
def Cg(sm:v4 X.K ρ M H)(I:t5 X pins σ H s)(hn:n<=8)(hu:A.units+n<k7)(S:KSet X ρ H s.heap a n ds o es ep t)(r:u7 X.K ρ H d v)(rv:aR v u)(G:iL n d=a9)(c:d∈ds->Q (.there a8) s) (aS:N<10*(t.mask+15)) (J:(Ht.sq t.mask (C7 X.w n d) N).j∉t.place.toList) (ai:∀k,k<N->(Ht.sq t.mask (C7 X.w n d) k).j∈t.place.toList)(L:d∉ds->Q (.free (Ht.sq t.mask (C7 X.w n d) N).j c5) s):∀(fuel m:Nat) (stand:Option Nh),m<=N->N<m+fuel->stand.getD (t.probeStart<|C7 X.w n d)=Ht.sq t.mask (C7 X.w n d) m->(∀k i:Nat,k<m->t.place[i]?=a7 (Ht.sq t.mask (C7 X.w n d) k).j->ds[i]?≠a7 d) ->i0 (i4 X.prog X.w) A (setSearchFrom a u (C7 X.w n d) a9 fuel stand) Q E s:=by
 intro fuel;induction fuel with
 |zero=>intro m stand h1 h2;lia
 |succ fuel ih =>
  intro m stand h1 h2 hs hb;unfold setSearchFrom;refine t4<|LS S.ob S.dt S.fits ?_;dsimp only;have gw:t.gaveWay=c5:=by unfold SetTable.gaveWay;rcases S.tk.msk with e|e|e<;>rw[e]<;>rfl
  rw[gw];simp only[C8,p8];rw[hs];rcases Ht.go_spec S.tk.ris S.tk.nod (λi=>(es[i]?.map (·.1)).getD 0) (C7 X.w n d) (10*N4 t.mask) m N h1 (by unfold N4;lia) J (λk _ hk=>ai k hk) (Ht.sq_dummy _ _)with⟨z1,z2⟩|⟨m',i,a1,a2,a3,a4,a5,a6⟩
  generalize O:SetTable.probe t _ (C7 X.w n d) (Ht.sq t.mask (C7 X.w n d) m)=pr;obtain rfl:pr=_:=O.symm.trans z2;dsimp only;refine u5<|L λhd=>?_;obtain⟨i,hi⟩:=LV hd;obtain⟨e,F,_,V,_⟩:=jS S.en hi;have g:es[i]?=a7 e:=by rw[<-K2];exact F
  have hh:(es.toList.map (·.1))[i]?=a7 (C7 X.w n d):=by rw[F5,F];exact q9 a7 V
  have hl:i<t.place.size:=by rw[S.tk.len];exact(B5.mp hh).1
  obtain⟨R,b1,b2⟩:=S.tk.path i _ t.place[i] hh<|Lm hl;have ap:R<N:=by rcases Oc R N with q|q|q;exact q;subst q;exact p5 (show (Ht.sq t.mask (C7 X.w n d) R).j∈t.place.toList by rw[b1];simp) J;exact p5 (b2 N q) J
  have p:t.place[i]?=a7 (Ht.sq t.mask (C7 X.w n d) R).j:=by rw[b1];exact Lm hl
  rcases LQ R m with q|q;exact hb R i q p hi;refine z1 R i q ap p ?_;rw[g];exact V;generalize O:SetTable.probe t _ (C7 X.w n d) (Ht.sq t.mask (C7 X.w n d) m)=pr;obtain rfl:pr=_:=O.symm.trans a6;dsimp only;have an:i<es.size:=by have:=(Ln.mp a3).1;rw[S.tk.len,v5,G7]at this;exact this
  have l:es[i]?=a7 es[i]:=Lm an;obtain⟨x,C,⟨v0,r0,Z⟩,aP,P,as⟩:=uT S.en (i:=i) (y:=es[i]) (by rw[K2];exact l);have ab:∀(f:Bool->Sem SetFound),i0 (i4 X.prog X.w) A (f c5) Q E s->i0 (i4 X.prog X.w) A (searchCouldBeSeen u ((es.filter (·.1==C7 X.w n d)).toList.map (·.2)) >>= f) Q E s:=λf hf=>by
   refine t4<|BS sm I hn r rv G hf _ λy hy=>?_;obtain⟨e,F,rfl⟩:=w9.mp hy;have aj:e∈es.toList:=by
    have:e∈es.filter (·.1==C7 X.w n d):=by simpa using F
    simpa using(Array.mem_filter.mp this).1
   obtain⟨j,hj⟩:=LV aj;obtain⟨d1,_,⟨v1,r1,aD⟩,_,ax,_⟩:=uT S.en hj;exact⟨d1,v1,r1,aD,ax⟩
  have B:∃b,es[i].2=F8 b:=by
   cases r0 with
   |tup _ _=>exact⟨_,Z⟩
   |_=>cases as
  obtain⟨b,B⟩:=B;have W:Md A s es[i].2 u (u8 M n x d):=(nW I sm n A x d v0 v es[i].2 u hu r0 Z r rv (vF n x P)<|vF n d G).1;refine Mu (λ_=>ab _ ?_) λ_=>?_;simp only[C8,p8];rw[l];dsimp only;refine t4<|J6<|W _ _ _ _<|t4<|LS S.ob S.dt S.fits ?_;dsimp only;by_cases D:u8 M n x d=a9;rw[D];simp only[Bool.and_self,p9];have:x=d:=(qU n x d P G).mp D;subst this;exact u5<|c<|Kw C;rw[Mi.mpr D];simp only[Bool.and_false,C8,p8];have U:t.sameMemory t.moves t.mask=a7 a9:=by unfold SetTable.sameMemory;simp
  rw[U];dsimp only;simp only[p9];rw[Ht.slot_live S.tk.ris a3];dsimp only;rw[l];have T:i0 (i4 X.prog X.w) A (isSame es[i].2 es[i].2) (λb s'=>b=a9/\s'=s) E s:=by unfold isSame;rw[B];simp only[r9,p9];exact u5<|Nx rfl rfl
  refine t4<|D3 T (λb s' ⟨e1,e2⟩=>?_) λ_ _ z=>z;subst e1 e2;refine t4<|u5 ?_;simp only[p9];refine ih (m'+1) _ b7 b7 rfl λk i' hk p h=>?_;rcases LQ k m with q|q;exact hb k i' q p h;rcases LQ k m' with Y|Y;refine a5 k i' q Y p ?_;obtain⟨e,F,_,V,_⟩:=jS S.en h;have g:es[i']?=a7 e:=by rw[<-K2];exact F
  rw[g];exact V;have:k=m':=by lia
  subst this;have:i'=i:=by rw[<-Ht.below_at S.tk.ris p,Ht.below_at S.tk.ris a3]
  subst this;rw[C]at h;cases h;exact D<|(qU n d d G G).mpr rfl;rw[l];dsimp only;refine t4<|J6<|W _ _ _ _<|t4<|LS S.ob S.dt S.fits ?_;dsimp only;by_cases D:u8 M n x d=a9;rw[D];simp only[Bool.and_self,p9];have:x=d:=(qU n x d P G).mp D;subst this;exact u5<|c<|Kw C;rw[Mi.mpr D];simp only[Bool.and_false,C8,p8];have U:t.sameMemory t.moves t.mask=a7 a9:=by unfold SetTable.sameMemory;simp
  rw[U];dsimp only;simp only[p9];rw[Ht.slot_live S.tk.ris a3];dsimp only;rw[l];have T:i0 (i4 X.prog X.w) A (isSame es[i].2 es[i].2) (λb s'=>b=a9/\s'=s) E s:=by unfold isSame;rw[B];simp only[r9,p9];exact u5<|Nx rfl rfl
  refine t4<|D3 T (λb s' ⟨e1,e2⟩=>?_) λ_ _ z=>z;subst e1 e2;refine t4<|u5 ?_;simp only[p9];refine ih (m'+1) _ b7 b7 rfl λk i' hk p h=>?_;rcases LQ k m with q|q;exact hb k i' q p h;rcases LQ k m' with Y|Y;refine a5 k i' q Y p ?_;obtain⟨e,F,_,V,_⟩:=jS S.en h;have g:es[i']?=a7 e:=by rw[<-K2];exact F
  rw[g];exact V;have:k=m':=by lia
  subst this;have:i'=i:=by rw[<-Ht.below_at S.tk.ris p,Ht.below_at S.tk.ris a3]
  subst this;rw[C]at h;cases h;exact D<|(qU n d d G G).mpr rfl
def Paired.ins{α β:Type}{R:α->β->Prop}{x:α}{y:β}(r:R x y):∀{xs:List α}{ys:List β} (p:Nat),Paired R xs ys->Paired R (xs.take p++x::xs.drop p) (ys.take p++y::ys.drop p)
 |_,_,0,h=>by simpa using .cons r h
 |_,_,p+1,.nil=>.cons r .nil
 |_,_,p+1,.cons h t=>.cons h<|Paired.ins r p t
def Paired.pick{α β:Type}{R:α->β->Prop}:∀{xs:List α}{ys:List β} (is:List Nat),Paired R xs ys->(∀i∈is,i<xs.length)->Paired R (is.filterMap (xs[·]?)) (is.filterMap (ys[·]?))
 |_,_,[],_,_=>.nil
 |xs,ys,i::is,h,hi=>by have hl:=hi i A9;have e:xs[i]?=a7 xs[i]:=A1 hl;obtain⟨y,hy,r⟩:=jS h e;rw[MA,MA,e,hy];exact .cons r<|Paired.pick is h λj hj=>hi j<|C4 _ hj
def pQ{α:Type}{l:List α}{is:List Nat}(h:is.Perm (B7 l.length)):(is.filterMap (l[·]?)).Perm l:=by
 have:=h.filterMap (l[·]?)
 rwa [List.filterMap_getElem?_range_length]at this
section
variable{X:Cx}{pins:List (d6×d7)}{σ:St}{H:Hp}{ρ:List d6}{M:t7}{A:f8}{E:c6->f9->Prop}{s:f9}{a:d6}{n:Nat}{ds:List D}{o:d7}{es:Array (Int×c6)}{ep:Nat}{t:o5}
def KS(X:Cx)(ρ:List d6)(H:Hp)(h:d8)(a:d6)(n:Nat)(ds:List D):Prop:=∃o es i t,KSet X ρ H h a n ds o es i t
set_option maxHeartbeats 1000000 in
theorem add_D(sm:v4 X.K ρ M H)(I:t5 X pins σ H s)(hn:n<=8)(hu:A.units+n+1<k7)(S:KS X ρ H s.heap a n ds)(aS:ds.length+1<=64)(r:u7 X.K ρ H d v)(rv:aR v u)(kd:iL n d=a9)(it:nQ d=a9)(h:∀b h' tk ds',(∀c u,c≠a->s.heap.get? c=a7 u->h'.get? c=a7 u)->KS X ρ H h' a n ds'->(∀x,x∈ds'↔x∈ds\/x=d)->ds'.length<=ds.length+1->Q b { s with heap:=h',toks:=tk }):i0 (i4 X.prog X.w) A (setAdd a u) Q E s:=by
 obtain⟨o,es,ep,t,S⟩:=S;obtain⟨R,rfl⟩:∃R,u=F8 R:=by
  cases r with
  |tup _ _=>exact⟨_,rv⟩
  |_=>cases it
 unfold setAdd;refine J6<|t4<|Js sm n A s d v _ _ _ b7 I r rv kd λtk=>?_;unfold setAddHashed setAddHashedIn;refine J6<|t4<|LS (s:={ s with toks:=tk }) S.ob S.dt S.fits ?_;dsimp only;have bs:byScan (.ref R) es=c5:=rfl;rw[bs];simp only[C8,p8];obtain⟨N,ab,ai,aj⟩:=S.tk.empty<|C7 X.w n d;have I1:t5 X pins σ H { s with toks:=tk }:=I.tok tk;unfold setSearch;refine t4<|Cg (s:={ s with toks:=tk }) sm I1 hn b7 S r rv kd (λhd=>?_) ab ai aj (λhd=>?_) 100000 0 a8 (B0 _) ?_ rfl λk i hk=>p5 hk<|MP _;exact u5<|h _ s.heap tk ds (λ_ _ _ e=>e) ⟨o,es,ep,t,S⟩ (λx=>⟨.inl,λz=>z.elim id λe=>e ▸ hd⟩)<|NY _;dsimp only;refine t4<|LS (s:={ s with toks:=tk }) S.ob S.dt S.fits ?_;dsimp only;have J:=S.tk.len;rw[v5,G7]at J;have dl:ds.length=es.size:=by have:=Pb S.en;simpa using this
 have F:∀O:Bool,i0 (i4 X.prog X.w) A (do
   storeSet a (Pp es (t.put (Ht.sq t.mask (C7 X.w n d) N).j).2 (C7 X.w n d,F8 R)) { (t.put (Ht.sq t.mask (C7 X.w n d) N).j).1 with plain:=O }
   if (!c5&&({ (t.put (Ht.sq t.mask (C7 X.w n d) N).j).1 with plain:=O }:o5).tooFull)=a9 then do
     setRelay a (ND<|es.size+1)
     pure a9
    else pure a9) Q E { s with toks:=tk }:=λO=>by
  obtain⟨pb,T⟩:=Ht.put_pre S.tk ai aj O;have G:({ (t.put (Ht.sq t.mask (C7 X.w n d) N).j).1 with plain:=O }:o5).led=t.led:=rfl;have L:({ (t.put (Ht.sq t.mask (C7 X.w n d) N).j).1 with plain:=O }:o5).mask=t.mask:=rfl;generalize ({ (t.put (Ht.sq t.mask (C7 X.w n d) N).j).1 with plain:=O }:o5)=y at T G L;generalize (t.put (Ht.sq t.mask (C7 X.w n d) N).j).2=p at pb T;rw[v5,G7]at pb;have e1:(Pp es p (C7 X.w n d,F8 R)).toList=es.toList.take p++(C7 X.w n d,F8 R)::es.toList.drop p:=SetTable.toList_insertAt ..;generalize Pp es p (C7 X.w n d,F8 R)=f at e1;have ax:f.toList.map (·.1)=(es.toList.map (·.1)).take p++C7 X.w n d::(es.toList.map (·.1)).drop p:=by rw[e1,Mv,B9,List.map_take,List.map_drop]
  rw[<-ax]at T;have D:f.size=es.size+1:=by have:=q9 Lq e1;rw[G7,E2,D4,Li,MQ,G7]at this;lia
  have Y:Paired (F7 X ρ H n) (ds.take p++d::ds.drop p) f.toList:=by rw[e1];exact Paired.ins ⟨⟨v,r,rv⟩,rfl,kd,it⟩ p S.en
  have U:(ds.take p++d::ds.drop p).Perm (d::ds):=by refine List.perm_middle.trans<|Pe d ?_;rw[Qr]
  have an:(ds.take p++d::ds.drop p).Nodup:=U.nodup_iff.mpr<|KN.mpr ⟨hd,S.nd⟩;have Z:y.fits f.size=a9:=by
   have l1:=T.len;rw[v5,G7]at l1;have h3:y.fill=y.place.size:=by unfold O8;rw[T.nod];rfl
   have fw:=S.tk.few;unfold N1;rw[h3];simp only[A2,p7,p6];rw[J]at fw;rcases S.tk.msk with e|e|e<;>rw[L,e]<;>rw[e]at fw<;>lia
  have zz:f.size<=sizeLine:=by rw[KW];lia
  refine t4<|wpAny_storeSet_of (s:={ s with toks:=tk }) S.ob S.dt ?_ zz;have C:(s.heap.update a<|NV f y).get? a=a7 { o with data:=.set f (ep+1) y }:=by
   have q:=Lu (NV f y) S.ob<|by rw[putSet_of f y S.dt];rfl
   rwa [putSet_of f y S.dt]at q
  have ap:∀c u,c≠a->s.heap.get? c=a7 u->(s.heap.update a<|NV f y).get? c=a7 u:=λc u hc e=>(MB _ _<|A8 hc).trans e;by_cases tf:y.tooFull=a9;rw[tf];simp only[Bool.not_false,Bool.and_self,p9];have as:((f.toList.map (·.1)).length-1)*5<y.mask*3:=by have fw:=S.tk.few;rw[J]at fw;rw[v5,G7,D,L];simpa using fw
  obtain⟨zl,W,m,g1,g2,T2,aD⟩:=T.anew tf as (by rw[v5,G7];lia);rw[v5,G7]at g2 zl;have eg:ND (es.size+1)=ND (f.toList.map (·.1)).length:=by rw[v5,G7,D]
  unfold setRelay;refine t4<|t4<|LS (s:={ s with heap:=_,toks:=tk }) C rfl Z ?_;dsimp only;rw[eg];have nz:¬Qf (ND (f.toList.map (·.1)).length) > sizeLine:=by rw[v5,G7];lia
  simp only[nz,p8];have ea:f.map (·.1)=(f.toList.map (·.1)).toArray:=by apply Array.ext';simp
  rw[ea,g1];have B:(m.filterMap (f[·]?)).toList=m.toList.filterMap (f.toList[·]?):=by rw[Array.toList_filterMap];congr 1;funext i;rw[K2]
  have V:(m.filterMap (f[·]?)).size=f.size:=by have:=(pQ (l:=f.toList) (is:=m.toList)<|by rw[G7];exact g2).length_eq;rw[<-B,G7,G7]at this;exact this
  refine t4 (show i0 (i4 X.prog X.w) A (if ((m.filterMap (f[·]?)).size != f.size)=a9 then _ else pure (m.filterMap (f[·]?),W)) _ _ _ from ?_);rw[p0<|by rw[V];simp];refine u5 ?_;generalize m.filterMap (f[·]?)=g at B V;have P:(m.toList.filterMap ((ds.take p++d::ds.drop p)[·]?)).Perm (ds.take p++d::ds.drop p):=pQ (by
   have:(ds.take p++d::ds.drop p).length=f.size:=by rw[U.length_eq,D4,dl,D]
   rw[this];exact g2)
  refine wpAny_storeSet_of (s:={ s with heap:=_,toks:=tk }) C rfl ?_ (by rw[V];exact zz);have aP:((s.heap.update a<|NV f y).update a<|NV g W).get? a=a7 { o with data:=.set g (ep+1+1) W }:=by
   have q:=Lu (NV g W) C<|by rw[putSet_of g W (es:=f) (ep:=ep+1) (t:=y) rfl];rfl
   rwa [putSet_of g W (es:=f) (ep:=ep+1) (t:=y) rfl]at q
  refine u5 (h _ _ tk (m.toList.filterMap ((ds.take p++d::ds.drop p)[·]?)) (λc u hc e=>(MB _ _<|A8 hc).trans<|ap c u hc e) ⟨_,g,_,W,aP,S.ex,rfl,?_,P.nodup_iff.mpr an,?_,aD.trans<|G.trans S.ld⟩ (λx=>?_) ?_);rw[B];refine Paired.pick _ Y λi hi=>?_;have:=g2.mem_iff.mp hi;rw[G1]at this;rw[U.length_eq,D4,dl,<-D];exact this;have e2:g.toList.map (·.1)=m.toList.map λi=>(f.toList.map (·.1)).getD i 0:=by
   rw[B];have:∀(is:List Nat),(∀i∈is,i<f.toList.length)->(is.filterMap (f.toList[·]?)).map (·.1)=is.map λi=>(f.toList.map (·.1)).getD i 0:=by
    intro is;induction is with
    |nil=>intro _;rfl
    |cons i is ih=>intro hi;have hl:=hi i A9;rw[MA,A1 hl,B9,B9,ih λj hj=>hi j<|C4 _ hj];congr 1;rw[G8,F5,A1 hl];rfl
   refine this _ λi hi=>?_;have:=g2.mem_iff.mp hi;rw[G1]at this;rw[G7];exact this
  rw[e2];exact T2;rw[P.mem_iff,U.mem_iff,z7];exact⟨λz=>z.symm,λz=>z.symm⟩;rw[P.length_eq,U.length_eq];exact v7 _;rw[Mi.mpr tf];simp only[Bool.and_false,C8,p8];refine u5<|h _ _ tk _ ap ⟨_,f,_,y,C,S.ex,rfl,Y,an,T.ok<|Mi.mpr tf,G.trans S.ld⟩ (λx=>?_) ?_;rw[U.mem_iff,z7];exact⟨λz=>z.symm,λz=>z.symm⟩;rw[U.length_eq];exact v7 _
 refine Mu (λ_=>t4<|hbv_D sm n 8 A _ d v _ _ _ hn I1 r rv kd λb=>?_) λ_=>?_;cases b with
 |true=>exact F (t.put (Ht.sq t.mask (C7 X.w n d) N).j).1.plain
 |false=>exact F c5
 exact F (t.put (Ht.sq t.mask (C7 X.w n d) N).j).1.plain;have:=ab;rcases S.tk.msk with e|e|e<;>rw[e]at this<;>lia
end
def KS.at(x:KS X ρ H h a n ds)(k:∀o,h.get? a=a7 o->h'.get? a=a7 o):KS X ρ H h' a n ds:=by obtain⟨o,es,i,t,S⟩:=x;exact⟨o,es,i,t,k _ S.ob,S.ex,S.dt,S.en,S.nd,S.tk,S.ld⟩
def FT(sm:v4 X.K ρ M H)(I:t5 X pins σ H s)(hn:n<=8)(hu:A.units+n+2<k7)(W:Walks X.prog X.w A.in1 J fp wr m P Sx)(S:d6)(f:S∉fp)(G:s.heap.get? S=a8) (B:∀b∈wr,s.heap.get? b=a8) (l:Nat->D) (y:∀i v,P i v->∃vv,u7 X.K ρ H (l i) vv/\aR vv v/\iL n (l i)=a9/\nQ (l i)=a9) (hb:m<=63):∀(k i:Nat) (h:d8) (tk:Nat) (ds:List D),m-i=k->i<=m->Sx i h->KS X ρ H h S n ds->(∀x,x∈ds↔∃j,j<i/\l j=x)->ds.length<=i->(∀b u,s.heap.get? b=a7 u->h.get? b=a7 u) ->(∀h' tk ds',(∀b u,s.heap.get? b=a7 u->h'.get? b=a7 u)->KS X ρ H h' S n ds'->(∀x,x∈ds'↔∃j,j<m/\l j=x)->ds'.length<=m->R (.ok<|.ret .none) { s with heap:=h',toks:=tk }) ->k9 (i4 X.prog X.w) A (.builtin "set.update.loop" ⟨[.ref S,.ref J],[]⟩) R { s with heap:=h,toks:=tk }:=by
 have g:S∉wr:=λh=>f<|W.sub _ h;intro k;induction k with
 |zero =>
  intro i h tk ds hk hi t E O U a Y;obtain rfl:i=m:=by lia
  refine MM F.entry_set_update_loop ?_;rw[OW F.plain_set_update_loop _];refine(show i0 (i4 X.prog X.w) A.in1 (j4 (.ref J) >>= _) _ _ _ from t4<|W.done _ _ _ t λh' tk d=>?_);refine u5<|Y h' tk ds (λb u e=>d b u (λz=>by rw[B b z]at e;cases e)<|a b u e) (E.at λo e=>d S o g e) O U
 |succ k ih=>intro i h tk ds hk hi t E O U a Y;refine MM F.entry_set_update_loop ?_;rw[OW F.plain_set_update_loop _];refine(show i0 (i4 X.prog X.w) A.in1 (j4 (.ref J) >>= _) _ _ _ from t4<|W.item i _ _ _ b7 t λv h' tk hP p d=>?_);obtain⟨vv,r,rv,kd,it⟩:=y i v hP;have c:∀b u,s.heap.get? b=a7 u->h'.get? b=a7 u:=λb u e=>d b u (λz=>by rw[B b z]at e;cases e)<|a b u e;have Z:t5 X pins σ H { s with heap:=h',toks:=tk }:=I.kept c;refine t4<|J6<|add_D (s:={ s with heap:=h',toks:=tk }) sm Z hn (by show A.units+1+n+1<k7;lia) (E.at λo e=>d S o g e) b7 r rv kd it λb h2 T C V L Q ab=>?_;refine u5 ⟨OD F.plain_set_update_loop _,ih (i+1) h2 T C b7 b7 (W.frame _ h' h2 p λb' N o e=>V b' o (λz=>f<|z ▸ N) e) L (λx=>?_) b7 (λb u e=>V b u (λz=>by rw[z,G]at e;cases e)<|c b u e) Y⟩;rw[Q,O];constructor;rintro(⟨j,hj,e⟩|rfl);exact⟨j,b7,e⟩;exact⟨i,b7,rfl⟩;rintro⟨j,hj,rfl⟩;by_cases q:j=i;subst q;exact .inr rfl;exact .inl ⟨j,b7,rfl⟩
def CV(e:h.get? a=a7 (br X.w)):KS X ρ H h a n []:=⟨_,#[],0,_,e,⟨rfl,rfl,rfl⟩,rfl,.nil,OH,⟨.inl rfl,rfl,rfl,Od,λj L=>by simp[SetTable.fresh]at L,(by show 0*5<7*3;decide),λi h j b=>by simp at b⟩,rfl⟩
section
def Gm(Z:v4 X.K ρ M H)(I:t5 X pins σ H s)(z:m<=8)(hu:A.units+m+3<k7){l:d6}{T:String}{n:Nat}{P:Nat->c6->Prop}{G:f9->Prop}(O:A.handled=a8)(K:TxSrc X.prog X.w s.heap l T n P)(a:Nat->D)(y:∀i v,P i v->∃vv,u7 X.K ρ H (a i) vv/\aR vv v/\iL m (a i)=a9/\nQ (a i)=a9)(N:n<=63)(h:∀h' tk ds,(∀b o,s.heap.get? b=a7 o->h'.get? b=a7 o)->KS X ρ H h' s.heap.objs.size m ds->(∀x,x∈ds↔∃j,j<n/\a j=x)->ds.length<=n->G { s with heap:=h',toks:=tk }):i0 (i4 X.prog X.w) A (Builtin.«set.__init__» ⟨[.ref s.heap.objs.size,.ref l],[]⟩) (λfin s'=>fin=.done (.ret .none)/\G s') E { s with heap:=s.heap.push (br X.w) }:=by
 have S:(s.heap.push<|br X.w).get? s.heap.objs.size=a7 (br X.w):=B6 _ rfl;have hT:Shared.TypeIs { s with heap:=s.heap.push (br X.w) } (.ref s.heap.objs.size) "set":=⟨_,S,rfl⟩
 obtain⟨F,g,r⟩:=K.obj;have c:(s.heap.push<|br X.w).get? l=a7 F:=w5 _ g;have L:Shared.TypeIs { s with heap:=s.heap.push (br X.w) } (.ref l) T:=⟨F,c,r⟩
 have Y:l<s.heap.objs.size:=z8 g;have J:(s.heap.push<|br X.w).objs.size=s.heap.objs.size+1:=KG ..;obtain⟨oI,St,t,W,st⟩:=K.iter A.in1 { s with heap:=s.heap.push (br X.w) } O λo e=>w5 _ e;have ns:=K.ns;have nf:=K.nf;have nd:=K.nd;unfold Builtin.«set.__init__» noKeywords Builtin.Frozenset.updateFrom;generalize d:j6=PI
 wp_walk
 subst d;refine wpAny_of_in1<|t _ _ ?_;have k:s.heap.objs.size∉[(s.heap.push<|br X.w).objs.size,l]:=by rw[J];simp only[z7,Ls,or_false,not_or];exact⟨A4<|K5 _,Nc Y⟩
 have f:s.heap.get? s.heap.objs.size=a8:=by
  cases q:s.heap.get? s.heap.objs.size with
  |none=>rfl
  |some o=>exact p5 (z8 q)<|E8 _
 have C:∀b∈[(s.heap.push<|br X.w).objs.size],s.heap.get? b=a8:=λb p=>by
  rw[Ky.mp p,J];cases q:s.heap.get? (s.heap.objs.size+1) with
  |none=>rfl
  |some o=>exact p5 (z8 q)<|Mp.mpr<|NY _
 refine t4<|wpAny_runValue<|FT (s:=s) Z I z (by first|exact(show A.units+m+2<k7 by lia)|exact(show A.units+1+m+2<k7 by lia)) W s.heap.objs.size k f C a y N n 0 _ _ [] rfl (B0 _) st (CV<|w5 _ S) (λx=>by simp) (v7 _) (λb u e=>w5 _<|w5 _ e) λh' tk V Q B U R=>?_;exact u5<|u5 ⟨rfl,h h' tk V Q B U R⟩
set_option maxHeartbeats 1000000 in
def GS(C:v4 X.K ρ M H)(I:t5 X pins σ H s)(f:m<=8)(Z:A.units+m+20<k7){l:d6}{T:String}{n:Nat}{P:Nat->c6->Prop}{Q:c6->f9->Prop}(u:A.handled=a8)(K:TxSrc X.prog X.w s.heap l T n P)(a:Nat->D)(y:∀i v,P i v->∃vv,u7 X.K ρ H (a i) vv/\aR vv v/\iL m (a i)=a9/\nQ (a i)=a9)(t:n<=63)(h:∀h' tk ds,(∀b o,s.heap.get? b=a7 o->h'.get? b=a7 o)->KS X ρ H h' s.heap.objs.size m ds->(∀x,x∈ds↔∃j,j<n/\a j=x)->ds.length<=n->Q (.ref s.heap.objs.size) { s with heap:=h',toks:=tk }):i0 (i4 X.prog X.w) A (call (.type "set") [.ref l]) Q E s:=by
 have O:=F.called_set.made;have W:=F.called_set.sub;have U:=F.called_set.notType;have L:=F.called_set.canCreate;have Y:=F.typeCall_set_1<|.ref l;obtain⟨c,tl,V⟩:=F.called_set.mro;refine l5<|codeAny_of_tree<|show i0 _ _ (callAny (.type "set") _) _ _ _ from u5 ⟨Code.quiet_builtin _ dO,MM F.entry_type_call ?_⟩;rw[Around.under_plain (weight_type_call_type "set" [.ref l] []) rfl]
 repeat (any_goals (first|assumption|wp_step))
 refine Mq (vO (.ref l) (E:=E) (Q₁:=λobj s₁=>obj=.ref s.heap.objs.size/\s₁={ s with heap:=s.heap.push (br X.w) }) ⟨rfl,rfl⟩) λr s₁ hr=>?_
 match r,hr with
 |.error e,hr=>exact hr
 |.ok (.ret obj),⟨e1,e2⟩ =>
  subst e1 e2;have S:(s.heap.push<|br X.w).get? s.heap.objs.size=a7 (br X.w):=B6 _ rfl;have p:Shared.TypeIs { s with heap:=s.heap.push (br X.w) } (.ref s.heap.objs.size) "set":=⟨_,S,rfl⟩
  have N:=F.called_set.init.lookup;have J:=F.called_set.init.bind<|.ref s.heap.objs.size
  repeat (any_goals (first|assumption|wp_step))
  refine Mq (codeAny_call_builtin (R:=wants (λr s₂=>r=.none/\Q (.ref s.heap.objs.size) s₂) E) F.called_set.init.plain F.entry_set_init<|check_set_init_1 p ?_) λd s₂ hr₂=>?_;refine D3 (Gm (G:=λB=>Q (.ref s.heap.objs.size) B) C I f (by first|(show A.units+1+1+1+m+3<k7;lia)|(show A.units+1+1+m+3<k7;lia)|(show A.units+1+m+3<k7;lia)) (by simp[u]) K a y t h) (λk s' ⟨e,g⟩=>?_) λ_ _ z=>z;subst e;exact⟨rfl,g⟩
  ·match d,hr₂ with
   |.error e,hr₂=>exact hr₂
   |.ok (.ret r),⟨e,q⟩ =>
    subst e
    repeat (any_goals (first|assumption|wp_step))
end
def Kp(M:t7)(d:D)(xs:List D):Prop:=(∃n,d=.ref n/\ah M n xs)\/d=.tup xs
def SrtOk.sub(h:SrtOk M xs)(s:∀y∈ys,y∈xs)(l:ys.length<64):SrtOk M ys:=by refine⟨l,λx a=>h.ok x<|s x a,λx a y O=>h.cm x (s x a) y<|s y O,?_⟩;rcases h.kd with k|k|k|k|k;exact .inl λx a=>k x<|s x a;exact .inr<|.inl λx a=>k x<|s x a;exact .inr<|.inr<|.inl λx a=>k x<|s x a;exact .inr<|.inr<|.inr<|.inl λx a=>k x<|s x a;exact .inr<|.inr<|.inr<|.inr λx a=>k x<|s x a
def Hv(I:t5 X pins σ H s)(m:v4 X.K ρ M H)(r:u7 X.K ρ H d v)(c:aR v u)(t:Kp M d xs):∃(a:d6) (T:String) (its:Array c6) (vs:List V),u=.ref a/\TxSrc X.prog X.w s.heap a T its.size (λi v=>its[i]?=a7 v)/\Reps X.K ρ H xs vs/\az vs its.toList:=by
 rcases t with⟨n,rfl,h⟩|rfl;cases r with
 |@ref _ a f=>cases c;obtain⟨vs,hs,b⟩:=h.seq m f;obtain⟨its,l,p,_⟩:=I.list hs;exact⟨a,_,its.toArray,vs,rfl,TxSrc.list p.isList,b,by simpa using l⟩
 cases r with
 |@tup a vs _ hs b=>cases c;obtain⟨its,l,p,_⟩:=I.tuple hs;exact⟨a,_,its.toArray,vs,rfl,TxSrc.tuple p,b,by simpa using l⟩
def yN{X:Cx}:∀{ds:List D}{vs:List V}{its:List c6}{i:Nat}{u:c6}{ρ:List d6}{H:Hp},Reps X.K ρ H ds vs->az vs its->its[i]?=a7 u->∃d v,ds[i]?=a7 d/\u7 X.K ρ H d v/\aR v u
 |_,_,_,i,u,_,_,.nil,h,e=>by cases h;simp at e
 |_,_,_,0,u,_,_,.cons r _,h,e=>by
  cases h with
  |cons a _=>simp at e;subst e;exact⟨_,_,rfl,r,a⟩
 |_,_,_,i+1,u,_,_,.cons _ t,h,e=>by
  cases h with
  |cons _ b=>obtain⟨d,v,e1,r,rv⟩:=yN (i:=i) t b (by simpa using e);exact⟨d,v,by simpa using e1,r,rv⟩
def ents:∀{ds:List D}{es:List (Int×c6)},Paired (F7 X ρ H n) ds es->∃vs,Reps X.K ρ H ds vs/\az vs (es.map (·.2))
 |_,_,.nil=>⟨[],.nil,.nil⟩
 |_,_,.cons ⟨⟨v,r,rv⟩,_⟩ t=>by obtain⟨vs,a,b⟩:=ents t;exact⟨v::vs,.cons r a,.cons rv b⟩
def zI{X:Cx}(p:us'.Perm us):∀{ds:List D}{vs:List V},Reps X.K ρ H ds vs->az vs us->∃ds' vs',ds'.Perm ds/\Reps X.K ρ H ds' vs'/\az vs' us':=by
 induction p with
 |nil=>intro ds vs r h;exact⟨ds,vs,.refl _,r,h⟩
 |cons x _ o =>
  intro ds vs r h;cases h with
  |cons a b =>
   cases r with
   |cons c d=>obtain⟨ds',vs',h1,h2,e⟩:=o d b;exact⟨_,_,h1.cons _,.cons c h2,.cons a e⟩
 |swap x y l =>
  intro ds vs r h;cases h with
  |cons a b =>
   cases b with
   |cons g j =>
    cases r with
    |cons c d =>
     cases d with
     |cons k m=>exact⟨_,_,.swap _ _ _,.cons k<|.cons c m,.cons g<|.cons a j⟩
 |trans _ _ i f=>intro ds vs r h;obtain⟨ds',vs',h1,h2,e⟩:=f r h;obtain⟨C,v,g1,n,g3⟩:=i h2 e;exact⟨C,v,g1.trans h1,n,g3⟩
def jZ(te:A3):A3:=λS M Q=>te S M λd a=>∃n xs,n<=8/\Kp a d xs/\xs.length<64/\(∀x∈xs,iL n x=a9/\nQ x=a9)/\SrtOk a xs/\∀ys:List D,ys.Nodup->(∀x,x∈ys↔x∈xs)->rJ a ys->Q (.ref a.length) (a++[.lst ys])
section
set_option maxHeartbeats 1000000 in
def yh(hr:Room k X.A)(hc:X.calm=a9)(he:DE X e te)(Y:X.mg "sorted" = a8)(Z:X.mg "set" = a8)(U:X.env.kindOf "sorted" = a7 .globalImplicit)(V:X.env.kindOf "set" = a7 .globalImplicit)(h1:i7 [e] X.env=[(c5,eval e X.env)]) (h2:i7 [Expr.Call (.Name "set" p') [e] [] pos'] X.env=[(c5,eval (Expr.Call (.Name "set" p') [e] [] pos') X.env)]):DE X (.Call (.Name "sorted" p) [.Call (.Name "set" p') [e] [] pos'] [] pos) (jZ te):=by
 rintro pins s σ H R I ⟨S,M,ρ,Q,sm,sr,q,kk⟩;refine MR<|iB I U Y (by rfl) ?_;refine callWith_builtin1 ?_ (by rw[h2];rfl) rfl;rw[h2];refine Pw ?_;refine MR<|iB I V Z (by rfl) ?_;refine callWith_type1 ?_ (by rw[h1];rfl) rfl;rw[h1];refine Pw<|v6 (he pins s σ H _ I ⟨S,M,ρ,_,sm,sr,q,λv H' z=>z⟩) ?_;rintro u s1 ⟨v,H1,w,rv,d,M1,bf,c,g1,r1,cases⟩;refine Calls.spliced_nil ?_;obtain⟨n,xs,n8,sq,hl,hk,so,G⟩:=cases;obtain⟨a,T,its,ws,rfl,src,P,vx⟩:=Hv w c r1 rv sq;have li:its.size=xs.length:=by have h1:=vx.length;have h2:=P.length;simp at h1;lia
 have un:=hr.un;refine GS c w n8 b7 (w.ok.hd hc) src (λi=>xs.getD i .non) (λi v e=>?_) b7 λh2 f ds k2 l W aD=>?_;obtain⟨d,vv,e1,r,rv⟩:=yN P vx (by rw[K2];exact e);have F:xs.getD i .non=d:=by rw[G8,e1];rfl
 have:=hk d<|Kw e1;exact⟨vv,by rw[F];exact r,rv,by rw[F];exact this.1,by rw[F];exact this.2⟩;refine Calls.spliced_nil ?_;have C:=w.kept (t':=f) k2;obtain⟨o,es,ep,t,K⟩:=l;have aP:ds.length=es.size:=by have:=K.en.length;simpa using this
 have hz:es.size<=sizeLine:=by rw[KW];lia
 refine xE (s:={ s1 with heap:=h2,toks:=f }) (C.ok.hd hc) ⟨K.ob,K.dt,K.fits⟩ K.ex.1 (λz=>.inr K.tk.ris) K.ld hz λh3 aS dr D vs k3 J N pv=>?_;have h:∀x,x∈ds↔x∈xs:=λx=>by
  rw[W x,li];constructor;rintro⟨j,L,rfl⟩;have e:xs.getD j .non=xs[j]:=by simp[List.getD,L]
  rw[e];exact KI L;intro hx;obtain⟨j,L,e⟩:=List.getElem_of_mem hx;exact⟨j,L,by rw[show xs.getD j .non=xs[j] by simp[List.getD,L]];exact e⟩
 obtain⟨bd,aj,ap⟩:=ents K.en;obtain⟨ds',aT,B,an,as⟩:=zI pv aj ap;obtain⟨m,hn,_⟩:=C.loc;have O:D≠X.env.locals:=λz=>by obtain⟨oL,_,_,hL,_⟩:=hn;rw[z]at J;rw[J]at hL;cases hL
 have ab:h3.Ns X.env.locals m:=hn.at' λo e=>k3 _ _ e;refine zt (X:=X) (pins:=pins) (σ:=σ) (s:={ s1 with heap:=h2,toks:=f,drawn:=dr }) (n:=0) hr (by show X.A.units+1<=X.A.units+4;lia) C.drew c (so.sub (ys:=ds') (λy hy=>(h y).mp<|B.mem_iff.mp hy)<|by rw[B.length_eq];lia).g an as hn ab (λb u _ e=>k3 b u e) J O N λv H' x=>?_;refine kk v H' ?_;have:=x (λd E=>Q d E) λys hp ai=>?_;obtain⟨d,E,ax,a1,a2,a3,a4⟩:=this;exact⟨d,E,ax,a1,g1.trans a2,a3,a4⟩;exact G ys ((hp.trans B).nodup_iff.mpr K.nd) (λx=>((hp.trans B).mem_iff).trans<|h x) ai
def xX(r:Room k X.A)(i:HE X e te)(Y:X.mg "sorted" = a8)(Q:X.mg "set" = a8)(f:X.calm=a9:=by kernel_rfl)(U:X.env.kindOf "sorted" = a7 .globalImplicit:=by kernel_rfl)(V:X.env.kindOf "set" = a7 .globalImplicit:=by kernel_rfl)(h1:i7 [e] X.env=[(c5,eval e X.env)]:=by kernel_rfl) (h2:i7 [Expr.Call (.Name "set" p') [e] [] pos'] X.env=[(c5,eval (Expr.Call (.Name "set" p') [e] [] pos') X.env)]:=by kernel_rfl):HE X (.Call (.Name "sorted" p) [.Call (.Name "set" p') [e] [] pos'] [] pos) (jZ te):=⟨yh r f i.ok Y Q U V h1 h2⟩
end
noncomputable instance decD:DecidableEq D:=λa b=>Classical.propDecidable<|a=b
end L2
namespace L2
open PySem PySem.Spec PyProof.Rows DL PySem.W PySem.Calls PyProof.V
structure PairsAt(es:Array DictEntry)(lo:d6)(h:d8)(as:List d6):Prop where
 nd:as.Nodup
 above:∀a∈as,lo<a
 tup:∀(j:Nat) (a:d6),as[j]?=a7 a->∃e,es[j]?=a7 e/\h.get? a=a7 { cls:=.type "tuple",data:=.seq #[e.key,e.val] }
section
variable{X:Cx}{o:i3}{to:A3}{apos cpos p pos:i5}{k:Nat}
noncomputable def cX(kvs:List (D×D)):List D:=kvs.map λp=>.tup [p.1,p.2]
end
end L2
namespace L2
open PySem PySem.Spec PyProof.Rows DL PySem.W
structure DD(X:Cx)(ρ:List d6)(H:Hp)(h:d8)(a:d6)(kvs:List (D×D))(xs:List (D×d6×c6)):Prop where
 dx:dX a xs X.prog X.w h
 kv:Paired (Ew X.K ρ H) kvs xs
 nd:(kvs.map (·.1)).Nodup
noncomputable abbrev EE(M:t7)(R:DK):DEnds:=⟨λ_ M'=>aE M R .non M',aE M R,λ_ _=>False,λ_ _=>False⟩
noncomputable def Op(n:Nat)(ds:List D):SD:=ds.map a7++J0 (n-ds.length) a8
abbrev D7(Pr:A7)(n:Nat)(t:t9):Prop:=∀ds M R,Pr ds M R->t (EE M R) (Op n ds) M
abbrev fu(Pr:A7)(p:List c8):Prop:=∀ds M R,Pr ds M R->ds.length=p.length
abbrev DerT(P:d5)(w:c9)(K:u6)(mg:c8->Option c6)(base:d8)(k:Nat)(x:c8)(N:List c8)(st:i8)(t:t9):Prop:=∀(f:d6) (cdv:c6) (A:f8) (outer:List g7) (s:f9) (H:Hp) (E:XK),Room k (A.deeper<|OU x (ao st) s.heap.objs.size f cdv)->HB (jw G3 P w K mg base N x (ao st) f cdv A outer s H E).nox (bG st) t
inductive TopB(mg:c8->Option c6):List c8->List (c8×Int)->Prop
 |nil:TopB mg [] []
 |b {x:c8}{B:List c8}{C:List (c8×Int)} (h:mg x=a8) (t:TopB mg B C):TopB mg (x::B) C
 |c {x:c8}{i:Int}{C:List (c8×Int)} (h:∃t,mg x=a7 (.int i t)) (t:TopB mg [] C):TopB mg [] ((x,i)::C)
def TopB.no(h:TopB mg B C)(c:B.contains x=a9):mg x=a8:=by
 induction h with
 |nil=>simp at c
 |b h _ i=>simp only[List.contains_cons,Pi,p7]at c;rcases c with rfl|c;exact h;exact i c
 |c _ _ _=>simp at c
def TopB.gi(h:TopB mg B C)(c:C.lookup x=a7 i):∃t,mg x=a7 (.int i t):=by
 induction h with
 |nil=>simp at c
 |b _ _ a=>exact a c
 |@c y _ _ h _ a=>rw[Mx]at c;split at c;rename_i e;cases c;rw[beq_iff_eq.mp e];exact h;exact a c
noncomputable def nodB:List c8->Bool
 | []=>a9
 |x::xs=>!xs.contains x&&nodB xs
def IA:∀{l:List c8},nodB l=a9->l.Nodup
 | [],_=>OH
 |x::xs,h=>by simp only[nodB,A2,Bool.not_eq_true',List.contains_eq_mem,decide_eq_false_iff_not]at h;exact KN.mpr ⟨h.1,IA h.2⟩
noncomputable def tgN:i3->List c8
 |.Name x _=>[x]
 |.Tuple es _ _=>es.filterMap fun|.Name x _=>a7 x|_=>a8
 |_=>[]
noncomputable abbrev Le(N:List c8)(js:List Nat)(tg:i3):List c8:=tgN tg++js.map λj=>N.getD j ""
def k_lcN(hi:HI X tg iter di)(S:∀cl s0 H0 ex,HG (z6 X (Le X.N js tg) scope cl s0 H0 ex) tg g)(D:∀cl s0 H0 ex,M7 (z6 X (Le X.N js tg) scope cl s0 H0 ex) ifs tt)(i:∀cl s0 H0 ex,HE (z6 X (Le X.N js tg) scope cl s0 H0 ex) elt te)(B:lz X.env.scope.names X.N (Le X.N js tg) nt js scope=a9:=by kernel_rfl) (f:X.calm=a9:=by kernel_rfl) (hs:∀x,j8 iter X.env x=pure x:=by intro _;kernel_rfl):HE X (.ListComp elt [⟨tg,iter,ifs,0⟩] scope pos) (E4 nt js di g tt te):=k_lc hi S D i B f hs
def tV(a:X.N.Nodup)(hi:HI X tg iter di)(S:∀cl s0 H0 ex,HG (z6 X (Le X.N js tg) scope cl s0 H0 ex) tg g)(D:∀cl s0 H0 ex,M7 (z6 X (Le X.N js tg) scope cl s0 H0 ex) ifs tt)(e:∀cl s0 H0 ex,HE (z6 X (Le X.N js tg) scope cl s0 H0 ex) elt te)(B:lz X.env.scope.names X.N (Le X.N js tg) nt js scope=a9:=by kernel_rfl) (f:X.calm=a9:=by kernel_rfl) (hs:∀x,j8 iter X.env x=pure x:=by intro _;kernel_rfl) (w:j0 (.ListComp elt [⟨tg,iter,ifs,0⟩] scope pos) (a7<|.Name x pos') pos2.line X.env=pure a9:=by kernel_rfl)(h:X.N[i]?=a7 x:=by kernel_rfl) (c:FF X.env.scope x=a9:=by kernel_rfl) (b:X.fn x=a9:=by kernel_rfl):HS X (.Assign [.Name x pos'] (.ListComp elt [⟨tg,iter,ifs,0⟩] scope pos) pos2) (lr nt js di g tt te i):=CU a hi S D e B f hs w h c b
def gA(h:HA X es t):HA X es t:=h
def gE(h:HE X e te):HE X e te:=h
def gCall(h:HE X (.Call a b c pos) te):HE X (.Call a b c pos) te:=h
def gIx(h:HE X (.Subscript a b pos) te):HE X (.Subscript a b pos) te:=h
def Jx(h:HE X (.Constant a b pos) te):HE X (.Constant a b pos) te:=h
def gT(h:HT X e tt):HT X e tt:=h
def gS{st:i8}{t:t9}(h:HS X st t):HS X st t:=h
def gOp(h:J5 X f r):J5 X f r:=h
def gC(h:HC X f r):HC X f r:=h
def vH{b:List i8}{st:i8}{s:List i8}{t:t9}(h:b=st::s)(q:HB X (st::s) t):HB X b t:=h ▸ q
section
variable{P:d5}{w:c9}{K:u6}{mg:c8->Option c6}{base:d8}{x:c8}{st:i8}{N ps:List c8}{k:Nat}{Pr:A7}{B:List c8}{C:List (c8×Int)}{t:t9}
def w4.byD(T:TopB mg B C)(F:dq K mg x st ps)(i:FnScope N ps (ao st))(n:fu Pr ps)(r:TopB mg B C->N.Nodup->DerT P w K mg base k x N st t)(p:∀ds M R,Pr ds M R->t (EE M R) (bp N ds) M):w4 P w K mg base (k+1) x ps Pr:=w4.byH F i n (r T i.nd) p
def Dm(T:TopB mg B C)(F:LO K x x st f fd)(i:FnScope N ps (ao st))(n:fu Pr ps)(r:TopB mg B C->N.Nodup->DerT P w K mg base k x N st t)(p:∀ds M R,Pr ds M R->t (EE M R) (bp N ds) M):FnOk P w K mg base G3 (k+1) f fd ps (Lv K Pr):=Dl F i n (r T i.nd) p
end
def oi(B:s.heap.get? l=a7 o)(f:o.cls=.type "list"\/o.cls=.type "tuple")(d:o.data=.seq vs.toArray n)(h:Q vs { s with heap:=(s.heap.push<|n4 "list" #[] 0).update s.heap.objs.size (F9 (· ++ vs.toArray)) }) (hsz:vs.length<=sizeLine):i0 (i4 prog w) A (collect<|.ref l) Q E s:=by
 rcases f with f|f;exact collect_list ⟨o,B,f,n,d⟩ h hsz;unfold collect;refine t4<|wpAny_runValue<|MM entry_proto_collect' ?_;show i0 _ _ (do again (.builtin "list.__iadd__" ⟨[<-newList [],.ref l],[]⟩)) _ _ s;refine t4<|MK (u5 ⟨Code.quiet_builtin _ dO,MM entry_list_iadd' ?_⟩)<|B0 _;show i0 _ _ (PR (.ref s.heap.objs.size) (.ref l)<|.ref s.heap.objs.size) _ _ { s with heap:=s.heap.push (n4 "list" #[] 0) };unfold PR;have a:(s.heap.push<|n4 "list" #[] 0).get? l=a7 o:=w5 _ B;refine t4<|Nb (T:="tuple") ⟨o,a,f⟩ ?_;have D:(MH "tuple" == MH "tuple")=a9:=by rfl
 rw[o8<|by rw[D];simp];refine t4<|NA a d ?_;refine t4<|NA (xs:=#[]) (n:=0) (B6 _ rfl) rfl ?_;rw[p0<|by simp];refine t4 (MJ (xs:=#[]) (n:=0) (B6 _ rfl) rfl ?_ (B0 _)<|by show (#[]++vs.toArray).size<=sizeLine+1;simp only[Array.size_append,A5,Ix];lia);refine u5 ?_;show i0 (i4 prog w) A (do
   let o <-load s.heap.objs.size
   match o.data with
   |.seq xs _=>pure xs.toList
   |_=>unsupported "internal:collect") Q E { s with heap:=(s.heap.push<|n4 "list" #[] 0).update s.heap.objs.size (F9 (· ++ vs.toArray)) }
 refine t4<|wpAny_load (MN (B6 _ rfl) _) ?_;show i0 _ _ (pure ((#[]:Array c6)++vs.toArray).toList) Q E _;rw[show ((#[]:Array c6)++vs.toArray).toList=vs by simp];exact u5 h
def EQ(hl:ks.length=vs.length)(h2:vs.length<2)(h:KatFin h₀ L m kS a ks e e1 vs (λs3=>P (.done<|.ret .none) s3) s):i0 (i4 prog w) A (ksk_end a c5 vs.toArray e1 (.ref kS)<|LC ks) P E s:=by
 have M:vs.toArray.size<2:=by rw[A5];exact h2
 unfold ksk_end;dsimp only;simp only[C8,p8];rw[o8 M,o8 M];refine t4<|u5 ?_;rw[Pg];refine t4<|u5 ?_;dsimp only;refine kat_tail (out:=vs) ?_ b7 b7 rfl h;show ((LC ks).zip vs.toArray).map (·.2)=vs.toArray
 match ks,vs,hl,h2 with
 | [],[],_,_=>simp
 | [k],[v],_,_=>simp
 | [],_::_,hl,_=>simp at hl
 |_::_,[],hl,_=>simp at hl
 |_::_::_,[_],hl,_=>simp at hl
 |_,_::_::_,_,h2=>simp at h2;lia
def EN{f:c6}{t:Nat}{P:PySem.Fin->f9->Prop}{Fin:List c6->Nat->f9->Prop}(p:s.heap.get? kS=a7 (n4 "list" #[] 0))(o:vs.length<64)(d:∀ks e s',ks.length=vs.length->Fin ks e s'->i0 (i4 prog w) A (ksk_end a c5 vs.toArray t (.ref kS)<|LC ks) P E s') (h:KatKeys prog w A h₀ L m kS f Fin vs [] 0 s):i0 (i4 prog w) A (ksk_rest a f c5 vs.toArray t<|.ref kS) P E s:=by
 unfold ksk_rest;refine t4<|M9 ?_
 first
  |rw[List.forIn_toArray]
  |(rw[<-Og];simp only[Qm])
  |rw[<-Og]
 refine t4<|D3 (kat_fold o (λx ks e s' C M H=>?_) vs [] 0 s b9 p h) (λ_ s' D=>?_) λ_ _ x=>x;refine t4<|Ms<|D3 H (λk i p=>?_) λ_ _ B=>B.elim;obtain⟨r,g,F,N,U,c⟩:=p;obtain⟨I,u,y,S,J,K⟩:=U.split;rw[y]at N;have n:=N (kS,n4 "list" (LC ks) e)<|E3 _<|.head _;have v:=MS i.heap kS (F9 (·.push k));have z:(LC ks).push k=LC (ks++[k]):=by simp
 obtain⟨j,b⟩:∃j,(i.heap.update kS (F9 (·.push k))).get? kS=a7 (n4 "list" (LC<|ks++[k]) j):=⟨_,by rw[<-z];exact MN n.1 (·.push k)⟩
 try dsimp only
 refine t4 (MJ n.1 rfl ?_ (by rw[A5,KW];lia)<|KY (Nat.le_of_eq<|Array.size_push ..)<|by rw[A5,KW];lia);exact u5 ⟨rfl,k,j,b,c _ j (kas_fr F v n.2.1 n.2.2)<|by rw[S];exact news_set N J K v b⟩;obtain⟨ks,e,q,G,l⟩:=D
 try dsimp only
 exact t4<|NA q rfl<|d ks e s' G l
structure Nu(X:Cx)(pins:List (d6×d7))(H:Hp)(a:d6):Prop where
 un:H a=a8
 ne:a≠X.env.locals
 fs:a∉X.fs
 s0:X.s₀.heap.objs.size<=a
 cl:∀x c,X.env.cells.lookup x=a7 c->c≠a
 pn:∀p∈X.pn++pins,p.1≠a
def t5.own(I:t5 X pins σ H s)(h:s.heap.objs.size<=a):Nu X pins H a:=⟨I.hok.fresh h,λe=>by rw[e]at h;exact p5 (E5 I.lt h)<|E8 _,I.nofs h,KY I.sz h,λx c e z=>by obtain⟨v,o,B,_⟩:=I.cell x c e;rw[z]at B;exact p5 (E5 (z8 B) h)<|E8 _,λp b e=>by have:=z8 (I.pin p b).1;rw[e]at this;exact p5 (E5 this h)<|E8 _⟩
def t5.turnF(I:t5 X pins σ H s)(w:Nu X pins H a)(k:∀b u,b≠X.env.locals->b≠a->s.heap.get? b=a7 u->h'.get? b=a7 u)(j:s.heap.Ns X.env.locals m)(h:h'.Ns X.env.locals m):t5 X pins σ H { s with heap:=h' }:=by
 have g:∀b u,H b=a7 u->b≠a:=λb u e=>ad e w.un;refine I.step (g':=s.gens) (d':=s.drawn) (t':=s.toks) (ch:=[a]) (λb d=>?_) (λb u L _ f e _=>k b u L eh e) (λb u L _ f e _=>⟨u.slots,k b u L eh e⟩) (λb u _ e n=>n) (λb u f e=>?_) (λb xs q=>q) (λb u xs q=>q) (λb ps q=>⟨#[],by rw[q];simp⟩) (λl i=>?_) (λb u q=>?_) I.bare;obtain rfl:b=a:=by simpa using d
 exact⟨.inr w.s0,w.ne,w.cl,w.pn⟩;by_cases d:b=X.env.locals;subst d;obtain⟨o',_,_,B,_⟩:=h;exact⟨o',B⟩;exact⟨u,k b u d eh e⟩;have:m=l:=funext λx=>j.agree i x;subst this;exact h;refine(I.hok b u q).stay (λc v f r=>k c v ?_ ?_ r) (λc z=>z) λc xs z=>z;rcases f with rfl|f;exact ad q I.free;exact ad f I.free;rcases f with rfl|f;exact g _ _ q;exact g _ _ f
def t5.adoptF(I:t5 X pins σ H s)(w:Nu X pins H a)(k:∀b u,b≠X.env.locals->b≠a->s.heap.get? b=a7 u->h'.get? b=a7 u)(l:s.heap.Ns X.env.locals m)(g:h'.Ns X.env.locals m)(i:cB X.prog X.w (v8 H a o) h' a o):t5 X pins σ (v8 H a o) { s with heap:=h' }:=by
 have d:=w.un;refine I.step (g':=s.gens) (d':=s.drawn) (t':=s.toks) (ch:=[a]) (λb h=>?_) (λb u L _ f e _=>k b u L eh e) (λb u L _ f e _=>⟨u.slots,k b u L eh e⟩) (λb u f e n=>by rw[am<|by simpa using f];exact n) (λb u f e=>?_) (λb xs q=>by rw[am<|ad q d];exact q) (λb u xs q=>by rw[am<|ad q d];exact q) (λb ps q=>⟨#[],by rw[am<|ad q d,q];simp⟩) (λp j=>?_) (λb u q=>?_) I.bare;obtain rfl:b=a:=by simpa using h
 exact⟨.inr w.s0,w.ne,w.cl,w.pn⟩;by_cases h:b=X.env.locals;subst h;obtain⟨o',_,_,B,_⟩:=g;exact⟨o',B⟩;exact⟨u,k b u h eh e⟩;have:m=p:=funext λx=>l.agree j x;subst this;exact g;by_cases h:b=a;subst h;rw[aI]at q;cases q;exact i;rw[am h]at q;refine(I.hok b u q).stay (λc v f r=>k c v ?_ ?_ r) (λc z=>by rw[am<|ad z d];exact z) λc xs z=>by rw[am<|ad z d];exact z
 rcases f with rfl|f;exact ad q I.free;exact ad f I.free;rcases f with rfl|f;exact ad q d;exact ad f d
structure KySt(X:Cx)(pins:List (d6×d7))(σ:St)(ρ:List d6)(M:t7)(m:c8->Option c6)(kS aD:d6)(e1:Nat)(H0 H:Hp)(s:f9)(ks:List c6)(e:Nat):Prop where
 inv:t5 X pins σ H s
 ns:s.heap.Ns X.env.locals m
 sm:v4 X.K ρ M H
 gr:Grow X.K ρ H0 ρ H
 hk:s.heap.get? kS=a7 (n4 "list" (LC ks) e)
 hd:s.heap.get? aD=a7 (n4 "list" #[] e1)
 ok:Nu X pins H kS
 od:Nu X pins H aD
 ne:aD≠kS
def Dk(n:h.Ns L m):Fr (Att.noObjs h0) L h m:=⟨n,λb o e=>(by rw[Att.noObjs_get]at e;cases e),B0 _⟩
def qL(b:d≠L)(B:h.get? d=a7 od):News (Att.noObjs h0) L h ((d,od)::Att.ledger h L d):=by rintro⟨a,o⟩ p;rcases z7.mp p with e|p;cases e;exact⟨B,b,Att.noObjs_get _ _⟩;obtain⟨n,c,e⟩:=Att.mem_ledger.mp p;exact⟨e,n,Att.noObjs_get _ _⟩
def iw(N:News (Att.noObjs h0) L h' ((d,o)::Att.ledger h L d)):∀b u,b≠L->b≠d->h.get? b=a7 u->h'.get? b=a7 u:=λb u h1 h2 e=>(N (b,u)<|C4 _<|Att.mem_ledger.mpr ⟨h1,h2,e⟩).1
abbrev KeyG(X:Cx)(pins:List (d6×d7))(σ:St)(ρ:List d6)(M:t7)(f:d6)(key:D->D)(xs:List D):Prop:=∀(s:f9) (H:Hp) (d:D) (v:V) (u:c6),d∈xs->t5 X pins σ H s->v4 X.K ρ M H->u7 X.K ρ H d v->aR v u ->k9 (i4 X.prog X.w) X.A.in1.in1 (.call (.ref f) ⟨[u],[]⟩) (CR G3 X.stack X.prog X.w H s (λv' H'=>VQ X.K ρ H (λx M'=>x=key d/\M'=M) v' H') E0) s
def EO{f:d6}{l:D->D}{xs:List D}(G:KeyG X pins σ ρ M f l xs){h0:d8}{m:c8->Option c6}{j S:d6}{N:Nat}{H0:Hp}{Fin:List c6->Nat->f9->Prop}{F:List D} (P:∀H s kvs ks e,KySt X pins σ ρ M m S j N H0 H s ks e->Reps X.K ρ H F kvs->az kvs ks->Fin ks e s):∀(r:List D) (ws:List V) (its:List c6) (done:List D) (kvs:List V) (ks:List c6) (e:Nat) (H:Hp) (s:f9),KySt X pins σ ρ M m S j N H0 H s ks e->Reps X.K ρ H r ws->az ws its->Reps X.K ρ H done kvs->az kvs ks ->done++r.map l=F->(∀d∈r,d∈xs)->KatKeys X.prog X.w X.A.in1.in1 (Att.noObjs h0) X.env.locals m S (.ref f) Fin its ks e s:=by
 intro r;induction r with
 |nil=>intro ws its done kvs ks e H s g r v Y vd R _;obtain rfl:=Reps.inv_nil r;obtain rfl:=az.inv_nil v;refine KatKeys.nil<|P H s kvs ks e g ?_ vd;rw[<-R,Me,Lh];exact Y
 |cons d r ih =>
  intro ws its done kvs ks e H s g rr v Y vd R hP;obtain⟨ab,ws,rfl,r1,rr⟩:=Reps.inv_cons rr;obtain⟨u,its,rfl,ru,v⟩:=az.inv_cons v;have I:=g.inv;refine KatKeys.cons<|l5<|Mq (G s H d ab u (hP d A9) I g.sm r1 ru) λZ s' n=>?_;cases Z with
  |error e=>exact n.elim
  |ok fl =>
   cases fl with
   |next=>exact n.elim
   |brk=>exact n.elim
   |cont=>exact n.elim
   |ret u' =>
    obtain⟨v',H',os,k,un,T,rv,q⟩:=n;obtain⟨E,Q,L,tk,U⟩:=s';obtain rfl:U=s.os:=os;obtain⟨_,_,ai,s1,g1,W,rfl,rfl⟩:=q;have O:ai=ρ:=by obtain⟨t,rfl⟩:=g1.pre;have h1:=s1.len;have h2:=g.sm.len;rw[E2]at h1;rw[List.eq_nil_of_length_eq_zero (show t.length=0 by lia),Lh]
    subst O;have J:t5 X ((S,n4 "list" (LC ks) e)::(j,n4 "list" #[] N)::pins) σ H s:=I.pins_of λp a=>by rcases z7.mp a with rfl|a;exact⟨g.hk,g.ok.un,g.ok.ne,g.ok.fs,λ_ z=>nomatch z⟩;rcases z7.mp a with rfl|a;exact⟨g.hd,g.od.un,g.od.ne,g.od.fs,λ_ z=>nomatch z⟩;exact I.pin p<|E3 _ a
    have C:=J.call (h':=E) (g':=Q) (d':=L) (t':=tk) (ch:=[]) un T k (λb z=>p5 z<|by simp);have pk:=C.pin (S,_)<|E3 _ A9;have pd:=C.pin (j,_)<|E3 _<|C4 _ A9;have I':t5 X pins σ H' ⟨E,Q,L,tk,s.os⟩:=C.pins_of λp a=>C.pin p<|E3 _<|C4 _<|C4 _ a;have y:E.Ns X.env.locals m:=by obtain⟨o,es,ep,ho,aO⟩:=g.ns;obtain⟨sl,hL⟩:=un.any ho I.free b9;exact⟨_,es,ep,hL,aO⟩
    have i:Nu X pins H' S:=⟨pk.2.1,g.ok.ne,g.ok.fs,g.ok.s0,g.ok.cl,g.ok.pn⟩
    have B:Nu X pins H' j:=⟨pd.2.1,g.od.ne,g.od.fs,g.od.s0,g.od.cl,g.od.pn⟩
    refine KatBack.intro (s:=⟨E,Q,L,tk,s.os⟩) (Dk y) (qL i.ne pk.1) (Ny λp a=>(Att.mem_ledger.mp a).2.1) λh2 c F2 N2=>?_;have kp:=iw N2;refine ih ws its (done++[l d]) (kvs++[v']) (ks++[u']) c H' _ ⟨I'.turnF i kp y F2.ns,F2.ns,s1,⟨g.gr.pre,λx xs h=>g1.tup x xs<|g.gr.tup x xs h,λx o h=>g1.fr x o<|g.gr.fr x o h⟩,(N2 _ A9).1,kp j _ B.ne g.ne pd.1,i,B,g.ne⟩ (rr.grow g1) v ((Y.grow g1).append<|.cons W .nil) (vd.append<|.cons rv .nil) (by rw[<-R,B9,F0];rfl) λx hx=>hP x<|C4 _ hx
def wy{k n:Nat}{f l:d6}{o:d7}{s:f9}{H:Hp}{xs:List D}{ws:List V}{its:List c6}{y:D->D}{R:VK}(G:KeyG X pins σ ρ M f y xs)(hr:Room (k+2) X.A)(I:t5 X pins σ H s) (sm:v4 X.K ρ M H) (r:Reps X.K ρ H xs ws) (rr:az ws its) (ho:s.heap.get? l=a7 o) (hc:o.cls=.type "list"\/o.cls=.type "tuple") (hd:o.data=.seq its.toArray n) (ai:its.length<64) (so:SrtG M (xs.map y)) (kk:∀v H',(∀Q:DK,(∀ys,ys.Perm xs->ys.Pairwise (λa b=>C9 M v3 (y b) (y a)=c5)->Q (.ref M.length) (M++[.lst ys]))->VQ X.K ρ H Q v H')->R v H'):i0 (i4 X.prog X.w) X.A (call (.builtin "sorted") [.ref l] [(x9 "key",.ref f)]) (EP X pins σ R) X.xe s:=by
 have lw:=r.length;have li:=rr.length;have u:its.length<=sizeLine:=by rw[KW];lia
 refine call_function_entry_kw kind_sorted plain_sorted entry_sorted (ksk_s1 _ _) ?_;unfold Builtin.«sorted»;refine t4 (m:=checkCount "sorted" 1 1 _)<|u5<|t4<|oi ho hc hd (t4<|MK ?_ u) u;generalize hg:((s.heap.push<|n4 "list" #[] 0).update s.heap.objs.size (F9 (· ++ its.toArray)))=g1;have P:g1.objs.size=s.heap.objs.size+1:=by rw[<-hg,Pl,size_push']
 have k1:∀b o,s.heap.get? b=a7 o->g1.get? b=a7 o:=λb o q=>by have an:=z8 q;rw[<-hg,My _ _ _ _<|A4 an,Heap.get?_push_ne _ _ _<|A4 an];exact q
 show i0 _ _ _ _ _ { s with heap:=g1.push (n4 "list" its.toArray 0) };have O:(g1.push<|n4 "list" its.toArray 0).get? g1.objs.size=a7 (n4 "list" its.toArray 0):=B6 _ rfl;refine t4<|J6<|wpAny_call_entry_kw slot_list_sort (⟨_,O,rfl⟩) Ph ?body<|ksk_l1 _ _
 case body =>
  show i0 (i4 X.prog X.w) X.A.in1.in1 (Builtin.«list.sort» ⟨[.ref g1.objs.size],[(x9 "key",.ref f)]⟩) _ _ _;rw[ksk_t1];unfold ksk_tree;refine t4<|NA O rfl<|t4<|MJ O rfl ?_ (by rw[A5];exact u)<|B0 _;obtain⟨e1,N⟩:∃e1,((g1.push<|n4 "list" its.toArray 0).update g1.objs.size<|F9 λ_=>(#[]:Array c6)).get? g1.objs.size=a7 (n4 "list" #[] e1):=⟨_,MN O λ_=>#[]⟩
  refine t4<|Nz N rfl<|t4<|OI (t4<|MK (J6 ?_)<|B0 _) u;have k2:∀b o,s.heap.get? b=a7 o->((g1.push<|n4 "list" its.toArray 0).update g1.objs.size<|F9 λ_=>(#[]:Array c6)).get? b=a7 o:=λb o q=>by rw[My _ _ _ _<|A4<|by rw[P];exact Mj<|z8 q];exact w5 _<|k1 b o q
  have t:((g1.push<|n4 "list" its.toArray 0).update g1.objs.size<|F9 λ_=>(#[]:Array c6)).objs.size=g1.objs.size+1:=by rw[Pl,size_push']
  generalize ((g1.push<|n4 "list" its.toArray 0).update g1.objs.size<|F9 λ_=>(#[]:Array c6))=T at N k2 t ⊢;dsimp only;have k3:∀b o,T.get? b=a7 o->((T.push<|n4 "tuple" its.toArray 0).push<|n4 "list" #[] 0).get? b=a7 o:=λb o q=>w5 _<|w5 _ q;have J:((T.push<|n4 "tuple" its.toArray 0).push<|n4 "list" #[] 0).get? (T.push<|n4 "tuple" its.toArray 0).objs.size=a7 (n4 "list" #[] 0):=B6 _ rfl;have E:(T.push<|n4 "tuple" its.toArray 0).objs.size=T.objs.size+1:=size_push' _ _;generalize (T.push<|n4 "tuple" its.toArray 0).objs.size=kS at J E ⊢;generalize ((T.push<|n4 "tuple" its.toArray 0).push<|n4 "list" #[] 0)=g3 at J k3 ⊢;generalize g1.objs.size=Y at N P t ⊢;obtain⟨m,hn,_⟩:=I.loc;have st:KySt X pins σ ρ M m kS Y e1 H H { s with heap:=g3 } [] 0:=⟨I.kept (t':=s.toks) λb o q=>k3 b o<|k2 b o q,(by obtain⟨o',es,ep,as,aO⟩:=hn;exact⟨o',es,ep,k3 _ _<|k2 _ _ as,aO⟩),sm,.refl,J,k3 _ _ N,I.own (by rw[E,t,P];exact Oa _ 3),I.own (by rw[P];exact Oa _ 1),by rw[E,t];exact A4<|Nat.lt_add_of_pos_right (by decide:0<2)⟩
  have ax:Room k X.A.in1.in1:=(Room.in1 (k:=k+1) hr).in1;refine EN (h₀:=Att.noObjs s.heap) (L:=X.env.locals) (m:=m) (Fin:=λW e s'=>∃H' F,KySt X pins σ ρ M m kS Y e1 H H' s' W e/\Reps X.K ρ H' (xs.map y) F/\az F W) J ai (λW e s' hl ⟨H',F,g,rk,vk⟩=>?_)<|EO G (λH' s' F W e g r v=>⟨H',F,g,r,v⟩) xs ws its [] [] [] 0 H _ st r rr .nil .nil rfl λ_ q=>q;have ab:∀ys zs S,Reps X.K ρ H' ys zs->az zs S->ys.Perm xs->ys.Pairwise (λa b=>C9 M v3 (y b) (y a)=c5)->KatFin (Att.noObjs s.heap) X.env.locals m kS Y W e e1 S (λs4=>EP X pins σ R (.ref Y) s4) s':=λys zs S ry vy hp hw=>by refine KatFin.intro (Dk g.ns) (qL g.ok.ne g.hk) (Ny λp hp=>(Att.mem_ledger.mp hp).2.1) λh2 c F2 N2=>?_;have kp:=iw N2;refine KasFin.intro (s:={ s' with heap:=h2 }) (Dk F2.ns) (qL g.od.ne<|kp Y _ g.od.ne g.ne g.hd) (Ny λp hp=>(Att.mem_ledger.mp hp).2.1) λh3 c3 F3 N3=>?_;refine⟨.ref Y,_,(g.inv.turnF g.ok kp g.ns F2.ns).adoptF (o:=.lst zs) g.od (iw N3) F2.ns F3.ns ⟨?_,S,c3,vy,(N3 _ A9).1⟩,rfl,kk _ _ λQ hQ=>VQ.laidL g.sm g.gr ry g.od.un<|hQ ys hp hw⟩;rw[<-ry.length,hp.length_eq,lw,li];exact u
  by_cases h2:its.length<2;refine EQ (hl) h2<|(ab xs ws its (r.grow g.gr) rr (Ni _) ?_).mono λs4 hq=>⟨_,rfl,u5 ⟨_,rfl,hq⟩⟩
  match xs,(show xs.length<2 by lia) with
  | [],_=>exact Od
  | [x],_=>exact OX _ _
  |_::_::_,hx=>simp at hx;lia
  have ap:2<=its.length:=by lia
  refine kat_end (b:=c5) (h₀:=Att.noObjs s.heap) (L:=X.env.locals) (m:=m) (e:=e) hl ap ai ?_;have hu:X.A.in1.in1.units+v3<k7:=by have:=hr.un;have:v3=30:=rfl;show X.A.units+1+1+v3<k7;lia
  have kl:W.length=xs.length:=by lia
  refine D3 (jN g.inv g.sm so rk vk b7 hu) (λκ aP hk=>?_) λ_ _ x=>x;obtain⟨rfl,aj⟩:=hk;show (LP its.length).kasWp (n5 X.prog X.w X.A.in1.in1 κ W) (λp s3=>KatFin (Att.noObjs s.heap) X.env.locals m kS Y W e e1 (p.toList.map λi=>its.getD i G6) _ s3) _;have U:∀i,i<xs.length->(xs.map y).getD i default=y (xs.getD i default):=λi hi=>by rw[G8,G8,F5,A1 hi];rfl
  refine Srt.wp_run (n:=its.length) (c:=λi j=>if i<xs.length then(if j<xs.length then C9 M v3 (y<|xs.getD i default) (y<|xs.getD j default)else a9)else c5) (λi j C hi hj hc=>?_) _ (Srt.sort_bd<|by lia).1 ?_;refine aj i j C b7 b7 ?_;rw[o8 b7,o8<|by lia]at hc;unfold ltc;rw[U i b7,U j<|by lia];exact hc;have z:=Srt.All.run (c:=λi j=>if i<xs.length then(if j<xs.length then C9 M v3 (y<|xs.getD i default) (y<|xs.getD j default)else a9)else c5) _ (Srt.sort_bd (n:=its.length)<|by lia).2;obtain⟨o1,o2,o3⟩:=Cu so;have Z:∀x∈xs,y x∈xs.map y:=λx hx=>Ql hx;have B:=Srt.sort_list (lt:=λa b=>C9 M v3 (y a)<|y b) xs b7 (λa ha=>o1 _<|Z a ha) (λa ha b hb d hd=>o2 _ (Z a ha) _ (Z b hb) _<|Z d hd)<|λa ha b hb d hd=>o3 _ (Z a ha) _ (Z b hb) _<|Z d hd
  try dsimp only at B
  rw[show xs.length=its.length by lia]at B z ⊢;generalize Srt.run _ (LP its.length)=p at z B ⊢;have hi:∀i∈p.toList,i<xs.length:=λi h=>by have:=z.mem_iff.mp h;rw[G1]at this;lia
  exact(ab _ _ _ ((r.grow g.gr).perm p.toList hi) (rr.perm p.toList λi h=>by have:=hi i h;lia) B.1 B.2).mono λs4 hq=>⟨_,rfl,u5 ⟨_,rfl,hq⟩⟩
structure BlkScC(X:Cx)(N':List c8)(nt:Nat)(js:List Nat)(scope:g8):Prop where
 kind:scope.kind=.function
 kinds:∀y∈scope.names,scope.names.lookup y.1=a7 y.2
 free:∀y∈scope.names,y.2=.free->(X.env.kindOf y.1=a7 .cell\/X.env.kindOf y.1=a7 .free)
 len:N'.length=nt+js.length
 fr:∀(k j:Nat),js[k]?=a7 j->∃x,N'[nt+k]?=a7 x/\X.N[j]?=a7 x/\scope.names.lookup x=a7 .free/\(X.env.kindOf x=a7 .cell\/X.env.kindOf x=a7 .free)
structure CfOk(h:d8)(k:Nat)(names:List (c8×l6))(acc cs:List (c8×d6)):Prop where
 look:∀z c,cs.lookup z=a7 c->(acc.lookup z=a7 c/\(z,Ng)∉names)\/((z,Ng)∈names/\k<=c/\h.IsCell c a8)
 inj:∀y z c,cs.lookup y=a7 c->cs.lookup z=a7 c->y=z
 old:∀z c,acc.lookup z=a7 c->∃c',cs.lookup z=a7 c'
 new:∀z,(z,Ng)∈names->∃c,cs.lookup z=a7 c
def GK(i:Nat):KR:=al i
def fU{α:Type}(f:α->D)(k:D)(l:List α)(h:∀x∈l,f x≠k):l.filter (λy=>!decide (f y=k))=l:=List.filter_eq_self.mpr λz b=>by simp[h z b]
def BMain(mg:c8->Option c6)(base:d8):Prop:=∃m o,mg "__builtins__" = a7 (.ref m)/\m≠builtinsNs/\m≠f6/\base.get? m=a7 o/\o.cls=.type "module"/\o.dict=a7 builtinsNs/\o.data=.plain
def Kq(X:Cx)(x:c8):Prop:=∃(f:d6) (oc:c6) (j:Option d6) (d:k8) (m:Array (Option c6)),X.mg x=a7 (.ref f)/\X.K.lookup f=a7 ⟨oc,j,.func d,m⟩/\X.env.code=d.code
def Kq.code(S:Kq X x)(I:t5 X pins σ H s)(h:tabIn X.K x=a7 (c,P)):X.env.code=.ref c:=by obtain⟨f,oc,j,g,m,h1,h2,a⟩:=S;unfold tabIn at h;split at h;rename_i e d;have t:=mg_of I.mod.kin I.mod.glob d;rw[h1]at t;cases t;split at h;rename_i l;rw[h2]at l;cases l;split at h;rename_i U b;split at h;split at h;cases h;rw[a,b];cases h;cases h;cases h;cases h;cases h
def FM{P:d5}{w:c9}{K:u6}{mg:c8->Option c6}{base:d8}{A:f8}{a:List g7}{s:f9}{H:Hp}{k:Nat}{f U:d6}{nm l:c8}{p:Arguments}{c:i3}{scope:g8}{B h:c6}{N ps:List c8}{te:A3}{ρ:List d6}{M:t7}{d:D}{v:V}{u:c6}{R:DK} (j:Env0 P w K mg base A a s H) (W:s.heap.get? f=a7 (o6 nm l p c scope [] B U h)) (m:s.heap.CodeRec (.ref U) l) (S:FnScope N ps scope) (t:Room (k+1) A)(O:BindsTo s (kla_fn nm l p c scope [] B (.ref U) h) ⟨[u],[]⟩ (ps.zip [u])) (T:1=ps.length) (i:∀E,Room k (A.deeper<|c7 l scope s.heap.objs.size f<|.ref U)->DE (jw G3 P w K mg base N l scope f (.ref U) A a s H E).nox c te)(G:v4 K ρ M H) (r:u7 K ρ H d v) (Z:aR v u) (X:te (bp N [d]) M (aE M R)):k9 (i4 P w) A (.call (.ref f) ⟨[u],[]⟩) (CR G3 a P w H s (λv' H'=>VQ K ρ H R v' H') E0) s:=by
 have F:s.heap.NoLimit:=j.mod.nolimit.keeps λb o e=>(j.bs b o e).1;have g:∀y∈ps.zip [u],scope.names.lookup y.1=a7 .local\/(scope.names.lookup y.1=a7 .cell/\((cellsFrom (s.heap.objs.size+1) scope.names []).lookup y.1).isSome=a9):=λ⟨n,v⟩ Y=>by rcases S.par n (OK Y).1 with q|q;exact .inl q;exact .inr ⟨q,PJ _ _ _<|.inl q⟩
 refine kla_callFunE t.depth W rfl S.co S.gen rfl m<|O _ _ _ _ ?_;refine QE S.kind g λenv Q C x=>?_;subst Q;refine⟨F.keeps x.toInCall.keep,kla_codeExpr ?_⟩;have I:t5 (jw G3 P w K mg base N l scope f (.ref U) A a s H E0) [] (start N [v]) H C:=nS S t.hd j T (.cons Z .nil) x;have L:=PE.nox<|i E0<|t.deeper _;refine D3 (L [] C (start N [v]) H (λv' H'=>VQ K ρ H (aE M R) v' H') I ⟨bp N [d],M,ρ,_,G,SRep.start (.cons r .nil) N,X,λ_ _ z=>z⟩) (λu' s' hs=>?_) λe s' hs=>hs;obtain⟨v',H',J,rv,q⟩:=hs;exact⟨v',H',J.os,J.bare,J.base,J.hok,rv,VQ.endq G q⟩
noncomputable def lamB(c:g8)(y:c8):Bool:=decide (c.kind=.function) && !c.isCoroutine && !c.isGenerator&&decide (c.names.lookup y=a7 .local)&&c.names.all λp=>decide<|p.2≠.free
def Ah(h:lamB sc y=a9):FnScope [y] [y] sc:=by
 simp only[lamB,A2,p6,Bool.not_eq_true',z5]at h;obtain⟨⟨⟨⟨h1,h2⟩,a⟩,d⟩,k⟩:=h;refine⟨h1,h2,a,KN.mpr ⟨Ls,OH⟩,rfl,λx c=>?_,λp b=>k p b⟩;obtain rfl:x=y:=by simpa using c
 exact .inl d
abbrev DerL(P:d5)(w:c9)(K:u6)(mg:c8->Option c6)(base:d8)(k:Nat)(x:c8)(N:List c8)(st:i8)(t:t9):Prop:=∀(f:d6) (cdv:c6) (A:f8) (outer:List g7) (s:f9) (H:Hp) (E:XK),Room k (A.deeper<|OU x (ao st) s.heap.objs.size f cdv)->Kq (jw G3 P w K mg base N x (ao st) f cdv A outer s H E).nox x->HB (jw G3 P w K mg base N x (ao st) f cdv A outer s H E).nox (bG st) t
def w4.byL{P:d5}{w:c9}{K:u6}{mg:c8->Option c6}{base:d8}{x:c8}{st:i8}{N ps:List c8}{k:Nat}{e:A7}{B:List c8}{C:List (c8×Int)}{t:t9}(T:TopB mg B C)(F:dq K mg x st ps)(y:FnScope N ps (ao st))(n:fu e ps)(i:TopB mg B C->N.Nodup->DerL P w K mg base k x N st t)(Y:∀ds M R,e ds M R->t (EE M R) (bp N ds) M):w4 P w K mg base (k+1) x ps e:=by obtain⟨f,O,u,D,U⟩:=F;refine⟨f,O,?_,D,u.kp,U⟩;obtain⟨oc,X,kV,L,pm,Z,g,ct,G,rfl,J,m⟩:=u.ex;refine Do J m y (λvs H Q E ⟨ds,M,ρ,R,s,r,q,_⟩=>by rw[<-r.length];exact n ds M R q) λA o s H vs Q E V h=>?_;obtain⟨ds,M,ρ,R,p,r,q,I⟩:=h;have W:=i T y.nd f g A o s H E V ⟨f,oc,X,_,G,D,J,rfl⟩;refine⟨lowS K t,Kz.nox W.ok,bp N ds,M,ρ,_,p,SRep.start r N,Y ds M R q,⟨λc H' ⟨S,d,a,s',l,b,j⟩=>?_,λv H' z=>I v H'<|VQ.endq p z,λc H' ⟨S,d,a,s',l,b,j⟩=>j.elim,λc H' ⟨S,d,a,s',l,b,j⟩=>j.elim⟩⟩;exact I .non H'<|VQ.endq p ⟨.non,d,a,s',l,.non,j⟩
def BY{K:u6}{x:c8}{c P:d6}(h:tabIn K x=a7 (c,P)):∃o,K.lookup c=a7 o:=by unfold tabIn at h;split at h;split at h;split at h;rename_i U _;split at h;rename_i e;split at h;cases h;exact⟨_,e⟩;cases h;cases h;cases h;cases h;cases h
end L2
namespace L2
open PySem PySem.Spec PyProof.Rows DL
def GtAt(A:f8)(s:f9)(x y:c6)(k:Bool):Prop:=∀(g:d5) (w:c9) (E:c6->f9->Prop) (Q:c6->f9->Prop),Q (.bool k) s->i0 (i4 g w) A (richCompare .Gt x y) Q E s
inductive GexAt(A:f8)(s:f9):List c6->List c6->Bool->Prop
 |nn:GexAt A s [] [] c5
 |nc {y:c6}{ys:List c6}:GexAt A s [] (y::ys) c5
 |cn {x:c6}{xs:List c6}:GexAt A s (x::xs) [] a9
 |eq {x y:c6}{xs ys:List c6}{k:Bool} (h:Md A s x y a9) (t:GexAt A s xs ys k):GexAt A s (x::xs) (y::ys) k
 |ne {x y:c6}{xs ys:List c6}{k:Bool} (h:Md A s x y c5) (t:GtAt A s x y k):GexAt A s (x::xs) (y::ys) k
noncomputable def pM(es:Array DictEntry)(h:Int)(i:Nat):Bool:=(es[i]?.map (·.hash))==a7 h
section
open PySem.W
variable{prog:d5}{w:c9}{A:f8}{E:c6->f9->Prop}{s:f9}{K:Frag}{x D:d6}{ox:d7}
structure ExcK(K:Frag)(D:d6):Prop where
 ga:findIn K (.ref D) "__getattribute__" = a7 (a7<|.builtin "BaseException.__getattribute__")
 gt:findIn K (.ref D) "__getattr__" = a7 a8
 mb:mroIn K D (.type "BaseException")=a7 a9
 mo:mroIn K D (.type "object")=a7 a9
 cl:findIn K (.ref D) "__class__" = a7 (a7<|.builtin "object.__class__")
def Ks(h:d8)(x D:d6):Prop:=∃o,h.get? x=a7 o/\o.cls=.ref D
def Ks.type(I:Ks h x D):Looks M h (typeOf<|.ref x) (.ref D):=by obtain⟨o,e,c⟩:=I;exact c ▸ (Looks.ld e).andThen .now
def vq(X:K.In h)(c:ExcK K D):Looks M h (Builtin.ObjectAttr.find (.ref x) (.ref D) "__class__") (.bind (.builtin "getset_descriptor.__get__")<|.builtin "object.__class__"):=by
 have t:typeIn K (.builtin "object.__class__")=a7 (.type "getset_descriptor"):=by kernel_rfl
 have h1:specialIn K (.builtin "object.__class__") "__get__" = a7 (a7<|.builtin "getset_descriptor.__get__"):=by unfold specialIn;rw[t];kernel_rfl
 have h2:takesIn K (.builtin "object.__class__")=a7 a9:=by unfold takesIn specialIn;rw[t];kernel_rfl
 have L:=looks_findIn (M:=M) X c.cl;have L2:Looks M h (Builtin.ObjectAttr.getOf<|a7<|.builtin "object.__class__") (a7<|.builtin "getset_descriptor.__get__"):=looks_specialIn X h1;have a:=looks_takesIn (M:=M) X h2;refine L.andThen<|L2.andThen ?_;exact(show Looks M h (Builtin.ObjectAttr.dataDescriptor? (a7<|.builtin "object.__class__")<|a7<|.builtin "getset_descriptor.__get__") (a7 (.builtin "getset_descriptor.__get__",.builtin "object.__class__"))from a.andThen .now).andThen<|Looks.tag .now
def JD(X:K.In s.heap)(I:Ks s.heap x D)(d:mroIn K D (.type "object")=a7 a9)(h:R (.ok<|.ret<|.ref D) s):k9 (i4 prog w) A (.call (.builtin "getset_descriptor.__get__") ⟨[.builtin "object.__class__",.ref x,tp],[]⟩) R s:=by
 obtain⟨b,g,r,t,c⟩:=s;have L:=I.type (M:=i4 prog w);have a:=looks_mroIn (M:=i4 prog w) X d;refine codeAny_call_builtin KF.slot_gs.plain KF.entry_gs<|KF.slot_gs.check _ _ _ _ _ _ _ _ KF.type_class (KF.args_gs _ _ _) ?_;unfold Builtin.«getset_descriptor.__get__» Builtin.Getset_descriptor.descrGet;rw[dga_obj];refine t4<|u5 ?_;unfold Builtin.Getset_descriptor.descrGetter Builtin.Getset_descriptor.descrCheckInstance Builtin.Getset_descriptor.descrNameAndClass isInstance;simp only[KF.owner_class]
 repeat lk
 refine⟨Code.quiet_builtin _ dO,MM KF.entry_class ?_⟩;unfold Builtin.«object.__class__» shownTypeOf
 repeat lk
 exact h
def Dq(X:K.In s.heap)(c:ExcK K D)(I:Ks s.heap x D)(h:Q (a7<|.ref D) { s with toks:=s.toks+1 }):i0 (i4 prog w) A (getAttr? (.ref x) "__class__") Q E s:=by
 obtain⟨j,g,d,t,p⟩:=s;have L:=I.type (M:=i4 prog w);have k:=looks_findIn (M:=i4 prog w) X c.ga;have L2:=looks_findIn (M:=i4 prog w) X c.gt;have m:=looks_mroIn (M:=i4 prog w) X c.mb;have l:=vq (M:=i4 prog w) (x:=x) X c;have i:=F.excAttr_ValueError.ga;have r:=i.bind<|.ref x;have f:(OC "BaseException.__getattribute__" == OC "object.__getattribute__")=c5:=by decide +kernel
 have e:(onTheHeap (F8 D)&&OC "BaseException.__getattribute__" == OC "object.__getattribute__")=c5:=by rw[f];rfl
 unfold getAttr? getAttrBy? getAttrBy;refine t4<|wpAny_mkText<|t4<|Ms<|J6<|t4<|L.at<|t4<|k.at ?_;dsimp only;rw[e];simp only[C8,p8];unfold getAttrByItsOwn hookBefore;rw[o8<|show onTheHeap (F8 D)=a9 from rfl];refine t4<|L2.at ?_;unfold callGetattribute;simp only[Pf,C8,p8];unfold boundAndCalled;refine t4<|Ms<|J6<|t4<|wpAny_of_eq r ?_;refine l5<|codeAny_call_builtin i.plain F.entry_bexc_ga ?_;have o:builtinKind "BaseException.__getattribute__" = a7 .slot:=by decide +kernel
 have a:splitId "BaseException.__getattribute__" = a7 ("BaseException","__getattribute__"):=by decide +kernel
 have b:=F.args_bexc_ga (.ref x)<|.str "__class__" t;simp only[checkBuiltinCall,o,a];have n:Looks (i4 prog w) j (isInstance (.ref x)<|.type "BaseException") a9:=L.andThen m;refine t4<|n.at ?_
 repeat (first|with_reducible refine L.at ?_|with_reducible refine l.at ?_|wp_step)
 refine JD (s:=⟨j,g,d,t+1,p⟩) X I c.mo ?_;exact u5<|handed_on rfl<|u5 h
def CW(c:ExcK K D):KitX K (.ref x) (.ref D) (λh=>Ks h x D) where
 ty:=λ_ _ _ I=>I.type
 it:=λ_ h X _=>by have:=c.mo;unfold mroIn clsIn at this;split at this;rename_i B;intro L Q' F s' k q;unfold isType loadHead;exact t4<|wpAny_loadPart (k _ _<|X _ _ B)<|u5 q;cases this
 ne:=λh t d its n m X p=>by refine Mi.mpr λq=>?_;have e:D=t:=Value.ref.inj<|beq_iff_eq.mp q;subst e;have:=c.mo;unfold mroIn clsIn at this;split at this;rename_i B;have z:=(X _ _ B).symm.trans p;cases z;cases this
 ca:=λX I k=>Dq X c I k
end
noncomputable def Np(o:d7)(T:d6):d7:=o.mapFields (·.setIfInBounds 1 (.ref T))
inductive C5(h base:d8)(l:List g7)(e:d6)(o:d7)(fl:c6):Prop
 |mk (T:d6) (oT:d7) (vs ts:Array c6) (st:base.StaysIn h) (nw:base.get? e=a8) (ff:h.FunFrames base l) (d:o.data=.fields vs) (sz:1<vs.size) (at_:h.get? e=a7 (Np o T))
  (nT:base.get? T=a8) (ne:T≠e) (aT:h.get? T=a7 oT) (dT:oT.data=.fields ts) (h3:ts[3]?=a7 fl)
section
variable{M:Model}{A:f8}{E:c6->f9->Prop}{s:f9}{base:d8}{env:g7}{outer l:List g7}{L e:d6}{o:d7}{vs:Array c6}{fl:c6}{Q:Unit->f9->Prop}
def eA(d:o.data=.fields vs):(Np o T).data=.fields (vs.setIfInBounds 1<|.ref T):=Oi d _
def DQ:Np (Np o T) T'=Np o T':=by obtain⟨c,d,t,m⟩:=o;cases t<;>first|rfl|(show Obj.mk _ _ _ _=Obj.mk _ _ _ _;simp)
def CF{h:d8}(a:h.FunFrames base l)(i:h.get? e=a7 o)(d:o.data=.fields vs):e∉l.filterMap (·.frame):=λm=>by obtain⟨_,o',B,f⟩:=a.mem m;rw[i]at B;injection B with B;subst B;exact f vs d
def AW(B:A.frames=a7 (env::outer))(u:s.heap.FunFrames base (env::outer))(I:env.frame=a7 L)(w:s.heap.get? e=a7 o)(C:base.StaysIn s.heap)(n:base.get? e=a8)(m:o.data=.fields vs)(hsz:1<vs.size)(h:∀h',C5 h' base (env::outer) e o (j7 L)->s.heap.UpToSlots h'->Q () { s with heap:=h' }):i0 M A (do let a <-frameOf env;let pl <-entryPlaceOf L hadNext;let b <-EntryCells.newEntry head a .none (j7 L) .none pl;setField (.ref e) 1 b) Q E s:=by
 refine t4<|wpAny_frameOf_fun B u I λh₁ c=>?_;refine t4<|wpAny_entryPlaceOf λpl r=>?_;unfold EntryCells.newEntry newFields;refine t4<|KJ ?_<|r.sizeOk5 _ _ _ _ _;have g:h₁.get? e=a7 o:=(c.2.1 e<|CF u w m).trans w;have k:base.StaysIn h₁:=λb o d=>(c.2.1 b λJ=>by rw[(u.mem J).1]at d;cases d).trans<|C b o d;have l:h₁.objs.size≠e:=Nc<|z8 g;have t:∀x y z:c6,([x,y,.none,z,.none]++(if pl.isEmpty then J0 6 G6 else pl)).toArray[3]?=a7 z:=λx y z=>by first|(simp;done)|(rcases r with rfl|⟨_,_,_,_,_,_,_,rfl⟩<;>simp)
 generalize H:({ cls:=.type "traceback",dict:=a8,data:=.fields ([head,.ref L,.none,j7 L,.none]++(if pl.isEmpty then J0 6 G6 else pl)).toArray }:d7)=O;have D:O.data=.fields ([head,.ref L,.none,j7 L,.none]++(if pl.isEmpty then J0 6 G6 else pl)).toArray:=by rw[<-H]
 have G:O.isFreed=c5:=PB D;have i:=w5 (h:=h₁) O g;refine Lr i m hsz<|h _ ?_ ?_
 all_goals
  have p:∀b o',b≠e->h₁.get? b=a7 o'->((h₁.push O).update e (Nd (·.setIfInBounds 1 (F8 h₁.objs.size)))).get? b=a7 o':=λb o' v f=>by rw[MB _ _<|A8 v];exact w5 _ f
  have R:∀b o',s.heap.get? b=a7 o'->(∀vs,o'.data≠.fields vs)->b≠e:=λb o' f j q=>by rw[q,w]at f;injection f with f;subst f;exact j vs m
 refine⟨h₁.objs.size,O,vs,_,λb o' d=>p b o' (λq=>by rw[q,n]at d;cases d)<|k b o' d,n,u.of_keeps λb o' f j=>?_,m,hsz,?_,k.fresh,l,?_,D,t _ _ _⟩;obtain⟨F,hs⟩:=c.2.2 b o' f;exact⟨_,p b _ (R b o' f j) hs,rfl⟩;exact Lu _ i<|PB<|Oi m _;exact(MB (h₁.push O) _<|A8 l).trans<|B6 h₁ G;intro b o' f j;obtain⟨F,hs⟩:=c.2.2 b o' f;exact⟨F,p b _ (R b o' f j) hs⟩
def C5.set(st:base.StaysIn h)(w:base.get? e=a8)(j:h.FunFrames base l)(d:o.data=.fields vs)(z:1<vs.size)(at_:h.get? e=a7 (Np o T))(n:base.get? T=a8)(F:T≠e)(i:h.get? T=a7 oT)(g:oT.data=.fields ts)(k:3<ts.size):C5 (h.update T (Nd (·.setIfInBounds 3 x))) base l e o x/\h.UpToSlots (h.update T (Nd (·.setIfInBounds 3 x))):=by
 have r:∀b,b≠T->(h.update T (Nd (·.setIfInBounds 3 x))).get? b=h.get? b:=λb a=>MB _ _<|A8 a;have R:∀b o',h.get? b=a7 o'->(∀vs,o'.data≠.fields vs)->b≠T:=λb o' a f q=>by rw[q,i]at a;injection a with a;subst a;exact f ts g
 exact⟨⟨T,_,vs,_,λb o' c=>(r b λq=>by rw[q,n]at c;cases c).trans<|st b o' c,w,j.of_keeps λb o' a f=>⟨o',(r b<|R b o' a f).trans a,rfl⟩,d,z,(r e<|A8 F).trans at_,n,F,Lu _ i<|PB<|Oi g _,Oi g _,by simp[k]⟩,λb o' a f=>⟨o'.slots,(r b<|R b o' a f).trans a⟩⟩
def Eb(B:A.frames=a7 (env::outer))(w:env.frame=a7 L)(F:C5 s.heap base (env::outer) e o .none)(h:∀h',C5 h' base (env::outer) e o (j7 L)->s.heap.UpToSlots h'->Q () { s with heap:=h' }):i0 M A (m7 (.ref e) env) Q E s:=by obtain⟨T,W,vs,ts,st,y,I,d,z,at_,J,K,i,g,r⟩:=F;unfold m7;simp only[w];refine t4<|F6 at_ (eA d) (x:=.ref T) (by simp[z]) ?_;rw[o8<|show (F8 T != G6)=a9 from by simp];refine t4<|F6 i g r ?_;rw[p0<|show ¬((G6==j7 L)=a9)from by simp[j7]];have C:=(Ln.mp r).1;refine t4<|Lr i g C ?_;obtain⟨⟨G,N,v,O,p,_,f,q,D,Os,_⟩,P⟩:=C5.set (x:=.none) st y I d z at_ J K i g C;refine AW B f w Os p y (eA q) (by simp;exact D) λh' ⟨H,m,R,t,U,l,c,S,V,Oq,n,k,a,b,j⟩ u=>h h' ⟨H,m,v,t,U,l,c,q,D,by rw[<-DQ (T:=G)];exact Oq,n,k,a,b,j⟩<|P.trans u
def tT(F:C5 s.heap base l e o fl)(h:∀h',C5 h' base l e o .none->s.heap.UpToSlots h'->Q () { s with heap:=h' }):i0 M A (setFlight (.ref e) a8) Q E s:=by obtain⟨T,W,vs,ts,st,w,a,d,n,at_,c,j,i,g,b⟩:=F;have f:=(Ln.mp b).1;unfold setFlight;refine t4<|F6 at_ (eA d) (x:=.ref T) (by simp[n]) ?_;rw[o8<|show (F8 T != G6)=a9 from by simp];obtain⟨U,p⟩:=C5.set (x:=.none) st w a d n at_ c j i g f;exact Lr i g f<|h _ U p
def C5.st(F:C5 h base l e o fl):base.StaysIn h:=by obtain⟨_,_,_,_,st,_⟩:=F;exact st
def C5.nw(F:C5 h base l e o fl):base.get? e=a8:=by obtain⟨_,_,_,_,_,nw,_⟩:=F;exact nw
def C5.ff(F:C5 h base l e o fl):h.FunFrames base l:=by obtain⟨_,_,_,_,_,_,ff,_⟩:=F;exact ff
def K9.tr(i:K9 o C):K9 (Np o T) C:=by obtain⟨c,s,d,e⟩:=i;exact⟨(Obj.cls_mapFields o _).trans c,_,eA d,by rw[Array.getElem?_setIfInBounds_ne<|by decide];exact e⟩
def C5.is(F:C5 h base l e o fl)(i:K9 o C):∃o',h.get? e=a7 o'/\K9 o' C:=by obtain⟨T,_,_,_,_,_,_,_,_,at_,_⟩:=F;exact⟨_,at_,i.tr⟩
def C5.out(F:C5 h base (env::outer) e o fl):C5 h base outer e o fl:=by obtain⟨T,W,vs,ts,st,w,⟨_,_,a⟩,d,z,at_,n,c,i,g,b⟩:=F;exact⟨T,W,vs,ts,st,w,a,d,z,at_,n,c,i,g,b⟩
def FK(B:A.frames=a7 (env::outer))(f:env.frame=a7 L)(F:C5 s.heap base (env::outer) e o .none)(h:∀h',C5 h' base outer e o .none->s.heap.UpToSlots h'->Q () { s with heap:=h' }):i0 M A (l8 env<|.ref e) Q E s:=by unfold l8;exact t4<|Eb B f F λh1 a u=>tT a λh2 b c=>h h2 b.out<|u.trans c
def wO(B:A.frames=a7 (env::outer))(f:env.frame=a7 L)(g:s.heap.FunFrames base (env::outer))(i:s.heap.get? e=a7 o)(C:base.StaysIn s.heap)(n:base.get? e=a8)(d:o.data=.fields vs)(h1:vs[1]?=a7 .none)(h:∀h',C5 h' base outer e o .none->s.heap.UpToSlots h'->Q () { s with heap:=h' }):i0 M A (l8 env<|.ref e) Q E s:=by unfold l8 m7;simp only[f];refine t4<|t4<|F6 i d h1 ?_;rw[p0<|by decide];exact AW B g f i C n d (Ln.mp h1).1 λh1 a u=>tT a λh2 b c=>h h2 b.out<|u.trans c
end
def cB.there(x:cB P w H h a o):∃u,h.get? a=a7 u:=by
 cases o with
 |lst xs=>obtain⟨_,_,_,_,e⟩:=x;exact⟨_,e⟩
 |tup xs=>obtain⟨_,_,_,c,e,_⟩:=x;exact⟨_,e⟩
 |dK s=>obtain⟨_,_,_,_,c,_,_,e,_⟩:=x;exact⟨_,e⟩
 |dT s=>obtain⟨_,_,_,_,c,_,_,e,_⟩:=x;exact⟨_,e⟩
 |set S n=>obtain⟨c,_,_,_,e,_⟩:=x;exact⟨_,e⟩
 |ins C dx b=>obtain⟨_,_,_,e,_⟩:=x;exact⟨_,e⟩
 |own y=>exact x
 |xd b=>obtain⟨_,⟨j,_,_,e,_⟩,_⟩:=x;exact⟨_,e⟩
 |rng l hi=>obtain⟨_,_,_,e⟩:=x;exact⟨_,e⟩
 |frz c u=>exact⟨_,x.1⟩
 |tbl ps=>exact⟨_,x⟩
 |met f y=>exact⟨_,x⟩
 |ext φ=>exact x.2.1
inductive MF(P:d5)(w:c9)(stk:List g7)(H:Hp)(h0:d8)(a:d6)(C:c6)(dx:Option d6)(H1:Hp)(h:d8):Prop
 |mk (B:d8) (o:d7) (ix:K9 o C) (dk:o.dict=dx) (fly:C5 h B stk a o .none) (un:Un (frs stk) [] H H1 h0 h) (hok:C6 P w H1 h)
  (old:∀b o,h0.get? b=a7 o->b∉frs stk->∃o',B.get? b=a7 o'/\(H b=a8->o'=o)) (trk:∀b u,H1 b=a7 u->∃o,B.get? b=a7 o)
def C5.isd(F:C5 h base l e o fl)(i:K9 o C):∃o',h.get? e=a7 o'/\K9 o' C/\o'.dict=o.dict:=by obtain⟨T,_,_,_,_,_,_,_,_,at_,_⟩:=F;refine⟨_,at_,i.tr,?_⟩;obtain⟨c,d,t,m⟩:=o;cases t<;>rfl
def fT{P:d5}{w:c9}{H1:Hp}{h h' B:d8}(K:C6 P w H1 h)(trk:∀b u,H1 b=a7 u->∃o,B.get? b=a7 o)(s:B.StaysIn h)(s':B.StaysIn h'):C6 P w H1 h':=λb u q=>by
 refine(K b u q).stay (λc v f r=>?_) (λ_ z=>z) λ_ _ z=>z;have O:∃u',H1 c=a7 u':=by rcases f with rfl|f;exact⟨u,q⟩;exact⟨_,f⟩
 obtain⟨u',O⟩:=O;obtain⟨o,a⟩:=trk c u' O;have:=s c o a;rw[r]at this;cases this;exact s' c _ a
def uC(u:Un (frs stk) [] H H1 h0 h)(g:∀b o,h0.get? b=a7 o->b∉frs stk->∃o',B.get? b=a7 o'/\(H b=a8->o'=o))(f:h.FunFrames B stk)(s':B.StaysIn h')(p:h.UpToSlots h'):Un (frs stk) [] H H1 h0 h':=by
 have r:∀b,b∈frs stk->∀o,h.get? b=a7 o->∃m,h'.get? b=a7 { o with slots:=m }:=λb d o e=>by obtain⟨_,o',a,Q⟩:=f.mem d;rw[e]at a;cases a;exact p b o e Q
 refine⟨λb o e n d x=>?_,λb o e n d x=>?_,u.free,λb o e x=>?_,u.tups,u.frzs,u.tbls⟩;obtain⟨o',a,q⟩:=g b o e d;rw[<-q n];exact s' b o' a;obtain⟨m,t⟩:=u.slot b o e n d x;obtain⟨M,l⟩:=r b d _ t;exact⟨M,l⟩;by_cases d:b∈frs stk;obtain⟨o',t⟩:=u.there b o e x;obtain⟨m,l⟩:=r b d _ t;exact⟨_,l⟩;obtain⟨o',a,_⟩:=g b o e d;exact⟨o',s' b o' a⟩
def lE{α:Type}{x:α}:x∉([]:List α):=λh=>nomatch h
def MF.track(d:Un (frs stk) [] H H1 h0 h)(K:C6 P w H1 h)(k:∀b o,h0.get? b=a7 o->b∉frs stk->∃o',B.get? b=a7 o'/\(H b=a8->o'=o))(trk:∀b u,H1 b=a7 u->∃o,B.get? b=a7 o)(y:C5 h B stk a oe fl)(t:K9 oe C):∃oe',K9 oe' C/\oe'.dict=oe.dict/\Un (frs stk) [] H (v8 H1 a<|.frz oe'<|.own a) h0 h/\C6 P w (v8 H1 a<|.frz oe'<|.own a) h:=by
 obtain⟨oe,j,⟨s,vs,l,h2⟩,r⟩:=y.isd t;have i:H1 a=a8:=by
  cases q:H1 a with
  |none=>rfl
  |some u=>obtain⟨o,p⟩:=trk a u q;rw[y.nw]at p;cases p
 refine⟨oe,⟨s,vs,l,h2⟩,r,⟨d.keep,d.slot,λb o e n x=>?_,d.there,λb xs e=>?_,λb o u e=>?_,λb ps e=>?_⟩,λb u q=>?_⟩;rw[am];exact d.free b o e n x;rintro rfl;by_cases g:b∈frs stk;obtain⟨_,o',f,Q⟩:=y.ff.mem g;rw[j]at f;cases f;exact Q vs l;obtain⟨o',f,_⟩:=k b o e g;rw[y.nw]at f;cases f;rw[am<|ad (d.tups b xs e) i];exact d.tups b xs e;rw[am<|ad (d.frzs b o u e) i];exact d.frzs b o u e;obtain⟨m,q⟩:=d.tbls b ps e;exact⟨m,by rw[am<|ad q i];exact q⟩;by_cases g:b=a;subst g;rw[aI]at q;cases q;exact⟨j,oe,j⟩;rw[am g]at q;exact(K b u q).stay (λ_ _ _ z=>z) (λc z=>by rw[am<|ad z i];exact z) λc xs z=>by rw[am<|ad z i];exact z
structure DefX(X:Cx):Prop where
 stk:X.stack=X.env::X.outer
 fr:X.env.frame=a7 X.env.locals
 ex:X.ex=[]
section
variable{X:Cx}{pins:List (d6×d7)}{σ:St}{H H1:Hp}{s s':f9}{h':d8}{e:d6}{C:c6}{vs:List c6}{M:Model}{Q:Unit->f9->Prop}{E':c6->f9->Prop}
def DefX.frs(d:DefX X):b∈frs X.stack↔b=X.env.locals\/b∈X.fs:=by rw[d.stk];unfold L2.frs;rw[MA,d.fr];exact z7
def t5.nloc(I:t5 X pins σ H s)(e:X.s₀.heap.get? b=a7 o):b≠X.env.locals:=λz=>by subst z;exact E8 _<|E5 (z8 e) I.ok.above
def yb(I:t5 X pins σ H1 s)(d:DefX X)(m:Pd s.heap h' e C vs)(h:∀h'',MF X.prog X.w X.outer X.H₀ X.s₀.heap e C a8 H1 h''->Q () { s with heap:=h'' }):i0 M X.A (l8 X.env<|.ref e) Q E' { s with heap:=h' }:=by
 have B:X.A.frames=a7 (X.env::X.outer):=d.stk ▸ I.ok.frames;have E:s.heap.FunFrames X.base (X.env::X.outer):=d.stk ▸ I.stack;have i:∀{b o},s.heap.get? b=a7 o->b∉frs X.stack->(KZ s.heap<|frs X.stack).get? b=a7 o:=λq c=>Px _ q c;obtain⟨t,r,_⟩:=m.there;have G:∀b o,(KZ s.heap<|frs X.stack).get? b=a7 o->s.heap.get? b=a7 o:=λb o q=>OT _ q;refine wO (base:=KZ s.heap<|frs X.stack) B d.fr ((PySem.W.funFrames_hide E λenv r b c=>by rw[d.stk];exact OS.mpr ⟨env,r,c⟩).of_keeps λb o q _=>⟨o,m.keeps b o q,rfl⟩) r (λb o q=>m.keeps b o<|G b o q) ?_ rfl rfl λh'' y L=>h h'' ?_;cases q:(KZ s.heap<|frs X.stack).get? e with
 |none=>rfl
 |some o=>have z:=G e o q;rw[m.new]at z;cases z
 have x:∀b:d6,b∉X.ex:=λb z=>by rw[d.ex]at z;cases z
 have g:∀b o,X.s₀.heap.get? b=a7 o->b∉X.fs->∃o',(KZ s.heap<|frs X.stack).get? b=a7 o'/\(X.H₀ b=a8->o'=o):=λb o q c=>by have p:b∉frs X.stack:=λz=>(d.frs.mp z).elim (λz=>I.nloc q z) c;obtain⟨o',H⟩:=I.base.there b o q<|x b;refine⟨o',i H p,λn=>?_⟩;have:=I.base.keep b o q n c<|x b;rw[H]at this;exact C1 this
 have trk:∀b u,H1 b=a7 u->∃o,(KZ s.heap<|frs X.stack).get? b=a7 o:=λb u q=>by obtain⟨o,J⟩:=(I.hok b u q).there;refine⟨o,i J λz=>?_⟩;rw[I.stkFree b z]at q;cases q
 have a:Un X.fs [] X.H₀ H1 X.s₀.heap s.heap:=d.ex ▸ I.base;refine⟨_,_,⟨rfl,_,rfl,rfl⟩,rfl,y,?_,fT I.hok trk (λb o q=>OT _ q) y.st,g,trk⟩;have F:∀b,b∈X.fs->∀o,s.heap.get? b=a7 o->∃v,h''.get? b=a7 { o with slots:=v }:=λb c o q=>by obtain⟨_,o',f,K⟩:=E.mem (show b∈(X.env::X.outer).filterMap (·.frame)from d.stk ▸ d.frs.mpr (.inr c));rw[q]at f;cases f;exact L b o (m.keeps b o q) K
 refine⟨λb o q n c j=>?_,λb o q n c j=>?_,a.free,λb o q j=>?_,a.tups,a.frzs,a.tbls⟩;obtain⟨o',f,z⟩:=g b o q c;rw[<-z n];exact y.st b o' f;obtain⟨v,k⟩:=a.slot b o q n c j;obtain⟨D,l⟩:=F b c _ k;exact⟨D,l⟩;by_cases c:b∈X.fs;obtain⟨o',k⟩:=a.there b o q j;obtain⟨v,l⟩:=F b c _ k;exact⟨_,l⟩;obtain⟨o',f,_⟩:=g b o q c;exact⟨o',y.st b o' f⟩
def Dp(I:t5 X pins σ H s)(d:DefX X)(F:MF X.prog X.w X.stack H s.heap e C dx H1 s'.heap)(h:∀h'',MF X.prog X.w X.outer X.H₀ X.s₀.heap e C dx H1 h''->Q () { s' with heap:=h'' }):i0 M X.A (l8 X.env<|.ref e) Q E' s':=by
 obtain⟨B,oe,O,J,y,j,K,v,trk⟩:=F;have r:X.A.frames=a7 (X.env::X.outer):=d.stk ▸ I.ok.frames;have N:∀b:d6,b∉X.ex:=λb z=>by rw[d.ex]at z;cases z
 have k:C5 s'.heap B (X.env::X.outer) e oe .none:=d.stk ▸ y;refine FK r d.fr k λh'' f U=>h h'' ?_;have a:Un X.fs [] X.H₀ H X.s₀.heap s.heap:=d.ex ▸ I.base;have L:=y.ff;have G:∀b,b∈X.fs->∀o,s'.heap.get? b=a7 o->∃D,h''.get? b=a7 { o with slots:=D }:=λb c o q=>by obtain⟨_,o',i,P⟩:=L.mem (show b∈X.stack.filterMap (·.frame)from d.frs.mpr<|.inr c);rw[q]at i;cases i;exact U b o q P
 have g:∀b o,X.s₀.heap.get? b=a7 o->b∉X.fs->∃o',B.get? b=a7 o'/\(X.H₀ b=a8->o'=o):=λb o q c=>by have p:b∉frs X.stack:=λz=>(d.frs.mp z).elim (λz=>I.nloc q z) c;obtain⟨o',m⟩:=a.there b o q lE;obtain⟨o2,S,z⟩:=v b o' m p;refine⟨o2,S,λn=>?_⟩;rw[z<|a.free b o q n lE];have:=a.keep b o q n c lE;rw[m]at this;exact C1 this
 refine⟨B,oe,O,J,f,?_,fT K trk y.st f.st,g,trk⟩;have unT:∀b o,X.s₀.heap.get? b=a7 o->X.H₀ b=a8->H1 b=a8:=λb o q n=>by obtain⟨o',m⟩:=a.there b o q lE;exact j.free b o' m (a.free b o q n lE) lE
 refine⟨λb o q n c x=>?_,λb o q n c x=>?_,λb o q n x=>unT b o q n,λb o q x=>?_,λb xs q=>j.tups b xs<|a.tups b xs q,λb o u q=>j.frzs b o u<|a.frzs b o u q,λb ps q=>?_⟩;obtain⟨o',i,z⟩:=g b o q c;rw[<-z n];exact f.st b o' i;obtain⟨D,t⟩:=a.slot b o q n c x;obtain⟨T,l⟩:=j.slot b _ t (a.free b o q n x) (d.frs.mpr<|.inr c) x;obtain⟨E,R⟩:=G b c _ l;exact⟨E,R⟩;by_cases c:b∈X.fs;obtain⟨o',t⟩:=a.there b o q x;obtain⟨o2,l⟩:=j.there b o' t x;obtain⟨D,R⟩:=G b c _ l;exact⟨_,R⟩;obtain⟨o',i,_⟩:=g b o q c;exact⟨o',f.st b o' i⟩;obtain⟨V,t⟩:=a.tbls b ps q;obtain⟨W,l⟩:=j.tbls b _ t;exact⟨V++W,by rw[l,Qi]⟩
end
def La(P:d5)(w:c9):MG:=λk H s E e s'=>∃a C dx H1,e=.ref a/\s'.os=s.os/\g9 s'.gens/\MF P w k H s.heap a C dx H1 s'.heap/\E C dx H1
section
variable{P:d5}{w:c9}{K:u6}{mg:c8->Option c6}{base:d8}{N:List c8}{qual:c8}{scope:g8}{f:d6}{cd:c6}{A:f8}{outer:List g7}{s:f9}{H:Hp}{E:XK}
def rB:DefX (jw CX P w K mg base N qual scope f cd A outer s H E):=⟨rfl,rfl,rfl⟩
def zO:xr (La P w) (jw (La P w) P w K mg base N qual scope f cd A outer s H E) E:=by rintro p σ H1 c e s' I ⟨a,C,dx,b,rfl,B,d,F,q⟩;exact Dp I rB F λh U=>⟨a,C,dx,b,rfl,B.trans I.os,d,U,q⟩
def zW(I:t5 (jw (La P w) P w K mg base N qual scope f cd A outer s H E) pins σ H1 s1)(m:Pd s1.heap h' e C vs)(q:E C a8 H1):(jw (La P w) P w K mg base N qual scope f cd A outer s H E).xe (.ref e) { s1 with heap:=h' }:=by exact yb I rB m λh U=>⟨e,C,a8,H1,rfl,I.os,I.bare,U,q⟩
end
noncomputable abbrev vE:List c6:=[.type "ValueError",.type "Exception",.type "BaseException",.type "object"]
def Fq{K:u6}{h:d8}{C:d6}{B:List c6}{newId:String}(X:K.In h)(q:NC K C B newId=a9):∃bm N nm qn bs hdct sn sub ab col dd k0 k1 k2 k3 k5 mN,h.get? C=a7 (excClassObj nm qn C N bs bm hdct sn sub ab col dd k0 k1 k2 k3 k5 newId)/\h.Ns N mN/\mN "__init__" = a8/\OwnTail h B bm:=by
 unfold NC at q;split at q;rename_i dd c m o;split at q;rename_i j bm k0 k1 k2 k3 n k5 d hs;simp only[A2,p7,Bool.not_eq_true']at q;obtain⟨⟨⟨⟨⟨rfl,rfl⟩,a⟩,D⟩,k⟩,i⟩:=q;obtain⟨nm,bs,g,ns,qn,e,sn,sub,ab,col,b⟩:=c;dsimp only at d a k i;subst d a;have f:m = #[k0,k1,k2,k3,a7<|.builtin n,k5]:=by obtain⟨l⟩:=m;simp only at hs;rw[hs]
 subst f;exact⟨bm,ns,nm,qn,bs,e,sn,sub,ab,col,dd,k0,k1,k2,k3,k5,_,X _ _ o,.of_isNs<|PySem.W.isNs_of_in X k,PySem.W.nsMap_none_of_in X k i,PySem.W.tail_of_in X D⟩;cases q;cases q
def Ck{X:Cx}{x:c8}{C:d6}{p c pos:i5}{a:i3}{aO:List i3}{pins:List (d6×d7)}{σ:St}{H:Hp}{s:f9}{Ex:c6->f9->Prop}{Q:Flow->f9->Prop}(I:t5 X pins σ H s)(n:X.mg x=a7 (.ref C))(q:NC X.K C vE "ValueError.__new__" = a9)(m:X.calm=a9)(w:i0 (i4 X.prog X.w) X.A (spliced<|i6 c<|i7 (a::aO) X.env) (λus s₂=>us.length<=sizeLine/\(∀b o,X.base.get? b=a7 o->s₂.heap.get? b=a7 o)/\∀h' e,Pd s₂.heap h' e (.ref C) us->Ex (.ref e) { s₂ with heap:=h' }) Ex s) (S:Gl X x:=by rfl)(f:i7 (a::aO) X.env=(c5,eval a X.env)::i7 aO X.env:=by rfl) (l:(i6 c<|i7 aO X.env).any (·.1)=c5:=by rfl) (h:(x==("__debug__":c8))=c5:=by decide):i0 (i4 X.prog X.w) X.A (exec (.Raise (a7<|.Call (.Name x p) (a::aO) [] c) a8 pos) X.env) Q Ex s:=by obtain⟨t,N,nm,qn,bs,hdct,sn,sub,ab,col,dd,k0,k1,k2,k3,k5,mN,g,j,i,T⟩:=Fq I.mod.kin q;have B:=F.excBase_ValueError;refine wpAny_Raise_call_subU (C:=C) (nm:=nm) (q:=qn) (N:=N) (bs:=bs) (bm:=t) (hdct:=hdct) (sn:=sn) (sub:=sub) (ab:=ab) (col:=col) (dd:=dd) (k0:=k0) (k1:=k1) (k2:=k2) (k3:=k3) (k5:=k5) B B.hasB B (mN:=mN) (T.hasType B.hasBase) (I.ok.hd m) (by rw[f];show (c5||(i6 c<|i7 aO X.env).any (·.1))=c5;rw[l];rfl) i<|kE I S n ⟨rfl,?_⟩ h;rw[f]at w ⊢;exact Calls.evalArgs_plain<|D3 w (λus s₂ ⟨z,d,k⟩=>⟨rfl,z,d _ _ g,j.keeps d,T.keeps d,k⟩) λ_ _ y=>y
theorem yP(I:t5 X pins σ H s)(T:X.N.Nodup)(hi:X.N[i]?=a7 x)(C:X.env.scope.names.lookup x=a7 .local)(Z:σ[i]?=a7 (a7 v))(h:∀s',t5 X pins (σ.set i a8) H s'->Q () s'):i0 M A (unbindName X.env x) Q E s:=by
 obtain⟨m,K,J⟩:=id I.loc;have R:(X.env.scope.kind==.class||(X.env.scope.kind==.module&&X.env.locals != X.env.globals))=c5:=by rw[I.ok.kind];rfl
 have D:i<σ.length:=by rw[I.len];exact(B5.mp hi).1
 have G:=I.cne;obtain⟨u,r,lk⟩:=J i x v hi Z<|.inl C;have U:m x=a7 u:=by
  rcases lk with⟨_,e⟩|⟨k,_⟩
  exact e;rcases k with k|k<;>(have O:X.env.scope.names.lookup x=_:=k;rw[C]at O;cases O)
 refine wpAny_unbindName_local C K U R λh' u' F hs=>?_;obtain⟨oL,_,_,V,_⟩:=id K;have f:C6 X.prog X.w H h':=λb ob e=>by refine(I.hok b ob e).stay (λc Y g q=>(hs.2 c ?_).trans q) (λ_ q=>q) λ_ _ q=>q;rintro rfl;rcases g with rfl|g;rw[I.free]at e;cases e;rw[I.free]at g;cases g
 refine h _ ⟨I.ok,I.os,I.bare,⟨λb o e n B a=>?_,λb o e n B a=>?_,I.base.free,λb o e a=>?_,I.base.tups,I.base.frzs,I.base.tbls⟩,⟨_,F,λj y v' t l S=>?_⟩,λy c e=>?_,I.free,I.freeC,λp W=>?_,f,by simpa using I.len⟩;exact(hs.2 b<|A4<|E5 (z8 e) I.ok.above).trans<|I.base.keep b o e n B a;obtain⟨sl,t⟩:=I.base.slot b o e n B a;exact⟨sl,(hs.2 b<|A4<|E5 (z8 e) I.ok.above).trans t⟩;obtain⟨o',t⟩:=I.base.there b o e a;exact⟨o',(hs.2 b<|A4<|E5 (z8 e) I.ok.above).trans t⟩;by_cases L:j=i;subst L;rw[Lj D]at l;cases l;rw[KO<|A8 L]at l;obtain⟨u',r',q⟩:=J j y v' t l S;refine⟨u',r',?_⟩;rcases q with⟨k,e⟩|⟨k,c,e,z⟩
 refine .inl ⟨k,?_⟩;have:y≠x:=λe=>L<|qK T t<|e ▸ hi;simp[this,e];exact .inr ⟨k,c,e,z.sameBut hs<|G y c e⟩;obtain⟨Y,z⟩:=I.cell y c e;exact⟨Y,z.sameBut hs<|G y c e⟩;obtain⟨e,n,P,nf,d⟩:=I.pin p W;exact⟨(hs.2 p.1 P).trans e,n,P,nf,d⟩
noncomputable abbrev Cx.held(X:Cx)(a:d6):Cx:={ X with A:=X.A.mark<|a7<|.ref a,calm:=c5,xe:=λ_ _=>False }
def t5.held(I:t5 X pins σ H s)(a:d6):t5 (X.held a) pins σ H s:=⟨⟨I.ok.mod,I.ok.kind,I.ok.glob,I.ok.blt,I.ok.above,I.ok.inj,I.ok.has,I.ok.cab,(λz=>Bool.noConfusion z),I.ok.frames,I.ok.stk,I.ok.exf,I.ok.bs,I.ok.bsz,I.ok.noex,I.ok.exfs,I.ok.funs,I.ok.frf⟩,I.os,I.bare,I.base,I.loc,I.cell,I.free,I.freeC,I.pin,I.hok,I.len⟩
def t5.unheld(ok:X.Ok)(I:t5 (X.held a) pins σ H s):t5 X pins σ H s:=⟨ok,I.os,I.bare,I.base,I.loc,I.cell,I.free,I.freeC,I.pin,I.hok,I.len⟩
def Bm{dx:Option d6}{H1:Hp}{s':f9}{a C C':d6}{i:Nat}{n y:c8}{np pos:i5}{l:i8}{j:List i8}{aO:List ExceptHandler}{D:Ends}{tS:TS}{E:c6->f9->Prop}(I:t5 X pins σ H s)(d:DefX X)(ho:s'.os=s.os)(hb:g9 s'.gens)(F:MF X.prog X.w X.stack H s.heap a (.ref C) dx H1 s'.heap) (hN:X.N.Nodup) (hi:X.N[i]?=a7 n) (O:X.env.scope.names.lookup n=a7 .local) (hy:X.mg y=a7 (.ref C')) (hm:Pc X.K (.ref C) (.ref C')=a7 a9)(hs:Kz (X.held a) (l::j) tS) (q:∀oe,K9 oe (.ref C)->oe.dict=dx->tS ⟨λσ' H'=>D.nx (σ'.set i a8) H',λ_ _=>False,λ_ _=>False,λ_ _=>False⟩ (σ.set i<|a7<|.ref a) (v8 H1 a<|.frz oe<|.own a))(hg:Gl X y:=by rfl) (ab:(y==("__debug__":c8))=c5:=by decide):i0 (i4 X.prog X.w) X.A (m7 (.ref a) X.env) (λ_ s₂=>i0 (i4 X.prog X.w) X.A (setFlight (.ref a) a8) (λ_ s₃ =>
   i0 (i4 X.prog X.w) X.A (handleBy (.ref a) X.env<|.ExceptHandler (a7<|.Name y np) (a7 n) (l::j) pos::aO) (SP X pins D) E s₃) E s₂) E s':=by
 obtain⟨B,oe,V,dk,p,un,an,r,trk⟩:=F;have ai:X.A.frames=a7 (X.env::X.outer):=d.stk ▸ I.ok.frames;have M:C5 s'.heap B (X.env::X.outer) a oe .none:=d.stk ▸ p;refine Eb ai d.fr M λaD h t=>?_;refine tT h λh₅ c x=>?_;have T:=uC un r p.ff c.st λb o e nf=>by obtain⟨sl,e1⟩:=t b o e nf;obtain⟨ap,e2⟩:=x b _ e1 nf;exact⟨ap,e2⟩
 have m:=fT an trk p.st c.st;have I5:t5 X pins σ H1 { s' with heap:=h₅ }:=I.call' (ch:=[]) ho T m hb λb z=>p5 z lE;obtain⟨ob,aj,P,_⟩:=c.is V;refine wpAny_handleBy_cons (codeAny_handlers_test<|kE (X:=X.held a) (I5.held a) hg hy ?_ ab) (by intro q;cases q);have LT:PySem.W.Looks (i4 X.prog X.w) h₅ (typeOf<|.ref a) (.ref C):=P ▸ (PySem.W.Looks.ld aj).andThen .now;refine(PySem.W.exm_one I5.kIn LT hm).at ?_;refine codeAny_handlers_suite_as<|tT c λS g G=>?_;have as:=uC T r (d.stk ▸ c.ff) g.st G;have Q:=fT m trk c.st g.st;obtain⟨oe,V,Z,ax,R⟩:=MF.track as Q r trk (d.stk ▸ g) V;have I7:t5 X pins σ (v8 H1 a<|.frz oe<|.own a) { s' with heap:=S }:=I.call' (ch:=[]) ho ax R hb λb z=>p5 z lE;refine jM (v:=.ref a) I7 hN hi (.inl O) rfl (λs8 I8=>?_)<|.inr O;refine D3 (hs pins s8 _ _ _ (I8.held a)<|q oe V<|Z.trans dk) (λf s9 U=>?_) λ_ _ z=>z.elim;cases f with
 |next =>
  obtain⟨σ',H',J,k⟩:=U;have J':=J.unheld I.ok;refine t4<|wpAny_bindName<|jM (v:=.non) (u:=.none) J' hN hi (.inl O) rfl (λaP Y=>?_)<|.inr O;have hl:i<σ'.length:=by rw[J'.len];exact(B5.mp hi).1
  refine OE<|yP (v:=.non) Y hN hi O (Lj hl) λaS L=>?_;rw[List.set_set]at L;exact⟨_,_,L,k⟩
 |ret u=>obtain⟨_,_,_,_,_,z⟩:=U;exact z.elim
 |brk=>obtain⟨_,_,_,z⟩:=U;exact z.elim
 |cont=>obtain⟨_,_,_,z⟩:=U;exact z.elim
noncomputable def JC(K:u6)(C I:d6)(B:List c6)(newId:String):Bool:=match K.lookup C with
 |some ⟨.type "type",_,.cls cd,sl⟩=>(match cd.mro,sl.toList with
  |.ref C'::bm,[_,_,_,_,a7<|.builtin n,_]=>C'==C&&n==newId && !cd.hasDel&&PySem.W.tailIn K B bm&&PySem.W.nsOkIn K cd.ns&&LF K cd.ns "__init__" == a7 (a7<|.ref I)&&cd.hasDict
  |_,_=>c5)
 |_=>c5
open PySem.Builtin PySem.Builtin.ObjectAttr
structure Stored(h h':d8)(x:d6):Prop where
 keeps:∀b o,b≠x->(∀o₀ dx,h.get? x=a7 o₀->o₀.dict=a7 dx->b≠dx)->h.get? b=a7 o->h'.get? b=a7 o
 same:∀o₀,h.get? x=a7 o₀->∃o₁,h'.get? x=a7 o₁/\o₁.cls=o₀.cls/\o₁.data=o₀.data/\o₁.slots=o₀.slots/\∀dx,o₀.dict=a7 dx->o₁.dict=a7 dx
 new:∀o₀ o₁,h.get? x=a7 o₀->o₀.dict=a8->h'.get? x=a7 o₁->o₁.dict=a7 h.objs.size
end L2
namespace L2
open PySem PySem.Spec PyProof.Rows DL PySem.W
end L2
namespace L2
open PySem PySem.Spec PyProof.Rows DL
def P6(a C:d6)(j:Option d6):d5->c9->d8->Prop:=λ_ _ h=>∃o t,h.get? a=a7 o/\o.cls=.ref C/\o.dict=j/\o.slots = #[]/\o.data=.fields #[.ref t,.none,.none,.none,.bool c5,.none]
def dE(dx:d6)(b:List (c8×V)):d5->c9->d8->Prop:=λ_ _ h=>∃A,h.Ns1 dx A/\(∀f,yE (b.lookup f)<|A f)/\Within A (b.map (·.1))
structure XCls(K:u6)(C fI:d6):Prop where
 ok:JC K C fI vE "ValueError.__new__" = a9
 sa:ML K (.ref C) "__setattr__" = a7 (a7<|.builtin "object.__setattr__")
noncomputable def Eo(H:Hp)(e dx:d6)(j:d7):Hp:=λb=>if b=e then a8 else if b=dx then a7 (.frz j<|.own dx)else H b
def yc(I:t5 X pins σ H1 s)(d:DefX X)(B:H1 e=a7 (.ext<|P6 e C<|a7 dx))(x:H1 dx=a7 (.ext<|dE dx fs))(ne:dx≠e)(s0:X.s₀.heap.get? e=a8)(h:∀h'' od,s.heap.get? dx=a7 od->MF X.prog X.w X.outer X.H₀ X.s₀.heap e (.ref C) (a7 dx) (Eo H1 e dx od) h''->Q () { s with heap:=h'' }):i0 M X.A (l8 X.env<|.ref e) Q E' s:=by
 obtain⟨⟨o,t,N,V,Y,_,p⟩,_⟩:=I.hok e _ B;obtain⟨_,⟨od,i⟩,_⟩:=I.hok dx _ x;have L:X.A.frames=a7 (X.env::X.outer):=d.stk ▸ I.ok.frames;have R:s.heap.FunFrames X.base (X.env::X.outer):=d.stk ▸ I.stack;have r:∀b:d6,b∉X.ex:=λb z=>by rw[d.ex]at z;cases z
 have v:∀b u,H1 b=a7 u->b∉frs X.stack:=λb u q z=>by rw[I.stkFree b z]at q;cases q
 have get:∀{b o},s.heap.get? b=a7 o->b≠e->b∉frs X.stack->(KZ s.heap<|e::frs X.stack).get? b=a7 o:=λq h1 h2=>Px _ q λz=>(z7.mp z).elim h1 h2;have T:∀b o,(KZ s.heap<|e::frs X.stack).get? b=a7 o->s.heap.get? b=a7 o:=λb o q=>OT _ q;have H:∀b u,H1 b=a7 u->(∀φ,u≠.ext φ)->Eo H1 e dx od b=a7 u:=λb u q n=>by show (if b=e then _ else if b=dx then _ else H1 b)=_;rw[p0 (λF=>by rw[F,B]at q;cases q;exact n _ rfl),p0<|λF=>by rw[F,x]at q;cases q;exact n _ rfl];exact q
 have g:C6 X.prog X.w (Eo H1 e dx od) s.heap:=λb u q=>by unfold Eo at q;split at q;cases q;split at q;rename_i f;cases q;subst f;exact⟨i,⟨od,i⟩⟩;exact(I.hok b u q).stay (λ_ _ _ z=>z) (λc z=>H c _ z λ_ q=>by cases q) λc xs z=>H c _ z λ_ q=>by cases q
 refine wO (base:=KZ s.heap<|e::frs X.stack) L d.fr (PySem.W.funFrames_hide R λenv B b f=>C4 _<|by rw[d.stk];exact OS.mpr ⟨env,B,f⟩) N (λb o q=>T b o q) (Qq _<|A9 ..) p rfl λh'' y up=>h h'' od i ?_;have a:Un X.fs [] X.H₀ H1 X.s₀.heap s.heap:=d.ex ▸ I.base;have trk:∀b u,Eo H1 e dx od b=a7 u->∃o,(KZ s.heap<|e::frs X.stack).get? b=a7 o:=λb u q=>by obtain⟨o,N⟩:=(g b u q).there;unfold Eo at q;split at q;cases q;rename_i f;refine⟨o,get N f ?_⟩;split at q;rename_i J;rw[J];exact v _ _ x;exact v _ _ q
 have j:∀b o,X.s₀.heap.get? b=a7 o->b∉X.fs->∃o',(KZ s.heap<|e::frs X.stack).get? b=a7 o'/\(X.H₀ b=a8->o'=o):=λb o q f=>by
  have K:b≠e:=λz=>by rw[z,s0]at q;cases q
  have G:b∉frs X.stack:=λz=>(d.frs.mp z).elim (λz=>I.nloc q z) f;obtain⟨o',U⟩:=I.base.there b o q<|r b;refine⟨o',get U K G,λn=>?_⟩;have:=I.base.keep b o q n f<|r b;rw[U]at this;exact C1 this
 have S:∀b,b∈X.fs->∀o,s.heap.get? b=a7 o->∃O,h''.get? b=a7 { o with slots:=O }:=λb f o q=>by obtain⟨_,o',k,Z⟩:=R.mem (show b∈(X.env::X.outer).filterMap (·.frame)from d.stk ▸ d.frs.mpr (.inr f));rw[q]at k;cases k;exact up b o q Z
 refine⟨_,o,⟨V,_,p,rfl⟩,Y,y,?_,fT g trk (λb o q=>T b o q) y.st,j,trk⟩;refine⟨λb o q n f l=>?_,λb o q n f l=>?_,λb o q n l=>?_,λb o q l=>?_,λb xs q=>H b _ (a.tups b xs q) (λ_ z=>by cases z),λb o u q=>H b _ (a.frzs b o u q) (λ_ z=>by cases z),λb ps q=>?_⟩;obtain⟨o',k,z⟩:=j b o q f;rw[<-z n];exact y.st b o' k;obtain⟨O,D⟩:=a.slot b o q n f l;obtain⟨P,E⟩:=S b f _ D;exact⟨P,E⟩;have z:=a.free b o q n l;show (if b=e then _ else if b=dx then _ else H1 b)=_;split;rfl;split;rename_i F;rw[F,x]at z;cases z;exact z;by_cases f:b∈X.fs;obtain⟨o',D⟩:=a.there b o q l;obtain⟨O,E⟩:=S b f _ D;exact⟨_,E⟩;obtain⟨o',k,_⟩:=j b o q f;exact⟨o',y.st b o' k⟩;obtain⟨m,z⟩:=a.tbls b ps q;exact⟨m,H b _ z<|λ_ z=>by cases z⟩
def AA{P:d5}{w:c9}{K:u6}{mg:c8->Option c6}{base:d8}{N:List c8}{l:c8}{scope:g8}{f:d6}{d:c6}{A:f8}{o:List g7}{s:f9}{H:Hp}{E:XK}(I:t5 (jw (La P w) P w K mg base N l scope f d A o s H E) pins σ H1 s1)(s0:s.heap.get? e=a8)(i:H1 e=a7 (.ext<|P6 e C<|a7 dx))(x:H1 dx=a7 (.ext<|dE dx fs))(F:dx≠e)(q:∀od,s1.heap.get? dx=a7 od->E (.ref C) (a7 dx) (Eo H1 e dx od)):(jw (La P w) P w K mg base N l scope f d A o s H E).xe (.ref e) s1:=yc I rB i x F s0 λh od B U=>⟨e,.ref C,a7 dx,_,rfl,I.os,I.bare,U,q od B⟩
theorem C5.look(F:C5 s.heap base (env::outer) e o fl)(z:env.frame=a7 L)(B:A.frames=a7 (env::outer))(h:∀h' fl',C5 h' base (env::outer) e o fl'->s.heap.UpToSlots h'->Q () { s with heap:=h' }):i0 M A (m7 (.ref e) env) Q E s:=by obtain⟨T,Z,vs,ts,st,C,K,d,G,at_,O,P,i,g,y⟩:=id F;have H:=(Ln.mp y).1;unfold m7;simp only[z];refine t4<|F6 at_ (eA d) (x:=.ref T) (by simp[G]) ?_;rw[o8<|show (F8 T != G6)=a9 from by simp];refine t4<|F6 i g y ?_;by_cases q:(fl==j7 L)=a9;rw[o8 q];exact u5<|h s.heap fl F λb o' N _=>⟨o'.slots,N⟩;rw[p0 q];refine t4<|Lr i g H ?_;obtain⟨⟨I,R,v,S,r,_,f,w,D,Os,_⟩,W⟩:=C5.set (x:=.none) st C K d G at_ O P i g H;exact AW B f z Os r C (eA w) (by simp;exact D) λh' ⟨J,p,X,t,U,m,j,Y,V,Oq,n,l,a,c,k⟩ u=>h h' _ ⟨J,p,v,t,U,m,j,w,D,by rw[<-DQ (T:=I)];exact Oq,n,l,a,c,k⟩<|W.trans u
def C5.flight(F:C5 s.heap base l e o fl)(h:∀h' fl',C5 h' base l e o fl'->s.heap.UpToSlots h'->Q () { s with heap:=h' }):i0 M A (setFlight (.ref e) f) Q E s:=by obtain⟨T,W,vs,ts,st,w,a,d,n,at_,c,j,i,g,b⟩:=F;have z:=(Ln.mp b).1;unfold setFlight;refine t4<|F6 at_ (eA d) (x:=.ref T) (by simp[n]) ?_;rw[o8<|show (F8 T != G6)=a9 from by simp];obtain⟨U,p⟩:=C5.set (x:=f.elim .none λf=>j7 f) st w a d n at_ c j i g z;exact Lr i g z<|h _ _ U p
theorem C5.pass(F:C5 s.heap base l e o fl)(h:∀h' fl',C5 h' base l e o fl'->s.heap.UpToSlots h'->E (.ref e) { s with heap:=h' }):i0 M A (passOn what (.ref e) c:Sem c6) R E s:=by obtain⟨T,W,vs,ts,st,w,a,d,n,at_,f,j,i,g,b⟩:=id F;unfold PySem.passOn;refine t4<|F6 at_ (eA d) (x:=.ref T) (by simp[n]) ?_;rw[p0<|show ¬(F8 T==G6)=a9 from by simp];exact t4<|F.flight λh' fl' U p=>wpAny_throw<|h h' fl' U p
inductive FlyN(X:Cx)(E:XK)(a:d6)(s':f9):Prop
 |mk (C:c6) (dx:Option d6) (H1:Hp) (B:d8) (o:d7) (fl:c6) (os:s'.os=X.s₀.os) (gb:g9 s'.gens) (ix:K9 o C) (dk:o.dict=dx) (fly:C5 s'.heap B (X.env::X.outer) a o fl) (un:Un X.fs [] X.H₀ H1 X.s₀.heap s'.heap) (hok:C6 X.prog X.w H1 s'.heap)
  (old:∀b o,X.s₀.heap.get? b=a7 o->b∉X.fs->∃o',B.get? b=a7 o'/\(X.H₀ b=a8->o'=o)) (trk:∀b u,H1 b=a7 u->∃o,B.get? b=a7 o) (q:E C dx H1)
def FlyN.leaves(d:DefX X)(r:X.A.frames=a7 (X.env::X.outer))(F:FlyN X E a s')(h:∀C dx H1 h'',s'.os=X.s₀.os->g9 s'.gens->MF X.prog X.w X.outer X.H₀ X.s₀.heap a C dx H1 h''->E C dx H1->Q () { s' with heap:=h'' }):i0 M X.A (l8 X.env<|.ref a) Q E' s':=by obtain⟨C,dx,H1,B,o,l,os,e,t,k,y,n,K,g,trk,q⟩:=F;unfold l8;refine t4<|y.look d.fr r λh1 f c u=>tT c λh2 b i=>h C dx H1 h2 os e ⟨B,o,t,k,b.out,?_,fT K trk y.st b.st,g,trk⟩ q;exact uC (stk:=X.outer) n g y.out.ff b.st<|u.trans i
def wJ{P:d5}{w:c9}{K:u6}{mg:c8->Option c6}{base:d8}{N:List c8}{l:c8}{scope:g8}{f:d6}{d:c6}{A:f8}{o:List g7}{s:f9}{H:Hp}{E:XK}(I:t5 (jw (La P w) P w K mg base N l scope f d A o s H E) pins σ H1 s1)(F:FlyN (jw (La P w) P w K mg base N l scope f d A o s H E) E a s'):(jw (La P w) P w K mg base N l scope f d A o s H E).xe (.ref a) s':=F.leaves rB I.ok.frames λC dx H1 h c e U q=>⟨a,C,dx,H1,rfl,c,e,U,q⟩
abbrev DX:=Xn->t7->Prop
abbrev F4:=DX->t9
abbrev yy:=DX->A3
abbrev yF:=List D->t7->DK->DX->Prop
inductive XQ(K:u6)(ρ:List d6)(H:Hp)(R:DX)(C:c6)(dx:Option d6)(H':Hp):Prop
 |mk (x:Xn) (c:d6) (M':t7) (ρ':List d6) (e:C=.ref c) (hx:LF K f6 x.nm=a7 (a7 (.ref c))) (xd:Kn K H' dx x.fs) (s:v4 K ρ' M' H') (g:Grow K ρ H ρ' H') (q:R x M')
section
variable{K:u6}{ρ ρ1:List d6}{H H1 H':Hp}{R:DX}{C:c6}{dx:Option d6}{M:t7}
def XQ.trans(g:Grow K ρ H ρ1 H1)(h:XQ K ρ1 H1 R C dx H'):XQ K ρ H R C dx H':=by obtain⟨x,c,M,a,e,d,F,s,b,q⟩:=h;exact⟨x,c,M,a,e,d,F,s,g.trans b,q⟩
def Ev(M:t7)(R:DX):DX:=λx b=>R x b\/∃a,LA M a/\a <+: b/\R x a
theorem XQ.endq(s:v4 K ρ M H)(h:XQ K ρ H (Ev M R) C dx H'):XQ K ρ H R C dx H':=by
 obtain⟨x,c,i,a,e,j,F,s',b,r⟩:=h;rcases r with q|⟨d,g,f,q⟩
 exact⟨x,c,i,a,e,j,F,s',b,q⟩;have k:a.take M.length=ρ:=by rw[<-s.len];exact bV b.pre
 have l:=s'.cut M.length λn m p e=>by
  have o:d[n]?=a7 m:=by obtain⟨t,rfl⟩:=f;rw[G4<|by rw[g.1];exact p]at e;exact e
  exact(g.2 n m o).elim (λz=>s.bels z) id
 have u:i.take M.length=d:=by rw[<-g.1];exact bV f
 rw[k,u]at l;exact⟨x,c,d,ρ,e,j,F,l,⟨Lc,b.tup,b.fr⟩,q⟩
end
inductive lowX(K:u6)(E:XK)(t:F4)(D:Ends)(σ:St)(H:Hp):Prop
 |mk (S:SD) (M:t7) (ρ:List d6) (F:DEnds) (R:DX) (s:v4 K ρ M H) (sr:SRep K ρ H S σ) (q:t R F S M) (k:Ou K ρ H F D) (x:∀C dx H',XQ K ρ H R C dx H'->E C dx H')
inductive lowXE(K:u6)(E:XK)(t:yy)(σ:St)(H:Hp)(Q:VK):Prop
 |mk (S:SD) (M:t7) (ρ:List d6) (F:DK) (R:DX) (s:v4 K ρ M H) (sr:SRep K ρ H S σ) (q:t R S M F) (k:∀v H',VQ K ρ H F v H'->Q v H') (x:∀C dx H',XQ K ρ H R C dx H'->E C dx H')
structure XA(b:Bool)(X:Cx)(pins:List (d6×d7))(E:XK)(P:St->Prop)(Ex:c6->f9->Prop):Prop where
 on:∀σ H1 s1 e s',P σ->t5 X pins σ H1 s1->La X.prog X.w X.stack H1 s1 E e s'->Ex e s'
 all:b=a9->∀σ,P σ
 made:b=a9->∀σ H1 s1 h' e C vs,t5 X pins σ H1 s1->Pd s1.heap h' e C vs->E C a8 H1->Ex (.ref e) { s1 with heap:=h' }
 init:b=a9->∀σ H1 s1 e C dx fs,t5 X pins σ H1 s1->X.s₀.heap.get? e=a8->H1 e=a7 (.ext<|P6 e C<|a7 dx)->H1 dx=a7 (.ext<|dE dx fs)->dx≠e->(∀od,s1.heap.get? dx=a7 od->E (.ref C) (a7 dx) (Eo H1 e dx od))->Ex (.ref e) s1
 noted:b=a9->∀a s',FlyN X E a s'->Ex (.ref a) s'
structure HX(b:Bool)(X:Cx)(st:i8)(t:F4):Prop where
 ok:∀(pins:List (d6×d7)) (s:f9) (σ:St) (H:Hp) (D:Ends) (E:XK) (P:St->Prop) (Ex:c6->f9->Prop),XA b X pins E P Ex->P σ->t5 X pins σ H s->lowX X.K E t D σ H->i0 (i4 X.prog X.w) X.A (exec st X.env) (SP X pins D) Ex s
structure L9(b:Bool)(X:Cx)(st:List i8)(t:F4):Prop where
 ok:∀(pins:List (d6×d7)) (s:f9) (σ:St) (H:Hp) (D:Ends) (E:XK) (P:St->Prop) (Ex:c6->f9->Prop),XA b X pins E P Ex->P σ->t5 X pins σ H s->lowX X.K E t D σ H->i0 (i4 X.prog X.w) X.A (execs st X.env) (SP X pins D) Ex s
structure Mn(b:Bool)(X:Cx)(e:i3)(t:yy):Prop where
 ok:∀(pins:List (d6×d7)) (s:f9) (σ:St) (H:Hp) (Q:VK) (E:XK) (P:St->Prop) (Ex:c6->f9->Prop),XA b X pins E P Ex->P σ->t5 X pins σ H s->lowXE X.K E t σ H Q->i0 (i4 X.prog X.w) X.A (eval e X.env) (EP X pins σ Q) Ex s
def L6(t:t9):F4:=λ_=>t
def BI(t u:F4):F4:=λR=>aC (t R)<|u R
def NP(c:G9)(t u:F4):F4:=λR=>A6 c (t R)<|u R
def xSet(t:yy)(i:Nat):F4:=λR=>bD (t R) i
def Ez(t:yy):F4:=λR=>nZ<|t R
def NQ(P:yF)(t:I9):yy:=λR S M Q=>t S M λds a=>P ds a Q R
def me(x:c8)(t:I9):F4:=λR _ S M=>t S M λds a=>ds.length<=sizeLine/\R x a
def PA.nox(h:PA X.nox es t)(I:t5 X pins σ H s)(q:t σ H Q):i0 (i4 X.prog X.w) X.A (spliced<|i6 pos<|i7 es X.env) (AP X pins σ Q) Ex s:=D3 (h pos pins s σ H Q (I.wish _) q) (λ_ _ ⟨v,H',a,r,z⟩=>⟨v,H',a.unwish,r,z⟩) λ_ _ z=>H9 z
def IG{b:Bool}{X:Cx}{st:i8}{t:t9}(h:HS X.nox st t):HX b X st (L6 t):=by refine⟨ ?_⟩;rintro a s σ H D E P Ex A p I ⟨S,M,ρ,F,R,m,c,q,k,x⟩;exact D3 (h.ok a s σ H D (I.wish _) ⟨S,M,ρ,F,m,c,q,k⟩) (λ_ _ z=>z.unwish) λ_ _ z=>H9 z
def FN:L9 b X [] (L6 aK):=by refine⟨ ?_⟩;rintro a s σ H D E P Ex A p I ⟨S,M,ρ,F,R,m,c,q,k,x⟩;exact N7 ⟨σ,H,I,k.nx σ H ⟨S,M,ρ,m,.refl,c,q⟩⟩
def Ak{b:Bool}{X:Cx}{st:i8}{t:F4}(h:HX b X st t):L9 b X [st] t:=⟨λa s σ H D E P Ex A p I q=>by
 refine Pm<|v6 (h.ok a s σ H D E P Ex A p I q) λf c q=>?_;cases f with
 |next=>exact N7 q
 |ret v=>exact q
 |brk=>exact q
 |cont=>exact q⟩
def wQ{X:Cx}{st:i8}{aO:List i8}{t u:F4}(h1:HX a9 X st t)(h2:L9 a9 X aO u):L9 a9 X (st::aO) (BI t u):=⟨λb s σ H D E P Ex A p I ⟨S,M,ρ,F,R,n,r,q,k,x⟩=>by
 refine Pm<|v6 (h1.ok b s σ H { D with nx:=λa H'=>SQ X.K ρ H (λd c=>u R F d c) a H' } E P Ex A p I ⟨S,M,ρ,_,R,n,r,q,⟨λ_ _ z=>z,k.rt,k.bk,k.ct⟩,x⟩) λf m z=>?_;cases f with
 |next=>obtain⟨a,H',j,d,c,g,s',h,e,l⟩:=z;exact h2.ok b m a H' D E P Ex A (A.all rfl a) j ⟨d,c,g,F,R,s',e,l,k.trans h,λC dx i w=>x C dx i<|w.trans h⟩
 |ret v=>exact z
 |brk=>exact z
 |cont=>exact z⟩
def IH(o:HT X.nox c tc)(n:L9 b X a t)(v:L9 b X d u):HX b X (.If c a d pos) (NP tc t u):=⟨λe s σ H D E P Ex A p I ⟨S,M,ρ,F,R,y,r,q,k,x⟩=>by
 refine wpAny_If<|D3 (o.ok e s σ H _ (I.wish _) ⟨S,M,ρ,_,y,r,q,λ_ _ z=>z⟩) (λc m ⟨H1,i,j,g,f,g1,l⟩=>?_) λ_ _ z=>H9 z;cases c with
 |true=>exact n.ok e m σ H1 D E P Ex A p i.unwish ⟨S,j,g,F,R,f,r.grow g1,l,k.trans g1,λC dx h w=>x C dx h<|w.trans g1⟩
 |false=>exact v.ok e m σ H1 D E P Ex A p i.unwish ⟨S,j,g,F,R,f,r.grow g1,l,k.trans g1,λC dx h w=>x C dx h<|w.trans g1⟩⟩
def Al(i:Mn b X e te)(hs:j0 e a8 pos.line X.env=pure c5:=by kernel_rfl):HX b X (.Expr e pos) (Ez te):=by refine⟨ ?_⟩;rintro a s σ H D E P Ex A p I ⟨S,M,ρ,F,R,m,r,q,k,x⟩;exact wpAny_Expr_any (v6 (i.ok a s σ H _ E P Ex A p I ⟨S,M,ρ,_,R,m,r,q,λ_ _ z=>z,x⟩) λv n ⟨y,H1,g,l,d,h,c,f,g1,r',j⟩=>⟨σ,H1,g,k.nx σ H1 ⟨S,h,c,f,g1,r.grow g1,j⟩⟩) I.quiet hs
def Ed(l:X.N.Nodup)(m:Mn b X e te)(hi:X.N[i]?=a7 x:=by kernel_rfl)(o:FF X.env.scope x=a9:=by kernel_rfl)(hs:j0 e (a7<|.Name x pos') pos.line X.env=pure c5:=by kernel_rfl)(n:X.fn x=a9:=by kernel_rfl):HX b X (.Assign [.Name x pos'] e pos) (xSet te i):=⟨by rintro a s σ H D E P Ex A p I ⟨S,M,ρ,F,R,w,r,q,k,B⟩;refine wpAny_Assign_Name (v6 (m.ok a s σ H _ E P Ex A p I ⟨S,M,ρ,_,R,w,r,q,λ_ _ z=>z,B⟩) ?_) hs;rintro v C ⟨y,H1,g,u,d,j,c,f,g1,r',t⟩;exact jM g l hi (wN o) u (λG h=>⟨_,H1,h,k.nx _ H1 ⟨_,j,c,f,g1,(r.grow g1).set i r',t⟩⟩)<|.inl n⟩
def CS(o:X.mg x=a7 (.ref C))(t:LF X.K f6 x=a7 (a7<|.ref C))(q:NC X.K C vE "ValueError.__new__" = a9)(h:HA X.nox (e::es) ta)(i:X.calm=a9:=by kernel_rfl)(n:X.env.kindOf x=a7 .globalImplicit:=by kernel_rfl) (j:i7 (e::es) X.env=(c5,eval e X.env)::i7 es X.env:=by kernel_rfl) (l:(i6 cpos<|i7 es X.env).any (·.1)=c5:=by kernel_rfl) (b:(x==("__debug__":c8))=c5:=by kernel_rfl):HX a9 X (.Raise (a7<|.Call (.Name x np) (e::es) [] cpos) a8 pos) (me x ta):=⟨λd s σ H D E P Ex A p I ⟨S,M,ρ,F,R,B,G,w,k,J⟩=>by refine Ck I o q i (D3 (h.ok.nox (Ex:=Ex) I ⟨S,M,ρ,_,B,G,w,λ_ _ z=>z⟩) (λus v ⟨vs,H1,a,r,ds,g,c,f,g1,u,z,y⟩=>?_) λ_ _ z=>z) n j l b;refine⟨by rw[<-r.length,<-u.length];exact z,a.bk,λh' e m=>A.made rfl σ H1 v h' e _ _ a m<|J _ _ _ ⟨⟨x,[]⟩,C,g,c,rfl,t,rfl,f,g1,y⟩⟩⟩
def QG(K:u6)(P:yF):Sp:=λvs H Q E=>∃ds M ρ R RX,v4 K ρ M H/\Reps K ρ H ds vs/\P ds M R RX/\(∀v H',VQ K ρ H R v H'->Q v H')/\∀C dx H',XQ K ρ H RX C dx H'->E C dx H'
def yA(P:d5)(w:c9)(K:u6)(mg:c8->Option c6)(base:d8)(k:Nat)(x:c8)(ps:List c8)(r:yF):Prop:=∃f d,FnOk P w K mg base (La P w) k f d ps (QG K r)/\mg x=a7 (.ref f)/\Mt K (.ref f)=a9/\oR K d ps []
def Ef(C:yA X.prog X.w X.K X.mg X.base j x ps P)(Y:Room k X.A)(L:HA X.nox (e::es) t)(hj:Nat.ble j k=a9:=by kernel_rfl)(T:X.env.kindOf x=a7 .globalImplicit:=by kernel_rfl)(d:(x==("__debug__":c8))=c5:=by kernel_rfl) (O:i7 (e::es) X.env=(c5,eval e X.env)::i7 es X.env:=by kernel_rfl) (l:(i6 pos<|i7 es X.env).any (·.1)=c5:=by kernel_rfl):Mn b X (.Call (.Name x p) (e::es) [] pos) (NQ P t):=⟨by
 rintro y s σ H Q E G Ex A g I ⟨S,M,ρ,F,R,sm,sr,q,k,xx⟩;obtain⟨f,fd,o,W,U,N⟩:=C;refine MR<|kE I T W ?_ d;refine Qh (h₀:=X.base) I.ok.mod.kin U (D3 (L.ok.nox (Ex:=Ex) (pos:=pos) I ⟨S,M,ρ,_,sm,sr,q,λ_ _ z=>z⟩) (λus i z=>?_) λ_ _ z=>z) O l;obtain⟨vs,H1,a,r,ds,D,n,m,g1,r1,Z⟩:=z;refine⟨a.kIn,?_⟩;have c:QG X.K P (vs++[]) H1 Q E:=⟨ds,D,n,F,R,m,by rw[Lh];exact r1,Z,λv H' w=>k v H'<|VQ.trans g1 w,λC dx H' w=>xx C dx H'<|w.trans g1⟩
 have B:az (vs++[]) (us++[]):=by rw[Lh,Lh];exact r
 have V:(us++[]).length=ps.length:=by rw[<-B.length];exact o.len _ _ _ _ c
 refine l5<|Mq ((o.more<|Qs hj).run X.A X.stack i H1 ⟨us,[]⟩ (us++[]) (vs++[]) Q E Y a.env0 (N i us a.kIn V) B c) λr s' h=>?_;cases r with
 |error e=>exact A.on σ H1 i e s' g a h
 |ok J =>
  cases J with
  |ret u=>exact a.after h
  |next=>exact H9 h
  |brk=>exact H9 h
  |cont=>exact H9 h⟩
abbrev Kr(Pr:yF)(ps:List c8):Prop:=∀ds M R RX,Pr ds M R RX->ds.length=ps.length
abbrev DerX(P:d5)(w:c9)(K:u6)(mg:c8->Option c6)(base:d8)(k:Nat)(x:c8)(N:List c8)(st:i8)(t:F4):Prop:=∀(f:d6) (cdv:c6) (A:f8) (outer:List g7) (s:f9) (H:Hp) (E:XK),Room k (A.deeper<|OU x (ao st) s.heap.objs.size f cdv)->L9 a9 (jw (La P w) P w K mg base N x (ao st) f cdv A outer s H E) (bG st) t
def yA.by{P:d5}{w:c9}{K:u6}{mg:c8->Option c6}{base:d8}{x:c8}{st:i8}{N ps:List c8}{k:Nat}{y:yF}{B:List c8}{C:List (c8×Int)}{t:F4}(T:TopB mg B C)(F:dq K mg x st ps)(Y:FnScope N ps (ao st))(U:Kr y ps)(J:TopB mg B C->N.Nodup->DerX P w K mg base k x N st t)(wp:∀ds M R RX,y ds M R RX->t (Ev M RX) (EE M R) (bp N ds) M):yA P w K mg base (k+1) x ps y:=by obtain⟨f,fd,W,hm,hb⟩:=F;refine⟨f,fd,?_,hm,W.kp,hb⟩;obtain⟨oc,od,kV,ab,pm,an,G,ct,ai,rfl,lk,O⟩:=W.ex;refine Do lk O Y (λvs H Q E ⟨ds,M,ρ,R,RX,s,r,q,_⟩=>by rw[<-r.length];exact U ds M R RX q) λA o s H vs Q E hr h=>?_;obtain⟨ds,M,ρ,R,RX,l,r,q,Z,kx⟩:=h;refine⟨lowX K E t,λp s1 σ H1 D I z=>(J T Y.nd f G A o s H E hr).ok p s1 σ H1 D E (λ_=>True) _ ⟨λb n V e s' _ g c=>zO p b n V e s' g c,λ_ _=>trivial,λ_ b n V h' e C vs g m q=>zW g m q,λ_ b n V e C dx fs g s0 he S ne q=>AA g s0 he S ne q,λ_ a s' F=>wJ I F⟩ trivial I z,bp N ds,M,ρ,_,_,l,SRep.start r N,wp ds M R RX q,⟨λb H' ⟨X,u,d,s',L,i,j⟩=>?_,λv H' z=>Z v H'<|VQ.endq l z,λb H' ⟨X,u,d,s',L,i,j⟩=>j.elim,λb H' ⟨X,u,d,s',L,i,j⟩=>j.elim⟩,λC dx H' z=>kx C dx H'<|XQ.endq l z⟩;exact Z .non H'<|VQ.endq l ⟨.non,u,d,s',L,.non,j⟩
abbrev P9(Pr:yF)(n:Nat)(t:F4):Prop:=∀ds M R RX,Pr ds M R RX->t (Ev M RX) (EE M R) (Op n ds) M
abbrev P3(Pr:yF):A7:=λds M R=>Pr ds M R λ_ _=>False
def yA.nev{P:d5}{w:c9}{K:u6}{mg:c8->Option c6}{base:d8}{x:c8}{ps:List c8}{k:Nat}{d:yF}(h:yA P w K mg base k x ps d):w4 P w K mg base k x ps (P3 d):=by
 obtain⟨f,g,F,m,j,i⟩:=h;have n:∀{ρ:List d6}{H:Hp} (C:c6) (dx:Option d6) (H':Hp),XQ K ρ H (λ_ _=>False) C dx H'->E0 C dx H':=λC dx H' ⟨_,_,_,_,_,_,_,_,_,q⟩=>q;refine⟨f,g,⟨λvs H Q E ⟨ds,M,ρ,R,s,r,q,b⟩=>F.len vs H Q E0 ⟨ds,M,ρ,R,_,s,r,q,b,n⟩,λA o s H O us vs Q E p c a v ⟨ds,M,ρ,R,t,r,q,b⟩=>?_⟩,m,j,i⟩;refine Mq (F.run A o s H O us vs Q E0 p c a v ⟨ds,M,ρ,R,_,t,r,q,b,n⟩) λr s' z=>?_;cases r with
 |error e=>obtain⟨_,_,_,_,_,_,_,_,z⟩:=z;exact z.elim
 |ok l=>cases l<;>exact z
def AD{X:Cx}{c:Bool}{b:List i8}{st:i8}{s:List i8}{t:F4}(h:b=st::s)(q:L9 c X (st::s) t):L9 c X b t:=h ▸ q
noncomputable abbrev yz:=List<|c8×List (c8×Bool)
noncomputable def yj(K:u6)(t:c8×List (c8×Bool)):Bool:=match LF K f6 t.1 with
 |some (a7<|.ref C)=>(NC K C vE "ValueError.__new__" || (t.2.lookup ("":c8)).isSome)&&ML K (.ref C) "__getattribute__" == a7 (a7<|.builtin "BaseException.__getattribute__")&&ML K (.ref C) "__getattr__" == a7 a8 &&
   PySem.W.mroIn K C (.type "BaseException")==a7 a9&&PySem.W.mroIn K C (.type "object")==a7 a9&&ML K (.ref C) "__class__" == a7 (a7<|.builtin "object.__class__")&&Ll K (.ref C) (.type "ValueError")==a7 a9 &&
   t.2.all λr=>r.1==("":c8)||match LF K f6 r.1 with
    |some (a7<|.ref C')=>Pc K (.ref C) (.ref C')==a7 r.2&&Ll K (.ref C) (.ref C')==a7 r.2&&Ll K (.type "NoneType") (.ref C')==a7 c5
    |_=>c5
 |_=>c5
noncomputable def eI(K:u6)(T:yz):Bool:=T.all<|yj K
noncomputable def wx(T:yz)(x y:c8):Option Bool:=(T.lookup x).bind (·.lookup y)
structure ClsX(K:u6)(x:c8)(C:d6):Prop where
 at_:LF K f6 x=a7 (a7<|.ref C)
 own:ExcK K C
 val:Ll K (.ref C) (.type "ValueError")=a7 a9
def yj.cls{K:u6}{x:c8}{w:List (c8×Bool)}(h:yj K (x,w)=a9):∃C,ClsX K x C/\(w.lookup ("":c8)=a8->NC K C vE "ValueError.__new__" = a9)/\∀y v,(y,v)∈w->(y==("":c8))=c5->∃C',LF K f6 y=a7 (a7<|.ref C')/\Pc K (.ref C) (.ref C')=a7 v/\Ll K (.ref C) (.ref C')=a7 v/\Ll K (.type "NoneType") (.ref C')=a7 c5:=by unfold yj at h;split at h;rename_i C e;simp only[A2,p7]at h;obtain⟨⟨⟨⟨⟨⟨⟨h1,h2⟩,c⟩,d⟩,k⟩,f⟩,g⟩,i⟩:=h;refine⟨C,⟨e,⟨h2,c,d,k,f⟩,g⟩,λz=>?_,λy v O a=>?_⟩;rw[z]at h1;simpa using h1;have:=z5.mp i (y,v) O;dsimp only at this;rw[a,Bool.false_or]at this;split at this;rename_i C' b;simp only[A2,p7]at this;exact⟨C',b,this.1.1,this.1.2,this.2⟩;cases this;cases h
def iK{α β:Type}[BEq α][LawfulBEq α]{a:α}{v:β}:∀{l:List (α×β)},l.lookup a=a7 v->(a,v)∈l
 | [],h=>by cases h
 |(c,w)::l,h=>by rw[Mx]at h;split at h;rename_i e;cases h;rw[beq_iff_eq.mp e];exact A9;exact C4 _<|iK h
def eI.cls{K:u6}{T:yz}{x:c8}(h:eI K T=a9)(d:(T.lookup x).isSome=a9):∃C,ClsX K x C/\(wx T x "" = a8->NC K C vE "ValueError.__new__" = a9)/\∀y v,wx T x y=a7 v->(y==("":c8))=c5->∃C',LF K f6 y=a7 (a7<|.ref C')/\Pc K (.ref C) (.ref C')=a7 v/\Ll K (.ref C) (.ref C')=a7 v/\Ll K (.type "NoneType") (.ref C')=a7 c5:=by obtain⟨w,e⟩:=QC.mp d;obtain⟨C,c,b,r⟩:=yj.cls<|z5.mp h _<|iK e;refine⟨C,c,λz=>b ?_,λy v a=>?_⟩;unfold wx at z;rw[e]at z;exact z;unfold wx at a;rw[e]at a;exact r y v<|iK a
def wx.has(h:wx T x y=a7 v):(T.lookup x).isSome=a9:=by
 unfold wx at h;cases q:T.lookup x with
 |none=>rw[q]at h;cases h
 |some _=>rfl
section
variable{b:Bool}{X:Cx}{e:i3}{es:List i3}{x:c8}{pos:i5}
def tU{n a:i5}{t:I9}{T:yz}(m:eI X.K T=a9)(f:HA X.nox (e::es) t)(k:(T.lookup x).isSome=a9:=by kernel_rfl)(j:wx T x "" = a8:=by kernel_rfl)(g:X.calm=a9:=by kernel_rfl)(S:X.env.kindOf x=a7 .globalImplicit:=by kernel_rfl) (i:i7 (e::es) X.env=(c5,eval e X.env)::i7 es X.env:=by kernel_rfl) (l:(i6 a<|i7 es X.env).any (·.1)=c5:=by kernel_rfl) (h:(x==("__debug__":c8))=c5:=by kernel_rfl):HX a9 X (.Raise (a7<|.Call (.Name x n) (e::es) [] a) a8 pos) (me x t):=⟨λb s σ H D E P Ex A p I z=>by obtain⟨C,c,d,_⟩:=eI.cls m k;exact(CS (OF I.mod.kin I.mod.glob c.at_) c.at_ (d j) f g S i l h).ok b s σ H D E P Ex A p I z⟩
def dTry(T:yz)(y:c8)(i:Nat)(t:F4)(ts:d6->t9):t9:=λF S M =>
 t (λx c=>wx T x.nm y=a7 a9/\∀a,ts a ⟨λd b=>F.nx (d.set i a8) b,λ_ _=>False,λ_ _=>False,λ_ _=>False⟩ (S.set i<|a7<|.ref c.length)<|c++[.exc x a]) F S M
def SRep.drop{K:u6}{ρ:List d6}{H:Hp}{S:SD}{σ:St}(r:SRep K ρ H S σ)(i:Nat):SRep K ρ H (S.set i a8) (σ.set i a8):=by refine⟨by simpa using r.len,λj d e=>?_⟩;by_cases h:i=j;subst h;by_cases g:i<S.length;rw[Lj g]at e;cases e;rw[MU<|by simpa using g]at e;cases e;rw[KO h]at e;obtain⟨v,c,a⟩:=r.get j d e;exact⟨v,by rw[KO h];exact c,a⟩
def Eh{T:yz}{y n:c8}{i:Nat}{b:List i8}{l:i8}{j:List i8}{np g:i5}{tb:F4}{ts:d6->t9}(hT:eI X.K T=a9)(hN:X.N.Nodup)(hb:L9 c5 X b tb)(hs:∀a,HB (X.held a) (l::j)<|ts a)(d1:X.stack=X.env::X.outer:=by kernel_rfl) (d2:X.env.frame=a7 X.env.locals:=by kernel_rfl) (d3:X.ex=[]:=by kernel_rfl) (hi:X.N[i]?=a7 n:=by kernel_rfl) (hk:X.env.scope.names.lookup n=a7 .local:=by kernel_rfl)(hg:X.env.kindOf y=a7 .globalImplicit:=by kernel_rfl) (L:(y==("__debug__":c8))=c5:=by kernel_rfl) (O:(y==("":c8))=c5:=by kernel_rfl):HS X (.Try b [.ExceptHandler (a7<|.Name y np) (a7 n) (l::j) g] [] [] pos) (dTry T y i tb ts):=⟨by
 rintro p s σ H D I ⟨S,M,ρ,F,sm,sr,q,k⟩;refine wpAny_Try_except<|v6 (hb.ok p s σ H D (XQ X.K ρ H _) (λr=>r=σ) _ ⟨?_,λz=>(nomatch z),λz=>(nomatch z),λz=>(nomatch z),λz=>(nomatch z)⟩ rfl I ⟨S,M,ρ,F,_,sm,sr,q,k,λ_ _ _ z=>z⟩) λf s1 z=>?_;rintro r H1 s1 e s' rfl I1 ⟨a,C,dx,U,rfl,t,J,R,x,c,V,m,rfl,Y,xd,Z,W,h,q2⟩;obtain⟨E,c0,_,r0⟩:=eI.cls hT<|wx.has h;obtain⟨C',hy,hm,_⟩:=r0 y a9 h O;have ec:E=c:=by have:=c0.at_.symm.trans Y;cases this;rfl
 subst ec;have A:U a=a8:=by
  obtain⟨B,_,_,_,G,_,_,_,trk⟩:=R;cases q:U a with
  |none=>rfl
  |some u=>obtain⟨o,t⟩:=trk a u q;rw[G.nw]at t;cases t
 refine Bm (C:=E) (C':=C') (i:=i) I1 ⟨d1,d2,d3⟩ t J R hN hi hk (OF I.mod.kin I.mod.glob hy) hm (hs a).ok (λoe ix dk=>⟨S.set i<|a7<|.ref V.length,V++[.exc x a],m++[a],_,Z.laidM (mo:=.exc x a) A ⟨rfl,E,oe,Y,ix,dk ▸ xd.grow (Grow.laidR (ρ:=m) A),aI⟩,(sr.grow<|W.trans<|Grow.laidR A).set i<|.ref Z.last,q2 a,⟨λab H3 w=>?_,λ_ _ w=>?_,λ_ _ w=>?_,λ_ _ w=>?_⟩⟩) hg L;obtain⟨S3,M3,Q,s3,g3,P,d⟩:=w;exact k.nx _ H3 ⟨_,M3,Q,s3,(W.trans<|Grow.laidR A).trans g3,P.drop i,d⟩;obtain⟨_,_,_,_,_,_,d⟩:=w;exact d;obtain⟨_,_,_,_,_,_,d⟩:=w;exact d;obtain⟨_,_,_,_,_,_,d⟩:=w;exact d
 ·cases f with
  |next=>exact N7 z
  |ret v=>exact z
  |brk=>exact z
  |cont=>exact z⟩
noncomputable def subY(T:yz)(y:c8):Bool:=T.any λr=>(r.2.lookup y).isSome
def eI.any{K:u6}{T:yz}{y:c8}(h:eI K T=a9)(O:subY T y=a9)(a:(y==("":c8))=c5):∃C',LF K f6 y=a7 (a7<|.ref C')/\Ll K (.type "NoneType") (.ref C')=a7 c5:=by obtain⟨⟨x,w⟩,i,g⟩:=OO.mp O;obtain⟨v,c⟩:=QC.mp g;obtain⟨C,_,_,r⟩:=yj.cls<|z5.mp h _ i;obtain⟨C',h1,_,_,d⟩:=r y v (iK c) a;exact⟨C',h1,d⟩
def xf(T:yz)(y:c8)(te:A3):A3:=λS M Q=>te S M λd a=>match d with
 |.ref n=>(match a[n]? with
  |some (.exc x _)=>(match wx T x.nm y with
   |some v=>Q (.bl v) a
   |none=>False)
  |_=>False)
 |.non=>Q (.bl c5) a
 |_=>False
def dIsV(T:yz)(te:A3):A3:=λS M Q=>te S M λd a=>match d with
 |.ref n=>(match a[n]? with
  |some (.exc x _)=>(T.lookup x.nm).isSome=a9/\Q (.bl a9) a
  |_=>False)
 |.non=>Q (.bl c5) a
 |_=>False
def rIsC(K:u6)(c:V)(u:c6):List V->Hp->VK->Prop:=λvs H Q=>∃b,vs=[b,c]/\((b=.non/\Ll K (.type "NoneType") u=a7 c5/\Q (.bl c5) H)\/∃a C o v,b=.ref a/\H a=a7 (.frz o<|.own a)/\K9 o (.ref C)/\ExcK K C/\Ll K (.ref C) u=a7 v/\Q (.bl v) H)
def xi(i:∀u',aR c u'->u'=u):gK X (.builtin "isinstance") (rIsC X.K c u):=by
 rintro p s σ H vs us Q I d ⟨g,rfl,h⟩;obtain⟨b,e,rfl,r,l⟩:=az.two d;obtain rfl:=i e l;rcases h with⟨rfl,k,q⟩|⟨a,C,o,v,rfl,f,x,E,k,q⟩
 obtain rfl:b=G6:=r;exact PySem.W.kia_one PySem.W.kitx_none I.kIn trivial k (by intro z;cases z) λt=>⟨.bl c5,H,I.tok t,rfl,q⟩
 obtain rfl:b=F8 a:=r;exact PySem.W.kia_one (CW E) I.kIn ⟨o,(I.hok a _ f).1,x.1⟩ k (by intro z;cases z) λt=>⟨.bl v,H,I.tok t,rfl,q⟩
def Jd{T:yz}{y:c8}{p f:i5}{te:A3}(F:eI X.K T=a9)(hm:X.mg "isinstance" = a8)(V:HE X e te)(Y:subY T y=a9:=by kernel_rfl)(W:X.env.kindOf "isinstance" = a7 .globalImplicit:=by kernel_rfl)(hy:X.env.kindOf y=a7 .globalImplicit:=by kernel_rfl)(o:(y==("__debug__":c8))=c5:=by kernel_rfl)(g:i7 [e,.Name y f] X.env=(c5,eval e X.env)::i7 [.Name y f] X.env:=by kernel_rfl) (z:i7 [.Name y f] X.env=(c5,eval (.Name y f) X.env)::i7 [] X.env:=by kernel_rfl) (w:(i6 pos<|i7 [.Name y f] X.env).any (·.1)=c5:=by kernel_rfl) (i:(y==("":c8))=c5:=by kernel_rfl):HE X (.Call (.Name "isinstance" p) [e,.Name y f] [] pos) (xf T y te):=⟨by
 rintro l s σ H Q I ⟨S,M,ρ,R,sm,sr,q,k⟩;obtain⟨j,G,h⟩:=eI.any F Y i;refine qD (xi (X:=X) (c:=.ref j) (u:=.ref j) λu' r=>r) W hm fY (ng V.ok (ng (zL (v:=.ref j) hy (OF I.mod.kin I.mod.glob G) rfl o) zP z) g) b0 b0 g w l s σ H Q I ?_;refine⟨S,M,ρ,_,sm,sr,q,?_⟩;rintro v H1 ⟨d,E,m,A,g1,L,b⟩;show rIsC X.K (.ref j) (.ref j) [v,.ref j] H1 Q;refine⟨v,rfl,?_⟩;cases d with
 |non=>obtain rfl:=u7.inv_non L;exact .inl ⟨rfl,h,k _ _ ⟨_,E,m,A,g1,.bl c5,b⟩⟩
 |ref n =>
  obtain⟨a,rfl,N⟩:=u7.inv_ref L;dsimp only at b;split at b;rename_i x _ hx;split at b;rename_i v J;obtain⟨C,c,_,r⟩:=eI.cls F<|wx.has J;obtain⟨O,t,_,Z,_⟩:=r y v J i;have B:O=j:=by have:=t.symm.trans G;cases this;rfl
  subst B;obtain⟨_,D,o3,P,ix,_,U⟩:=A.obj n a _ N hx;have B:D=C:=by have:=P.symm.trans c.at_;cases this;rfl
  subst B;exact .inr ⟨a,D,o3,v,rfl,U,ix,c.own,Z,k _ _ ⟨_,E,m,A,g1,.bl v,b⟩⟩;exact b.elim;exact b.elim
 |_=>exact b.elim⟩
def rE:f7 "ValueError" = a7 (.type "ValueError"):=by decide +kernel
def Aq{K:u6}:Ll K (.type "NoneType") (.type "ValueError")=a7 c5:=by kernel_rfl
def Je{T:yz}{p f:i5}{te:A3}(y:eI X.K T=a9)(F:X.mg "isinstance" = a8)(G:X.mg "ValueError" = a8)(A:HE X e te)(E:X.env.kindOf "isinstance" = a7 .globalImplicit:=by kernel_rfl)(O:X.env.kindOf "ValueError" = a7 .globalImplicit:=by kernel_rfl)(g:i7 [e,.Name "ValueError" f] X.env=(c5,eval e X.env)::i7 [.Name "ValueError" f] X.env:=by kernel_rfl) (j:i7 [.Name "ValueError" f] X.env=(c5,eval (.Name "ValueError" f) X.env)::i7 [] X.env:=by kernel_rfl) (l:(i6 pos<|i7 [.Name "ValueError" f] X.env).any (·.1)=c5:=by kernel_rfl):HE X (.Call (.Name "isinstance" p) [e,.Name "ValueError" f] [] pos) (dIsV T te):=⟨by
 rintro h s σ H Q I ⟨S,M,ρ,R,U,V,q,k⟩;refine qD (xi (X:=X) (c:=.ty "ValueError") (u:=.type "ValueError") λu' r=>r) E F fY (ng A.ok (ng (zN (v:=.ty "ValueError") O G rE rfl) zP j) g) b0 b0 g l h s σ H Q I ?_;refine⟨S,M,ρ,_,U,V,q,?_⟩;rintro v H1 ⟨d,o,i,m,g1,t,b⟩;show rIsC X.K (.ty "ValueError") (.type "ValueError") [v,.ty "ValueError"] H1 Q;refine⟨v,rfl,?_⟩;cases d with
 |non=>obtain rfl:=u7.inv_non t;exact .inl ⟨rfl,Aq,k _ _ ⟨_,o,i,m,g1,.bl c5,b⟩⟩
 |ref n =>
  obtain⟨a,rfl,N⟩:=u7.inv_ref t;dsimp only at b;split at b;rename_i x _ J;obtain⟨C,c,_⟩:=eI.cls y b.1;obtain⟨_,D,P,w,L,_,z⟩:=m.obj n a _ N J;have B:D=C:=by have:=w.symm.trans c.at_;cases this;rfl
  subst B;exact .inr ⟨a,D,P,a9,rfl,z,L,c.own,c.val,k _ _ ⟨_,o,i,m,g1,.bl a9,b.2⟩⟩;exact b.elim
 |_=>exact b.elim⟩
end
structure RoomH(k:Nat)(A:f8):Prop where
 dp:A.depth+3*k+5<recursionLimit
 un:A.units+16*k+200<k7
def Room.held(r:Room k A)(h:Option c6):RoomH k (A.mark h):=⟨r.dp,r.un⟩
def RoomH.mono(r:RoomH k A)(h:j<=k):RoomH j A:=⟨by have:=r.dp;lia,by have:=r.un;lia⟩
def RoomH.deeper(r:RoomH (k+1) A)(env:g7):RoomH k (A.deeper env):=⟨by have:=r.dp;show A.depth+1+3*k+5<_;lia,by have:=r.un;show A.units+3+16*k+200<_;lia⟩
def RoomH.depth(r:RoomH k A):A.depth<recursionLimit:=by have:=r.dp;lia
def Ey(A:f8)(H:Hp):Prop:=∃a o C,A.handled=a7 (.ref a)/\H a=a7 (.frz o<|.own a)/\K9 o C
abbrev DO(X:Cx):Prop:=Ey X.A X.H₀
noncomputable abbrev NT(P:d5)(w:c9)(K:u6)(mg:c8->Option c6)(base:d8)(N:List c8)(qual:c8)(scope:g8)(f:d6)(cd:c6)(A:f8)(outer:List g7)(s:f9)(H:Hp)(E:XK):Cx:={ jw G3 P w K mg base N qual scope f cd A outer s H E with calm:=c5,xe:=λ_ _=>False }
structure Oz(P:d5)(w:c9)(K:u6)(mg:c8->Option c6)(base:d8)(k:Nat)(f:d6)(fd:k8)(ps:List c8)(sp:Sp):Prop where
 len:∀vs H Q E,sp vs H Q E->vs.length=ps.length
 run:∀(A:f8) (outer:List g7) (s:f9) (H:Hp) (args:Args) (us:List c6) (vs:List V) (Q:VK) (E:XK),RoomH k A->Ey A H->Env0 P w K mg base A outer s H->BindsTo s fd args (ps.zip us)->az vs us->sp vs H Q E ->k9 (i4 P w) A (.call (.ref f) args) (CR G3 outer P w H s Q E) s
def Oz.more{P:d5}{w:c9}{K:u6}{mg:c8->Option c6}{base:d8}{j k:Nat}{f:d6}{d:k8}{ps:List c8}{sp:Sp}(F:Oz P w K mg base j f d ps sp)(h:j<=k):Oz P w K mg base k f d ps sp:=⟨F.len,λA o s H O us vs Q E i=>F.run A o s H O us vs Q E<|i.mono h⟩
def JA{P:d5}{w:c9}{K:u6}{mg:c8->Option c6}{base:d8}{k:Nat}{f:d6}{name l:c8}{p:Arguments}{g:List i8}{scope:g8}{Y kV m pm c U oc:c6}{R od:Option d6}{L:Array (Option c6)}{N ps:List c8}{sp:Sp} (lk:K.lookup f=a7 ⟨oc,od,.func<|Mf name l p g scope Y kV m pm R c U,L⟩) (F:OJ K c l=a9) (S:FnScope N ps scope)(D:∀vs H Q E,sp vs H Q E->vs.length=ps.length)(i:∀(A:f8) (outer:List g7) (s:f9) (H:Hp) (vs:List V) (Q:VK) (E:XK),RoomH k (A.deeper<|c7 l scope s.heap.objs.size f c)->DO (NT P w K mg base N l scope f c A outer s H E)->sp vs H Q E -> ∃t,Kz (NT P w K mg base N l scope f c A outer s H E) g t/\t { nx:=λ_ H'=>Q .non H',rt:=Q } (start N vs) H):Oz P w K mg base (k+1) f (Mf name l p g scope Y kV m pm R c U) ps sp:=by
 refine⟨D,λA outer s H T us vs Q E Z hX d hb r C=>?_⟩;have hl:=D _ _ _ _ C;have X:K.In s.heap:=d.mod.kin.keeps λb o e=>(d.bs b o e).1;have G:s.heap.NoLimit:=d.mod.nolimit.keeps λb o e=>(d.bs b o e).1;have j:∀y∈ps.zip us,scope.names.lookup y.1=a7 .local\/(scope.names.lookup y.1=a7 .cell/\((cellsFrom (s.heap.objs.size+1) scope.names []).lookup y.1).isSome=a9):=λ⟨n,v⟩ hy=>by rcases S.par n (OK hy).1 with q|q;exact .inl q;exact .inr ⟨q,PJ _ _ _<|.inl q⟩
 refine codeAny_call_function Z.depth (X _ _ lk) rfl S.co S.gen rfl (PySem.W.codeRec_of X F)<|hb _ _ _ _ ?_;refine QE S.kind j λenv he O x=>?_;subst he;refine⟨G.keeps x.toInCall.keep,codeAny_func ?_⟩;obtain⟨t,ht,hq⟩:=i A outer s H vs Q E (Z.deeper _) hX C;have e1:Env0 P w K mg base { A with handled:=a8 } outer s H:=⟨d.frames,d.mod,d.bs,d.bsz,d.funs,d.frf,d.hok,d.bare⟩
 have a:t5 (jw G3 P w K mg base N l scope f c { A with handled:=a8 } outer s H E) [] (start N vs) H O:=nS S rfl e1 hl r x;have I:t5 (NT P w K mg base N l scope f c A outer s H E) [] (start N vs) H O:=⟨⟨a.ok.mod,a.ok.kind,a.ok.glob,a.ok.blt,a.ok.above,a.ok.inj,a.ok.has,a.ok.cab,(λz=>Bool.noConfusion z),Around.frames_deeper d.frames,a.ok.stk,a.ok.exf,a.ok.bs,a.ok.bsz,a.ok.noex,a.ok.exfs,a.ok.funs,a.ok.frf⟩,a.os,a.bare,a.base,a.loc,a.cell,a.free,a.freeC,a.pin,a.hok,a.len⟩
 refine D3 (ht [] O (start N vs) H _ I hq) (λfl s' hs=>?_) λe s' hs=>hs.elim;have B:∀{h:St}{H':Hp}{v:V}{u:c6},t5 (NT P w K mg base N l scope f c A outer s H E) [] h H' s'->aR v u->Q v H'->CE outer P w H s Q u s':=λ{h H' v u} J M q=>⟨v,H',J.os,J.bare,J.base,J.hok,M,q⟩
 cases fl with
 |ret u=>obtain⟨v,h,H',J,M,q⟩:=hs;exact B J M q
 |next=>obtain⟨h,H',J,q⟩:=hs;exact B (v:=V.non) (u:=G6) J rfl q
 |brk=>obtain⟨_,_,_,q⟩:=hs;exact H9 q
 |cont=>obtain⟨_,_,_,q⟩:=hs;exact H9 q
def Kt(P:d5)(w:c9)(K:u6)(mg:c8->Option c6)(base:d8)(k:Nat)(x:c8)(ps:List c8)(r:A7):Prop:=∃f d,Oz P w K mg base k f d ps (Lv K r)/\mg x=a7 (.ref f)/\Mt K (.ref f)=a9/\oR K d ps []
abbrev DerH(P:d5)(w:c9)(K:u6)(mg:c8->Option c6)(base:d8)(k:Nat)(x:c8)(N:List c8)(st:i8)(t:t9):Prop:=∀(f:d6) (cdv:c6) (A:f8) (outer:List g7) (s:f9) (H:Hp) (E:XK),RoomH k (A.deeper<|OU x (ao st) s.heap.objs.size f cdv)->DO (NT P w K mg base N x (ao st) f cdv A outer s H E)->HB (NT P w K mg base N x (ao st) f cdv A outer s H E) (bG st) t
def Kt.by{P:d5}{w:c9}{K:u6}{mg:c8->Option c6}{base:d8}{x:c8}{st:i8}{N ps:List c8}{k:Nat}{e:A7}{B:List c8}{C:List (c8×Int)}{t:t9}(T:TopB mg B C)(F:dq K mg x st ps)(y:FnScope N ps (ao st))(n:fu e ps)(i:TopB mg B C->N.Nodup->DerH P w K mg base k x N st t)(W:∀ds M R,e ds M R->t (EE M R) (bp N ds) M):Kt P w K mg base (k+1) x ps e:=by obtain⟨f,I,u,L,J⟩:=F;refine⟨f,I,?_,L,u.kp,J⟩;obtain⟨oc,od,kV,G,pm,Y,g,Z,V,rfl,U,m⟩:=u.ex;refine JA U m y (λvs H Q E ⟨ds,M,ρ,R,s,r,q,_⟩=>by rw[<-r.length];exact n ds M R q) λA o s H vs Q E O X h=>?_;obtain⟨ds,M,ρ,R,p,r,q,D⟩:=h;refine⟨lowS K t,(i T y.nd f g A o s H E O X).ok,bp N ds,M,ρ,_,p,SRep.start r N,W ds M R q,⟨λc H' ⟨S,d,a,s',l,b,j⟩=>?_,λv H' z=>D v H'<|VQ.endq p z,λc H' ⟨S,d,a,s',l,b,j⟩=>j.elim,λc H' ⟨S,d,a,s',l,b,j⟩=>j.elim⟩⟩;exact D .non H'<|VQ.endq p ⟨.non,d,a,s',l,.non,j⟩
def dCBH(a:d6)(P:A7)(t:I9):A3:=λS M Q=>t S M λds b=>(∃(n:Nat) (x:Xn),b[n]?=a7 (MO.exc x a))/\P ds b Q
def Jh{X:Cx}{a:d6}{e:i3}{es:List i3}{x:c8}{p pos:i5}{t:I9}(C:Kt X.prog X.w X.K X.mg X.base j x ps P)(Y:Room k X.A)(i:HA (X.held a) (e::es) t)(hj:Nat.ble j k=a9:=by kernel_rfl)(O:X.env.kindOf x=a7 .globalImplicit:=by kernel_rfl)(l:(x==("__debug__":c8))=c5:=by kernel_rfl) (N:i7 (e::es) X.env=(c5,eval e X.env)::i7 es X.env:=by kernel_rfl) (m:(i6 pos<|i7 es X.env).any (·.1)=c5:=by kernel_rfl):HE (X.held a) (.Call (.Name x p) (e::es) [] pos) (dCBH a P t):=⟨by
 rintro c s σ H Q I ⟨S,M,ρ,F,sm,sr,q,k⟩;obtain⟨f,fd,B,U,R,L⟩:=C;refine MR<|kE I O U ?_ l;refine Qh (h₀:=X.base) I.ok.mod.kin R (v6 (i.ok pos c s σ H _ I ⟨S,M,ρ,_,sm,sr,q,λ_ _ z=>z⟩) λus E z=>?_) N m;obtain⟨vs,H1,g,r,ds,G,y,d,g1,r1,⟨n,x,V⟩,q1⟩:=z;obtain⟨a',W,rfl,C,o,_,Z,_,i⟩:=d.get V;refine⟨g.kIn,?_⟩;have b:Lv X.K P (vs++[]) H1 Q E0:=⟨ds,G,y,F,d,by rw[Lh];exact r1,q1,λv H' w=>k v H'<|VQ.trans g1 w⟩
 have D:az (vs++[]) (us++[]):=by rw[Lh,Lh];exact r
 have T:(us++[]).length=ps.length:=by rw[<-D.length];exact B.len _ _ _ _ b
 refine l5<|Mq ((B.more<|Qs hj).run (X.held a).A X.stack E H1 ⟨us,[]⟩ (us++[]) (vs++[]) Q E0 (Y.held _) ⟨a,o,_,rfl,i,Z⟩ g.env0 (L E us g.kIn T) D b) λr s' h=>?_;cases r with
 |error e=>exact H9 h
 |ok J =>
  cases J with
  |ret u=>exact g.after h
  |next=>exact H9 h
  |brk=>exact H9 h
  |cont=>exact H9 h⟩
end L2
namespace L2
open PySem PySem.Spec PyProof.Rows DL PySem.W
end L2
namespace L2
open PySem PySem.Spec PyProof.Rows DL
abbrev DTAX:=DX->I9
inductive lowXA(K:u6)(E:XK)(t:DTAX)(σ:St)(H:Hp)(Q:List V->Hp->Prop):Prop
 |mk (S:SD) (M:t7) (ρ:List d6) (F:List D->t7->Prop) (R:DX) (s:v4 K ρ M H) (sr:SRep K ρ H S σ) (q:t R S M F) (k:∀v H',AQ K ρ H F v H'->Q v H') (x:∀C dx H',XQ K ρ H R C dx H'->E C dx H')
structure QN(b:Bool)(X:Cx)(es:List i3)(t:DTAX):Prop where
 ok:∀(pos:i5) (pins:List (d6×d7)) (s:f9) (σ:St) (H:Hp) (Q:List V->Hp->Prop) (E:XK) (P:St->Prop) (Ex:c6->f9->Prop),XA b X pins E P Ex->P σ->t5 X pins σ H s->lowXA X.K E t σ H Q->i0 (i4 X.prog X.w) X.A (spliced<|i6 pos<|i7 es X.env) (AP X pins σ Q) Ex s
noncomputable def EA(te:yy)(t:I9):DTAX:=λR=>aa (te R) t
def wR(w:Mn b X e te)(B:HA X.nox es t)(hs:i7 (e::es) X.env=(c5,eval e X.env)::i7 es X.env:=by kernel_rfl):QN b X (e::es) (EA te t):=⟨by rintro pos a s σ H Q E P Ex A p I ⟨S,M,ρ,F,R,K,l,q,k,x⟩;rw[hs];show i0 _ _ (spliced<|(c5,eval e X.env)::i6 pos (i7 es X.env)) _ _ s;refine Pw<|v6 (w.ok a s σ H _ E P Ex A p I ⟨S,M,ρ,_,R,K,l,q,λ_ _ z=>z,x⟩) ?_;rintro u L ⟨y,H1,m,G,d,o,g,f,g1,r',C⟩;refine v6 (B.ok.nox (Ex:=Ex) (pos:=pos) m ⟨S,o,g,_,f,l.grow g1,C,λ_ _ z=>z⟩) ?_;rintro us N ⟨xs,i,n,J,ds,v,h,c,j,r,D⟩;exact⟨y::xs,i,n,.cons G J,k _ i ⟨d::ds,v,h,c,g1.trans j,.cons (r'.grow j) r,D⟩⟩⟩
end L2
namespace L2
open PySem PySem.Spec PyProof.Rows DL PySem.W
def xD{l:d6}{o:d7}{n:Nat}{vs:List c6}{Q:c6->f9->Prop}(i:s.heap.get? l=a7 o)(d:o.cls=.type "tuple")(e:o.data=.seq vs.toArray n)(c:vs.length<=sizeLine)(h:∀g a,s.heap.objs.size<a->(∀b o,s.heap.get? b=a7 o->g.get? b=a7 o)->g.get? a=a7 (n4 "list" vs.toArray 0)->i0 (i4 prog w) A.in1.in1 (Builtin.«list.sort» ⟨[.ref a],[]⟩) (λf s'=>f=.done (.ret .none)/\Q (.ref a) s') (λ_ _=>False) { s with heap:=g }):i0 (i4 prog w) A (call (.builtin "sorted") [.ref l]) Q E s:=by
 refine Calls.call_function_entry kind_sorted plain_sorted entry_sorted (args_sorted1<|.ref l) ?_;unfold Builtin.«sorted»;refine t4 (m:=checkCount "sorted" 1 1 _)<|u5<|t4<|oi i (.inr d) e (t4<|MK ?_ c) c;generalize S:((s.heap.push<|n4 "list" #[] 0).update s.heap.objs.size (F9 (· ++ vs.toArray)))=g1;have B:g1.objs.size=s.heap.objs.size+1:=by rw[<-S,Pl,size_push']
 have C:∀b o,s.heap.get? b=a7 o->g1.get? b=a7 o:=λb o q=>by have t:=z8 q;rw[<-S,My _ _ _ _<|A4 t,Heap.get?_push_ne _ _ _<|A4 t];exact q
 show i0 _ _ _ _ _ { s with heap:=g1.push (n4 "list" vs.toArray 0) };have L:(g1.push<|n4 "list" vs.toArray 0).get? g1.objs.size=a7 (n4 "list" vs.toArray 0):=B6 _ rfl;refine t4<|J6<|K6 slot_list_sort (⟨_,L,rfl⟩) Ph ?body<|args_list_sort<|.ref _
 case body =>
  refine D3 (h _ g1.objs.size (by rw[B];exact K5 _) (λb o q=>w5 _<|C b o q) L) (λf s' q=>?_) λ_ _ x=>x.elim;obtain⟨rfl,q⟩:=q;exact⟨_,rfl,u5 ⟨_,rfl,q⟩⟩
def nI{a:d6}{vs:List c6}{P:PySem.Fin->f9->Prop}(L:s.heap.get? a=a7 (n4 "list" vs.toArray 0))(h2:vs.length<2)(h:∀h' n,(∀b o,b≠a->s.heap.get? b=a7 o->h'.get? b=a7 o)->h'.get? a=a7 { cls:=.type "list",data:=.seq vs.toArray n }->P (.done<|.ret .none) { s with heap:=h' }):i0 (i4 prog w) A (Builtin.«list.sort» ⟨[.ref a],[]⟩) P E s:=by
 have i:vs.length<=sizeLine:=by rw[KW];lia
 rw[list_sort_plain];refine t4<|NA L rfl ?_;refine t4<|MJ L rfl ?_ (by rw[A5,KW];lia)<|B0 _;obtain⟨f,e⟩:∃f,(s.heap.update a<|F9 λ_=>(#[]:Array c6)).get? a=a7 (n4 "list" #[] f):=⟨_,MN L λ_=>#[]⟩
 refine t4<|Nz e rfl<|t4<|OI (t4<|MK (J6 ?_)<|B0 _) i;dsimp only;have g:vs.toArray.size<2:=by rw[A5];exact h2
 rw[o8 g,o8 g];refine t4<|u5 ?_;rw[Pg];refine t4<|u5 ?_;dsimp only;generalize d:((s.heap.update a<|F9 λ_=>(#[]:Array c6)).push<|n4 "tuple" vs.toArray 0).push (n4 "list" #[] 0)=g3;have c:g3.get? a=a7 (n4 "list" #[] f):=by rw[<-d];exact w5 _<|w5 _ e
 refine t4<|Nz c rfl ?_;have r:∀us:List c6,us.length<2->(us.toArray.zip us.toArray).map (·.2)=us.toArray:=λus hu=>by
  match us,hu with
  | [],_=>simp
  | [v],_=>simp
  |_::_::_,hu=>simp at hu;lia
 have t:(arrOf<|NW general' (vs.toArray.zip vs.toArray) #[] 7 a8).map (·.2)=vs.toArray:=r vs h2;rw[t];refine t4 (MJ c rfl ?_ (B0 _)<|by rw[A5,KW];lia);simp only[show failedOf (NW general' (vs.toArray.zip vs.toArray) #[] 7 a8)=a8 from rfl,bne_self_eq_false,C8,p8];obtain⟨j,k⟩:∃j,(g3.update a<|F9 λ_=>vs.toArray).get? a=a7 (n4 "list" vs.toArray j):=⟨_,MN c λ_=>vs.toArray⟩
 refine u5<|h _ j (λb o l q=>?_) k;rw[My _ _ _ _ l,<-d];refine w5 _<|w5 _ ?_;rw[My _ _ _ _ l];exact q
def wD:J3:=λds M Q=>match ds with
 | [.tup xs]=>SrtG M xs/\∀ys,ys.Perm xs->rJ M ys->Q (.ref M.length) (M++[.lst ys])
 |_=>False
def ym(hr:Room k X.A):ou X (.builtin "sorted") wD:=by
 rintro D s σ H vs us R I rv ⟨ds,M,ρ,Q,sm,Z,q,kk⟩;unfold wD at q;split at q;rename_i xs;obtain⟨so,q⟩:=q;obtain⟨v1,_,rfl,rx,Z⟩:=Reps.inv_cons Z;obtain rfl:=Reps.inv_nil Z;obtain⟨u,rfl,ru⟩:=az.one rv;obtain⟨l,ws,rfl,U,r⟩:=u7.inv_tup rx;cases ru;obtain⟨its,K,⟨o,ho,F,n,hd⟩,hz⟩:=I.tuple U;have lw:=r.length;have li:=K.length;have ab:=so.len;have N:its.length<=sizeLine:=by rw[KW];lia
 refine xD ho F hd N λg a E J w=>?_;have v:s.heap.get? a=a8:=Heap.get?_none_of_le<|Mr E;obtain⟨m,G,hm⟩:=I.loc;have hL:X.env.locals<s.heap.objs.size:=by obtain⟨o',_,_,d,_⟩:=G;exact z8 d
 have O:a≠X.env.locals:=Nc<|Nat.lt_trans hL E;have Y:∀b u,s.heap.get? b=a7 u->b≠a:=λb u e z=>by rw[z,v]at e;cases e
 by_cases h2:its.length<2;refine nI (s:={ s with heap:=g }) w h2 λh' n W d=>⟨rfl,?_⟩
 refine⟨.ref a,_,I.laid (t':=s.toks) (o:=.lst ws) (λb u e=>W b u (Y b u e)<|J b u e) (Mr E) ⟨b7,its,n,K,d⟩,rfl,kk _ _<|VQ.laidL sm .refl r (I.hok.fresh<|Mr E)<|q xs (Ni _) ?_⟩;unfold rJ
 match xs,(show xs.length<2 by lia) with
 | [],_=>exact Od
 | [x],_=>exact OX _ _
 |_::_::_,hx=>simp at hx;lia
 have y:2<=its.length:=by lia
 have S:g.Ns X.env.locals m:=by obtain⟨o',es,ep,d,aO⟩:=G;exact⟨o',es,ep,J _ _ d,aO⟩
 refine kat_list_sort (s:={ s with heap:=g }) (h₀:=Att.noObjs s.heap) (L:=X.env.locals) (m:=m) (news:=Att.ledger g X.env.locals a) (Dk S) (λp T=>qL O w p<|C4 _ T) w O (Att.noObjs_get ..) (λp T=>(Att.mem_ledger.mp T).2.1) y b7 λe1 h' F' N'=>?_;have V:∀b u,b≠X.env.locals->s.heap.get? b=a7 u->h'.get? b=a7 u:=λb u P e=>iw N' b u P (Y b u e)<|J b u e;have I':t5 X D σ H { s with heap:=h' }:=I.keptF (t':=s.toks) V G F'.ns;have hu:X.A.in1.in1.units+v3<k7:=by have:=hr.un;have:v3=30:=rfl;show X.A.units+1+1+v3<k7;lia
 refine D3 (jN I' sm so r K y hu) (λκ s' hk=>?_) λ_ _ x=>x;obtain⟨rfl,B⟩:=hk;refine Srt.wp_run (n:=its.length) (c:=λi j=>if i<xs.length then(if j<xs.length then C9 M v3 (xs.getD i default) (xs.getD j default)else a9)else c5) (λi j C hi hj F=>?_) _ (Srt.sort_bd<|by lia).1 ?_;refine B i j C hi hj ?_;rw[o8 b7,o8<|by lia]at F;exact F;have t:=Srt.All.run (c:=λi j=>if i<xs.length then(if j<xs.length then C9 M v3 (xs.getD i default) (xs.getD j default)else a9)else c5) _ (Srt.sort_bd (n:=its.length)<|by lia).2;obtain⟨o1,o2,o3⟩:=Cu so;have f:=Srt.sort_list xs b7 o1 o2 o3
 try dsimp only at f
 rw[show xs.length=its.length by lia]at f t ⊢;generalize Srt.run _ (LP its.length)=p at t f ⊢;have hi:∀i∈p.toList,i<xs.length:=λi h=>by have:=t.mem_iff.mp h;rw[G1]at this;lia
 refine KasFin.intro F' N' (Ny λq U=>(Att.mem_ledger.mp U).2.1) λh2 c F2 N2=>?_;refine⟨rfl,.ref a,_,I.laidF (t':=s.toks) (o:=.lst<|p.toList.map λi=>ws.getD i .non) (λb u P e=>iw N2 b u P (Y b u e)<|J b u e) G F2.ns v (C6.none I.hok v) ⟨?_,_,c,K.perm p.toList (λi h=>by have:=hi i h;lia),(N2 _ A9).1⟩,rfl,kk _ _<|VQ.laidL sm .refl (r.perm p.toList hi) (C6.none I.hok v)<|q _ f.1 f.2⟩;rw[v5];have:=f.1.length_eq;rw[v5]at this;lia;exact q.elim
end L2
namespace L2
open PySem PySem.Spec PyProof.Rows DL
def rq:entryFor table "proto.unchain" = a7 Builtin.«proto.unchain»:=entryFor_of_tree<|by kernel_rfl
def xG{a b:d6}{o c:d7}{C:c6}{vs:Array c6}{α:Type}{Q:α->f9->Prop}(j:A.handled=a7 (.ref a))(f:s.heap.get? a=a7 o)(t:K9 o C)(g:s.heap.get? b=a7 c)(i:c.data=.fields vs)(h2:2<vs.size)(F:a≠b)(h:E (.ref b) { s with heap:=s.heap.update b (Nd (·.setIfInBounds 2 (.ref a))) }):i0 (i4 prog w) A (raiseNew (.ref b):Sem α) Q E s:=by
 obtain⟨_,l,k,d⟩:=t;unfold raiseNew;refine t4<|wpAny_handled ?_;rw[j];have e:(F8 a != F8 b)=a9:=by simpa using F
 dsimp only;rw[o8 e];refine t4<|J6<|runValue_entry rq ?_;unfold Builtin.«proto.unchain»;refine t4<|F6 f k d ?_;rw[o8<|by rfl];refine t4<|u5<|u5 ⟨_,rfl,?_⟩;exact t4<|Lr g i h2<|wpAny_throw h
def oF{a it:d6}{o:d7}{C:c6}{x left L:Int}{Q:Option c6->f9->Prop}(g:A.handled=a7 (.ref a))(f:s.heap.get? a=a7 o)(i:K9 o C)(h:IsRangeIter s.heap it x left L)(t:left<=0)(d:∀h',(∀b o,s.heap.get? b=a7 o->h'.get? b=a7 o)->Q a8 { s with heap:=h' }):i0 (i4 prog w) A (j4<|.ref it) Q E s:=by
 have c:s.TypeIs (.ref it) "range_iterator":=⟨_,h,rfl⟩
 unfold j4;refine t4<|Ms<|LZ (name:=x9 "__next__") c F.slot_range_iterator_next<|K6 F.slot_range_iterator_next c F.entry_range_iterator_next ?_<|F.args_range_iterator_next_1 _;show i0 _ _ (field (.ref it) 0 >>= _) _ _ s;refine t4<|F6 h rfl (x:=j7 x) rfl ?_;show i0 _ _ (field (.ref it) 1 >>= _) _ _ s;refine t4<|F6 h rfl (x:=j7 left) rfl ?_;show i0 _ _ (field (.ref it) 2 >>= _) _ _ s;refine t4<|F6 h rfl (x:=j7 L) rfl ?_;show i0 _ _ (if left<=0 then _ else _) _ _ s;rw[o8 t];refine t4<|M9 ?_;refine t4 ?_;show i0 _ _ (newExc (.type "StopIteration") [] >>= _) _ _ _;refine t4 ?_;simp only[newExc,newTuple];refine t4 (KJ ?_<|by size_fits);refine t4 (m:=n6 _ _)<|wpAny_of_eq (a:=G6) (by first|rfl|(simp only[n6];rfl)) ?_;refine KJ ?_ (by size_fits);have lt:=z8 f;refine xG (A:=A.in1) g (w5 _<|w5 _ f) i (B6 _ rfl) rfl (by show 2<6;decide) ?_ ?_;rw[KG];exact A4<|Mj lt;have hs:=Lu (Nd (·.setIfInBounds 2 (.ref a))) (B6 (s.heap.push { cls:=.type "tuple",data:=.seq ([]:List c6).toArray }) (o:={ cls:=.type "StopIteration",data:=.fields (#[.ref s.heap.objs.size,.none,.none,.none,.bool c5,.none]++ownMembersOf (.type "StopIteration") []) }) rfl) rfl;refine t4<|N8 (T:="StopIteration") (b:=a9) ⟨_,hs,rfl⟩ isSubtype_stop ?_;refine u5<|d _ λb o e=>?_;have l:=z8 e;rw[MB _ _<|by rw[KG];exact Nc<|Mj l];exact w5 _<|w5 _ e
def DN(J:It)(fp:List d6)(it:d6)(tn:Nat->d8->Prop):Prop:=∃l n,J=Nw l n/\fp=[it]/\tn=λi h=>IsRangeIter h it (l+(i:Nat)*1) ((n:Int)-(i:Nat)) 1
def Cj{J:It}{fp:List d6}{it:d6}{tn:Nat->d8->Prop}{pins:List (d6×d7)}{σ:St}{H:Hp}{s:f9}{N':List c8}{scope:g8}{j:List (c8×d6)}{s0:f9}{x:List d6}(z:DO X)(r:DN J fp it tn)(I:t5 X pins σ H s):TurnX (z6 X N' scope j s0 H x) tg J fp it tn:=by
 obtain⟨l,n,rfl,rfl,rfl⟩:=r;obtain⟨a,o,C,B,A,D⟩:=z;have c:=I.base.frzs a o _ A;refine⟨λi pins s σ H E I f st S=>?_,λi pins s σ H E I f st S=>?_⟩;obtain⟨p,q,M,v,w,y⟩:=f it b9;have g:i<n:=S;refine wpAny_pyNext_range_item st b7 λh' h u=>?_;have t:l+((i+1:Nat):Int)*1=l+(i:Int)*1+1:=by push_cast;lia
 have m:(n:Int)-((i+1:Nat):Int)=(n:Int)-(i:Int)-1:=by push_cast;lia
 have k:t5 (z6 X N' scope j s0 _ x) pins σ H { s with heap:=h',toks:=s.toks+1 }:=I.turned (λb o d e=>u.extBut b o d e) p q v w y;refine⟨_,rfl,AJ (s:={ s with heap:=h',toks:=s.toks+1 }) (n:="range_iterator") h rfl rfl b0 ⟨.int<|l+i,H,k,⟨s.toks,?_⟩,⟨rfl,rfl⟩,?_,λb d=>(f b d).1⟩⟩;rw[Int.mul_one];rw[t,m];exact h;have g:n<=i:=S;exact oF B (I.hok a _<|I.base.frzs a o _ c).1 D st b7 λh' F=>⟨rfl,I.kept (t':=s.toks) F⟩
def zy{pins:List (d6×d7)}{σ:St}{H:Hp}{s:f9}{R:It->Hp->Prop}{E:c6->f9->Prop}{lo hi:Int}{t u v:Tok}{tk:Nat}(I:t5 X pins σ H s)(h1:-(2 ^ 62)<=lo)(h2:lo<2 ^ 62)(h:-(2 ^ 62)<=hi)(d:hi<2 ^ 62)(q:R (Nw lo (hi-lo).toNat) H):i0 (i4 X.prog X.w) X.A (j6<|.ref s.heap.objs.size) (λitv s2=>∃it fp tn J H',itv=.ref it/\t5 X pins σ H' s2/\DN J fp it tn/\tn 0 s2.heap/\(∀b∈fp,oy X pins H' b)/\R J H') E { s with heap:=s.heap.push { cls:=.type "range",data:=.fields #[.int lo t,.int hi u,.int 1 v] },toks:=tk }:=by
 refine wpAny_pyIter_range (IsRange.new ..) (small_one h1 h2 h d) ?_;generalize ({ cls:=.type "range",data:=.fields #[.int lo t,.int hi u,.int 1 v] }:d7)=O;have a:t5 X pins σ H { s with heap:=s.heap.push O,toks:=tk }:=I.kept λb o e=>w5 _ e;refine⟨(s.heap.push O).objs.size,[(s.heap.push O).objs.size],_,_,H,rfl,a.kept (t':=tk) λb o e=>w5 _ e,⟨lo,(hi-lo).toNat,rfl,rfl,rfl⟩,?_,λb f=>?_,q⟩;have c:lo+((0:Nat):Int)*1=lo:=by simp
 have l:(((hi-lo).toNat:Nat):Int)-((0:Nat):Int)=Builtin.Range.rangeSize lo hi 1:=by rw[rangeSize_one];split<;>lia
 show IsRangeIter _ _ (lo+((0:Nat):Int)*1) ((((hi-lo).toNat:Nat):Int)-((0:Nat):Int)) 1;rw[c,l];exact B6 _ rfl;have e:b=(s.heap.push O).objs.size:=by simpa using f
 subst e;exact a.fpOk (v7 _)<|a.hok.fresh<|v7 _
def zF{a:i3}{d:TA}{p pos:i5}(S:Gl X "range")(m:X.mg "range" = a8)(g:PA X [a] d)(hs:i7 [a] X.env=[(c5,eval a X.env)]):QJ X DN (.Call (.Name "range" p) [a] [] pos) (Gn d):=by
 intro b s σ H R I h;refine Call_<|iB I S m boot_range<|Ol (v6 (g pos b s σ H _ I h) ?_) hs rfl;rintro us n ⟨vs,H1,f,k,c⟩;obtain⟨j,e,c,i,q⟩:=c;subst e;cases k with
 |cons r l=>cases l;obtain⟨t,rfl⟩:=r;exact call_range_1<|zy f b7 b7 c i<|by simpa using q
def dLCH(t:Nat)(s:List Nat)(a:I9)(g:KR)(tt:G9)(te:A3):A3:=E4 t s (bJ a) g tt te
def k_lcH(h:DO X)(d:X.mg "range" = a8)(f:HA X [a] ta)(S:∀cl s0 H0 ex,HG (z6 X (Le X.N js tg) scope cl s0 H0 ex) tg g) (D:∀cl s0 H0 ex,M7 (z6 X (Le X.N js tg) scope cl s0 H0 ex) ifs tt) (i:∀cl s0 H0 ex,HE (z6 X (Le X.N js tg) scope cl s0 H0 ex) elt te)(B:lz X.env.scope.names X.N (Le X.N js tg) nt js scope=a9:=by kernel_rfl) (hs:∀x,j8 (.Call (.Name "range" p) [a] [] pos') X.env x=pure x:=by intro _;kernel_rfl) (l:X.env.kindOf "range" = a7 .globalImplicit:=by kernel_rfl) (c:i7 [a] X.env=[(c5,eval a X.env)]:=by kernel_rfl):HE X (.ListComp elt [⟨tg,.Call (.Name "range" p) [a] [] pos',ifs,0⟩] scope pos) (dLCH nt js ta g tt te):=⟨PE.imp (DZ (PP:=DN) (g:=lowG X.K g) (tt:=lowT X.K tt) (te:=lowE X.K te) (BlkSc.chk B) (λJ C it tn r=>⟨by obtain⟨o,n,rfl,rfl,rfl⟩:=r;exact oU it o n,λb σ H s cl s0 ex I=>Cj h r I⟩) (λb s σ H R I q=>zF l d f.ok c b s σ H R I<|nH σ H R q) (λcl s0 H0 ex=>(S cl s0 H0 ex).ok) (λcl s0 H0 ex=>(D cl s0 H0 ex).ok) (λcl s0 H0 ex=>(i cl s0 H0 ex).ok) hs) vp⟩
noncomputable def P8(M:t7):D->D
 |.ref i=>match M[i]? with
  |some a=>.tup a.items
  |none=>.non
 |_=>.non
structure SrtR(M:t7)(xs:List D):Prop where
 len:xs.length<64
 ls:∀x∈xs,∃n a,x=.ref n/\M[n]?=a7 a/\a.isL=a9
 ok:∀x∈xs,D6 v3 (P8 M x)=a9
 cm:∀x∈xs,∀y∈xs,kh M v3 (P8 M x) (P8 M y)=a9
end L2
namespace L2
open PySem PySem.Spec PyProof.Rows DL PySem.W
def t5.writeF(I:t5 X pins σ H s)(h:H P=a7 (.tbl ps))(k:∀b u,b≠P->s.heap.get? b=a7 u->h'.get? b=a7 u)(B:h'.get? P=a7 (tabObj<|ps++more))(f:h'.get? e=a7 oc)(a:s.heap.objs.size<=e):t5 X pins σ (v8 (v8 H P<|.tbl<|ps++more) e<|.frz oc<|.own e) { s with heap:=h',toks:=t' }:=by
 have S:∀b,H b=a8->b≠P:=λb n z=>by rw[z,h]at n;cases n
 have F:∀b u,H b=a7 u->(∀q,u≠.tbl q)->b≠P:=λb u e q z=>by rw[z,h]at e;exact q ps (C1 e).symm
 have oe:∀b u,s.heap.get? b=a7 u->b≠e:=λb u q z=>p5 (E5 (z8<|z ▸ q) a)<|E8 _;have t:∀b u,H b=a7 u->b≠e:=λb u q z=>p5 (E5 (I.hok e u<|z ▸ q).lt a)<|E8 _;have keepH:∀b u,H b=a7 u->(∀q,u≠.tbl q)->v8 (v8 H P<|.tbl<|ps++more) e (.frz oc<|.own e) b=a7 u:=λb u q n=>by rw[am<|t b u q,am<|F b u q n];exact q
 refine I.un ⟨λb u q n _ _=>k b u (S b n) q,λb u q n _ _=>⟨u.slots,k b u (S b n) q⟩,λb u q n _=>by rw[am<|oe b u q,am<|S b n];exact n,λb u q _=>?_,λb xs q=>keepH b _ q (λ_ z=>by cases z),λb u xs q=>keepH b _ q (λ_ z=>by cases z),λb g q=>?_⟩ λb u q=>?_;by_cases d:b=P;subst d;exact⟨_,B⟩;exact⟨u,k b u d q⟩;by_cases d:b=P;subst d;rw[h]at q;cases q;exact⟨more,by rw[am<|t b _ h];exact aI⟩;exact⟨#[],by rw[am<|t b _ q,am d,q];simp⟩;by_cases i:b=e;subst i;rw[aI]at q;cases q;exact⟨f,oc,f⟩;rw[am i]at q;by_cases d:b=P;subst d;rw[aI]at q;cases q;exact B;rw[am d]at q;refine(I.hok b u q).stay (λc v f r=>k c v ?_ r) (λc r=>keepH c _ r<|λ_ z=>by cases z) λc xs r=>keepH c _ r (λ_ z=>by cases z);rcases f with rfl|f;exact d;exact F c _ f λ_ z=>by cases z
def Ai(I:t5 X pins σ H s)(m:H P=a7 (.tbl ps))(ht:TriplesOk ps.toList)(q:o7 pos ps.toList=a8)(C:∀h:d8,X.K.In h->CodeHd h c P)(d:X.env.code=.ref c)(B:BMain X.mg X.base)(r:closureFor scope X.env=pure []) (i:defaultsOf params X.env=([],[]))(h:∀f e oc vs t ctv s',t5 X ((f,o6 "<lambda>" (X.env.qual ++ "<lambda>") params body scope [] ((X.mg "__name__").getD .none) e ctv)::pins) σ (v8 (v8 H P<|.tbl<|ps ++ #[j7 pos.line,j7 pos.col,.ref e]) e<|.frz oc<|.own e) s'->H e=a8->e≠P->oc.data=.fields vs->vs[1]?=a7 (.str (X.env.qual ++ "<lambda>") t)->Q (.ref f) s'):i0 (i4 X.prog X.w) A (eval (.Lambda params body scope pos) X.env) Q E s:=by
 have D:s.heap.get? P=a7 (tabObj ps):=I.hok P _ m;have Z:s.heap.Ns f6 X.mg:=I.mod.glob.keeps I.bk;have F:∀b o,X.base.get? b=a7 o->b≠P:=λb o e z=>by have:=(I.bs b o e).2;rw[z,m]at this;cases this
 obtain⟨R,ob,L,M,N,y,O⟩:=B;have n:f6≠P:=by obtain⟨o,es,ep,e,_⟩:=I.mod.glob;exact F _ _ e
 refine kla_eval i<|kla_makeFunction r I.ok.glob Z d (C _ I.kIn) D ht q n ⟨R,ob,L,M,N,F _ _ y,I.bk _ _ y,O⟩ λU ctv h' tk hx a j k g=>?_;obtain⟨c2,oc,vs,t,V,S,Y,hv⟩:=k;cases V;have G:P≠h'.objs.size:=λz=>by rw[z]at g;exact p5 (z8 g)<|E8 _
 have hs:s.heap.objs.size<=h'.objs.size:=KY a<|Mr j;have T:U≠P:=λz=>by rw[z]at a;exact p5 (E5 (z8 D) a)<|E8 _
 have J:t5 X pins σ (v8 (v8 H P<|.tbl<|ps ++ #[j7 pos.line,j7 pos.col,.ref U]) U<|.frz oc<|.own U) { s with heap:=h'.push<|o6 "<lambda>" (X.env.qual ++ "<lambda>") params body scope [] ((X.mg "__name__").getD .none) U ctv,toks:=tk }:=I.writeF m (λb u W e=>w5 _<|hx b u W e) (w5 _ g) (w5 _ S) a;refine h h'.objs.size U oc vs t ctv _ (J.pins_of λp x=>?_) (I.hok.fresh a) T Y hv;rcases z7.mp x with rfl|x;refine⟨B6 _ rfl,?_,λz=>?_,I.nofs hs,λv z=>by cases z⟩;rw[am<|Nc j,am<|A8 G];exact I.hok.fresh hs;have l:=hs;rw[show h'.objs.size=X.env.locals from z]at l;exact p5 (E5 I.lt l)<|E8 _;exact J.pin p<|E3 _ x
def Aj(I:t5 X pins σ H s)(m:H P=a7 (.tbl ps))(N:TriplesOk ps.toList)(L:o7 pos ps.toList=a7 (.ref e))(C:∀h:d8,X.K.In h->CodeHd h c P)(d:X.env.code=.ref c)(B:BMain X.mg X.base)(l:closureFor scope X.env=pure []) (i:defaultsOf params X.env=([],[]))(h:∀f ctv s',t5 X ((f,o6 "<lambda>" (X.env.qual ++ "<lambda>") params body scope [] ((X.mg "__name__").getD .none) e ctv)::pins) σ H s'->Q (.ref f) s'):i0 (i4 X.prog X.w) A (eval (.Lambda params body scope pos) X.env) Q E s:=by
 have G:s.heap.get? P=a7 (tabObj ps):=I.hok P _ m;have S:s.heap.Ns f6 X.mg:=I.mod.glob.keeps I.bk;have O:∀b o,X.base.get? b=a7 o->b≠P:=λb o e z=>by have:=(I.bs b o e).2;rw[z,m]at this;cases this
 obtain⟨F,R,t,x,y,j,D⟩:=B;refine kla_eval i<|kla_makeFunctionHit (cv:=.ref e) l I.ok.glob S d (C _ I.kIn) G N L ⟨F,R,t,x,y,O _ _ j,I.bk _ _ j,D⟩ λctv h' T M hs=>?_;have J:t5 X pins σ H { s with heap:=h'.push<|o6 "<lambda>" (X.env.qual ++ "<lambda>") params body scope [] ((X.mg "__name__").getD .none) e ctv,toks:=T }:=by have k:∀b u,s.heap.get? b=a7 u->(h'.push<|o6 "<lambda>" (X.env.qual ++ "<lambda>") params body scope [] ((X.mg "__name__").getD .none) e ctv).get? b=a7 u:=λb u q=>w5 _<|M b u q;exact I.un ⟨λb u q _ _ _=>k b u q,λb u q _ _ _=>⟨u.slots,k b u q⟩,λ_ _ _ n _=>n,λb u q _=>⟨u,k b u q⟩,λ_ _ q=>q,λ_ _ _ q=>q,λ_ U q=>⟨#[],by rw[q];simp⟩⟩ λb u q=>(I.hok b u q).stay (λc v _ r=>k c v r) (λ_ r=>r) λ_ _ r=>r
 refine h h'.objs.size ctv _<|J.pins_of λp g=>?_;rcases z7.mp g with rfl|g;refine⟨B6 _ rfl,I.hok.fresh hs,λz=>?_,I.nofs hs,λv z=>by cases z⟩;have a:=hs;rw[show h'.objs.size=X.env.locals from z]at a;exact p5 (E5 I.lt a)<|E8 _;exact J.pin p<|E3 _ g
def yY:∀es:List (i5×d6),TriplesOk (uD es).toList
 | []=>trivial
 |p::es=>by have:=yY es;unfold uD at this ⊢;rw[Qm]at this ⊢;exact this
theorem rY:∀{es:List (i5×d6)},o7 p (uD es).toList=a8\/∃q∈es,o7 p (uD es).toList=a7 (.ref q.2)
 | []=>.inl rfl
 |q::es=>by have ih:=rY (p:=p) (es:=es);unfold uD at ih ⊢;rw[Qm]at ih ⊢;rw[List.flatMap_cons];show o7 p (j7 q.1.line::j7 q.1.col::.ref q.2::es.flatMap _)=a8\/∃r∈q::es,o7 p (j7 q.1.line::j7 q.1.col::.ref q.2::es.flatMap _)=a7 (.ref r.2);unfold j7 o7;split;exact .inr ⟨q,b9,rfl⟩;refine ih.imp id ?_;rintro⟨r,hr,e⟩;exact⟨r,C4 _ hr,e⟩
def BX:uD es ++ #[j7 p.line,j7 p.col,.ref e]=uD (es++[(p,e)]):=by unfold uD;rw[List.flatMap_append];simp
noncomputable def ke(x:c8):c8:=x ++ ".<locals>." ++ "<lambda>"
def GZ(M:t7)(n:Nat)(x:c8)(p:i5):Prop:=M[n]?=a7 (.tb x c5)\/∃f e,M[n]?=a7 (.tl x f (ke x) e)
def fg(x:c8)(p:i5)(N:List c8)(te:A3)(t:I9):A3:=λS M Q=>t S M λds c=>match ds with
 | [y]=>∃q xs l,GZ c q x p/\∀e,(y=.tup xs\/∃n,y=.ref n/\ah (c.set q<|.tl x p (ke x) e) n xs)/\(∀d∈xs,te (bp N [d]) (c.set q<|.tl x p (ke x) e)<|aE (c.set q<|.tl x p (ke x) e) λz f=>z=l d/\f=c.set q (.tl x p (ke x) e))/\SrtG (c.set q<|.tl x p (ke x) e) (xs.map l) /\∀ys,ys.Perm xs->ys.Pairwise (λa b=>C9 (c.set q<|.tl x p (ke x) e) v3 (l b) (l a)=c5)->Q (.ref c.length) (c.set q (.tl x p (ke x) e)++[.lst ys])
 |_=>False
def xY(Sf:Kq X x)(B:BMain X.mg X.base)(Y:Room (k+3) X.A)(he:HA X [e] t)(hm:X.mg "sorted" = a8)(as:∀(s:f9) (H:Hp) (f:d6) (cdv:c6) (A:f8) (outer:List g7) (E:XK),Room k (A.deeper<|c7 (X.env.qual ++ "<lambda>") scope s.heap.objs.size f cdv)->HE (jw G3 X.prog X.w X.K X.mg X.base [y] (X.env.qual ++ "<lambda>") scope f cdv A outer s H E).nox body te)(Sc:FnScope [y] [y] scope) (ap:closureFor scope X.env=pure []) (W:defaultsOf params X.env=([],[]))(hb:∀(pm ctv:c6) (c':d6) (u:c6),bindArgs (kla_fn "<lambda>" (X.env.qual ++ "<lambda>") params body scope [] pm (.ref c') ctv) ⟨[u],[]⟩=pure [(y,u)])(aP:X.env.qual=x ++ ".<locals>.") (aD:X.env.kindOf "sorted" = a7 .globalImplicit:=by kernel_rfl) (hs:i7 [e] X.env=[(c5,eval e X.env)]:=by kernel_rfl):HE X (.Call (.Name "sorted" p) [e] [⟨a7 "key",.Lambda params body scope lpos,kpos⟩] pos) (fg x lpos [y] te t):=by
 have j:X.env.qual ++ "<lambda>" = ke x:=by rw[aP];rfl
 refine⟨λi s σ H R I h=>?_⟩;obtain⟨S,M,ρ,Q,sm,sr,q,kk⟩:=h;refine MR (iB I aD hm uu ?_ b0<|by decide);unfold fg at q;refine callWith_kw (v6 (he.ok pos i s σ H (λvs H1=>AQ X.K ρ H _ vs H1) I ⟨S,M,ρ,_,sm,sr,q,λ_ _ z=>z⟩) ?_) (by rw[hs];rfl) (by rw[hs];rfl);rintro us s1 ⟨vs,H1,I1,r1,q1⟩;obtain⟨ds,O,l,L,g1,rs,q1⟩:=q1;split at q1;rename_i y0;obtain⟨qn,xs,aj,F,q1⟩:=q1;obtain⟨v1,_,rfl,rx,rs⟩:=Reps.inv_cons rs;obtain rfl:=Reps.inv_nil rs;obtain⟨u,rfl,ru⟩:=az.one r1;have ai:Room (k+1+2) X.A:=Y;have go:∀(f U:d6) (e:List (i5×d6)) (pe:i5) (ctv:c6) (s2:f9) (H2:Hp),(pe,U)∈e->t5 X ((f,o6 "<lambda>" (X.env.qual ++ "<lambda>") params body scope [] ((X.mg "__name__").getD .none) U ctv)::i) σ H2 s2->v4 X.K l (O.set qn<|.tl x lpos (ke x) e) H2->Grow X.K l H1 l H2->qn<O.length -> i0 (i4 X.prog X.w) X.A (call (.builtin "sorted") [u] [(x9 "key",.ref f)]) (EP X i σ R) X.xe s2:=λf U e pe ctv s2 H2 ax D N g2 hl=>by
  obtain⟨hx,hP,so,an⟩:=q1 e;have aS:=so.len;rw[v5]at aS;have ml:(O.set qn<|.tl x lpos (ke x) e).length=O.length:=Ld ..;have ge:(O.set qn<|.tl x lpos (ke x) e)[qn]?=a7 (.tl x lpos (ke x) e):=Lj hl;generalize O.set qn (.tl x lpos (ke x) e)=M2 at N hP so an hx ml ge;have G:KeyG X ((f,o6 "<lambda>" (X.env.qual ++ "<lambda>") params body scope [] ((X.mg "__name__").getD .none) U ctv)::i) σ l M2 f aj xs:=λs H d v u hm I sm r ru=>by have p1:=(I.pin _<|E3 _ A9).1;obtain⟨_,_,_,_,aT⟩:=sm.get ge;obtain⟨oc,vs,t',hf,hd,hv⟩:=aT (pe,U) ax;exact FM (k:=k) I.env0.in1.in1 p1 ⟨U,oc,vs,t',rfl,(I.hok U _ hf).1,hd,j ▸ hv⟩ Sc (Room.in1 (k:=k+2) ai).in1 (.of_eq<|hb _ _ _ _) rfl (λE Y=>(as s H f _ _ _ E Y).ok) sm r ru<|hP d hm
  have T:∀{v:c6}{s':f9},EP X ((f,o6 "<lambda>" (X.env.qual ++ "<lambda>") params body scope [] ((X.mg "__name__").getD .none) U ctv)::i) σ R v s'->EP X i σ R v s':=λ{v s'} ⟨v',H',J,rv,q⟩=>⟨v',H',J.pins_of λp hp=>J.pin p<|E3 _<|C4 _ hp,rv,q⟩
  have V:∀ys,ys.Perm xs->ys.Pairwise (λa b=>C9 M2 v3 (aj b) (aj a)=c5)->Q (.ref M2.length) (M2++[.lst ys]):=λys h1 h2=>by rw[ml];exact an ys h1 h2
  rcases hx with rfl|⟨n,rfl,hL⟩
  obtain⟨a,vs,rfl,j,r⟩:=u7.inv_tup<|rx.grow g2;cases ru;obtain⟨its,rr,⟨o,ho,hc,n,ab⟩,_⟩:=D.tuple j;have h1:=r.length;have h2:=rr.length;exact D3 (wy G ai D N r rr ho (.inr hc) ab b7 so λv H' z=>kk v H'<|VQ.trans g1<|VQ.trans g2<|z Q V) (λ_ _ z=>T z) λ_ _ z=>z;obtain⟨a,rfl,en⟩:=u7.inv_ref rx;cases ru;obtain⟨vs,j,r⟩:=ah.seq N hL en;obtain⟨its,rr,⟨o,n,ho,hc,_,ab⟩,_⟩:=D.list j;have h1:=r.length;have h2:=rr.length;exact D3 (wy G ai D N r rr ho (.inl hc) ab b7 so λv H' z=>kk v H'<|VQ.trans g1<|VQ.trans g2<|z Q V) (λ_ _ z=>T z) λ_ _ z=>z
 obtain⟨P,ep,c,tc,C,es,m,Y,nk,hl⟩:∃P,l[qn]?=a7 P/\∃c,tabIn X.K x=a7 (c,P)/\(∀h:d8,X.K.In h->CodeHd h c P)/\∃es,H1 P=a7 (.tbl<|uD es)/\(∀p∈es,∃o vs t,H1 p.2=a7 (.frz o<|.own p.2)/\o.data=.fields vs/\vs[1]?=a7 (.str (ke x) t))/\¬Lx O[qn]?/\qn<O.length:=by
  rcases F with F|⟨p',es,F⟩
  obtain⟨P,ep,⟨c,tc,C⟩,ps,m,h0⟩:=L.get F;obtain rfl:=h0 rfl;exact⟨P,ep,c,tc,C,[],m,(λ_ z=>nomatch z),(λ⟨_,z⟩=>by rw[F]at z;cases z),(B5.mp F).1⟩;obtain⟨P,ep,⟨c,tc,C⟩,m,Y⟩:=L.get F;exact⟨P,ep,c,tc,C,es,m,Y,(λ⟨_,z⟩=>by rw[F]at z;cases z),(B5.mp F).1⟩
 have Z:∀{b:d6}{o:d7}{u:HO},H1 b=a7 (.frz o u)->b≠P:=λf z=>by rw[z,m]at f;cases f
 rcases rY (p:=lpos) (es:=es)with hn|⟨qe,hqe,hf⟩
 refine kws_cons<|Ai I1 m (yY es) hn C (Sf.code I1 tc) B ap W λf e oc vs t' ctv s2 D he eP hd hv=>kws_nil ?_;rw[BX]at D;have bd:=L.laid (o:=.frz oc<|.own e) he;have w:=bd.writeG (mo:=.tl x lpos (ke x)<|es++[(lpos,e)]) (o:=.tbl<|uD<|es++[(lpos,e)]) ep nk ((am<|A8 eP).trans m) rfl λg=>⟨⟨c,tc,C⟩,aI,λy hy=>by rcases J7.mp hy with hy|hy;obtain⟨o,vs,t,f,r⟩:=Y y hy;exact⟨o,vs,t,(am<|Z f).trans<|(am<|ad f he).trans f,r⟩;rw[Ky.mp hy];exact⟨oc,vs,t',(am eP).trans aI,hd,j ▸ hv⟩⟩
 have eH:v8 (v8 H1 e<|.frz oc<|.own e) P (.tbl<|uD<|es++[(lpos,e)])=v8 (v8 H1 P<|.tbl<|uD<|es++[(lpos,e)]) e (.frz oc<|.own e):=by funext b;by_cases h1:b=e;subst h1;rw[am eP,aI,aI];by_cases h2:b=P;subst h2;rw[aI,am h1,aI];rw[am h2,am h1,am h1,am h2]
 rw[eH]at w;exact go f e _ lpos ctv s2 _ b9 D w.1 ((Grow.laid he).trans w.2) hl;refine kws_cons<|Aj I1 m (yY es) hf C (Sf.code I1 tc) B ap W λf ctv s2 D=>kws_nil ?_;have w:=L.writeG (mo:=.tl x lpos (ke x) es) (o:=.tbl<|uD es) ep nk m rfl λg=>⟨⟨c,tc,C⟩,aI,λy hy=>by obtain⟨o,vs,t,f,r⟩:=Y y hy;exact⟨o,vs,t,(am<|Z f).trans f,r⟩⟩
 have eH:v8 H1 P (.tbl<|uD es)=H1:=by funext b;by_cases h2:b=P;subst h2;rw[aI,m];rw[am h2]
 rw[eH]at w;exact go f qe.2 es qe.1 ctv s2 H1 hqe D w.1 w.2 hl;exact q1.elim
def pZ(z z':c8):A7:=λds M R=>∃(ns:List Int) (m:MO),ns.length<=63/\(m.items=ns.map D.int/\m.isL=a9)/\ds=[.ref 0]/\M=[m,.tb z c5,.tb z' c5]/\∀a,R (.bl a9) a
def tR{K:u6}{H:Hp}{a t c P U:d6}{z z':c8}{ns:List Int}(p:ns.length<=63)(S:Kx K H a (ns.map V.int))(B:H t=a7 (.tbl #[]))(x:tabIn K z=a7 (c,t))(C:∀h:d8,K.In h->CodeHd h c t)(F:a≠t)(g:H P=a7 (.tbl #[]))(k:tabIn K z'=a7 (U,P))(C':∀h:d8,K.In h->CodeHd h U P)(j:a≠P)(u:t≠P):Lv K (pZ z z') [.ref a] H (λv _=>v=.bl a9) λ_ _ _=>False:=by
 have f:∀{mo:MO},mo.items=ns.map D.int/\mo.isL=a9->yw K [a,t,P] H a mo->Lv K (pZ z z') [.ref a] H (λv _=>v=.bl a9) λ_ _ _=>False:=λ{mo} e ok=>by
  refine⟨[.ref 0],[mo,.tb z c5,.tb z' c5],[a,t,P],λd _=>d=.bl a9,⟨λn m b i e1 e2=>?_,rfl,λn b s e1 e2=>?_⟩,.cons (.ref rfl) .nil,⟨ns,mo,p,e,rfl,rfl,λ_=>rfl⟩,λv H' ⟨d,A,y,_,_,r,q⟩=>?_⟩;have X:[a,t,P].Nodup:=by simp[F,j,u]
  obtain⟨h1,l⟩:=B5.mp e1;obtain⟨h2,M⟩:=B5.mp e2;exact p5 ((List.getElem_inj X).mp<|l.trans M.symm) i
  match n,e1,e2 with
  | 0,e1,e2=>simp at e1 e2;subst e1 e2;exact ok
  | 1,e1,e2=>simp at e1 e2;subst e1 e2;exact⟨⟨c,x,C⟩,#[],B,λ_=>rfl⟩
  | 2,e1,e2=>simp at e1 e2;subst e1 e2;exact⟨⟨U,k,C'⟩,#[],g,λ_=>rfl⟩
  |n+3,e1,_=>simp at e1
  have w:d=.bl a9:=q;subst w;obtain rfl:=u7.inv_bl r;rfl
 rcases S with(h|⟨o,h⟩)|h;exact f (mo:=.lst _) ⟨rfl,rfl⟩ ⟨_,h,jP ns⟩;exact f (mo:=.fz _) ⟨rfl,rfl⟩ ⟨o,_,h,jP ns⟩;exact f (mo:=.kl _) ⟨rfl,rfl⟩ ⟨_,h,jP ns⟩
def Ag{P:d5}{w:c9}{K:u6}{mg mb:c8->Option c6}{k:Nat}{W a:d6}{Ps:List d6}{fd:k8}{x:c8}{sp:Sp}{s₁:f9}{vs:List c6}{ns:List Int}(X:K.In s₁.heap) (N:s₁.heap.Ns f6 mg) (c:s₁.heap.Ns builtinsNs mb) (ai:∀x:c8,x≠"__name__"->mb x=f7 x) (M:s₁.heap.NoLimit) (hg:s₁.gens = #[])(C:s₁.heap.get? a=a7 { cls:=.type "list",data:=.seq vs.toArray }) (hi:IntsAre vs ns) (hl:ns.length<=sizeLine) (hr:Room k callerA) (nt:noTabs K=a9) (B:∀p∈Ps,s₁.heap.get? p=a7 (tabObj #[])) (an:∀p∈Ps,isCodeTable s₁.heap p) (BM:BMain mg s₁.heap)(F:∀base:d8,K.In base->base.Ns f6 mg->BMain mg base->FnOk P w K mg base G3 k W fd [x] sp) (A:∀(s:f9) (u:c6),BindsTo s fd ⟨[u],[]⟩ [(x,u)])(aj:∀H:Hp,Kx K H a (ns.map V.int)->(∀p∈Ps,H p=a7 (.tbl #[]))->sp [.ref a] H (λv _=>v=.bl a9) λ_ _ _=>False):k9 (i4 P w) callerA (.call (.ref W) ⟨[.ref a],[]⟩) (λr s'=>r=.ok (.ret<|.bool a9)/\OldK s₁.heap s'.heap/\s'.os=s₁.os/\g9 s'.gens) s₁:=by
 have rv:=rS hi;have Q:=hi.length;have aP:a∉Ps:=λe=>by rw[B a e]at C;cases C
 have t:∀H:Hp,(∀b,b∉Ps->H b=a8\/∃o xs,H b=a7 (.frz o<|.lst xs))->Kx K H a (ns.map V.int)->(∀p∈Ps,H p=a7 (.tbl #[]))->C6 P w H s₁.heap->(∀b,H b≠a8->b=a\/b∈Ps)->(H a≠a8->K.lookup a=a8) -> k9 (i4 P w) callerA (.call (.ref W) ⟨[.ref a],[]⟩) (λr s'=>r=.ok (.ret<|.bool a9)/\OldK s₁.heap s'.heap/\s'.os=s₁.os/\g9 s'.gens) s₁:=by
  intro H hO hS hT O hA hK;have f:∀{b:d6}{o:d7},s₁.heap.get? b=a7 o->H b=a8->(BD s₁.heap H).get? b=a7 o:=λe n=>Dg e n;have R:∀{b:d6}{o:d7},s₁.heap.get? b=a7 o->o.cls≠.type "list"\/(∀v n,o.data≠.seq v n)->o≠tabObj #[]->H b=a8:=λ{b o} e I d2=>by
   cases q:H b with
   |none=>rfl
   |some u=>rcases hA b (by rw[q];simp)with e'|e';subst e';rw[C]at e;cases e;rcases I with I|I;exact p5 rfl I;exact p5 rfl<|I _ _;rw[B b e']at e;cases e;exact p5 rfl d2
  have l:∀{b:d6}{m:c8->Option c6},s₁.heap.Ns b m->(BD s₁.heap H).Ns b m:=λ{b m} ⟨o,es,ep,e,d,r⟩=>⟨o,es,ep,f e (R e (.inr λv n z=>by rw[d]at z;cases z) λz=>by rw[z]at d;cases d),d,r⟩
  have J:K.In (BD s₁.heap H):=λb o e=>f (X b o e) (by
   cases q:H b with
   |none=>rfl
   |some u=>rcases hA b (by rw[q];simp)with e'|e';subst e';rw[hK<|by rw[q];simp]at e;cases e;have h2:=z5.mp nt (b,o)<|mem_of_lookupK e;have h3:=X b o e;rw[B b e']at h3;cases h3;exact p5 (show c5=a9 from h2) NJ)
  have hM:Mod K mg (BD s₁.heap H):=⟨J,l N,⟨mb,l c,ai⟩,let ⟨mc,h1,h2⟩:=M;⟨mc,l h1,h2⟩⟩
  have e0:Env0 P w K mg (BD s₁.heap H) callerA [] s₁ H:=⟨rfl,hM,λb o e=>Fv e,Nat.le_of_eq<|AH _ _,trivial,λb c=>p5 (show b∈([]:List d6)from c) b9,O,.of_eq hg⟩
  have U:BMain mg (BD s₁.heap H):=by obtain⟨U,ob,b1,b2,b3,b4,D,b6⟩:=BM;exact⟨U,ob,b1,b2,b3,f b4 (R b4 (.inl λz=>by rw[z]at D;injection D with h;exact p5 h<|by decide) λz=>by rw[z]at D;cases D),D,b6⟩
  refine Mq ((F _ J (l N) U).run callerA [] s₁ H ⟨[.ref a],[]⟩ [.ref a] [.ref a] _ _ hr e0 (A s₁<|.ref a) (.cons rfl .nil)<|aj H hS hT) λr s' h=>?_;cases r with
  |error e=>exact h.elim
  |ok fl =>
   cases fl with
   |next=>exact H9 h
   |brk=>exact H9 h
   |cont=>exact H9 h
   |ret u =>
    obtain⟨v,H',os,E,un,y,r',q⟩:=h;have q':v=.bl a9:=q;subst q';obtain rfl:u=NX a9:=r';have L:∀p∈Ps,∃g,s'.heap.get? p=a7 (tabObj<|#[]++g):=λp j=>by obtain⟨g,ab⟩:=un.tbls p _<|hT p j;exact⟨g,y p _ ab⟩
    have S:∀b o,b∉Ps->s₁.heap.get? b=a7 o->s'.heap.get? b=a7 o:=λb o c e=>by
     cases q:H b with
     |none=>exact un.keep b o e q (by intro z;exact p5 (show b∈([]:List d6)from z)<|by simp)<|by simp
     |some u =>
      rcases hO b c with z|⟨ob,xs,z⟩
      rw[q]at z;cases z;have z2:=un.frzs b ob _ z;obtain⟨e1,_⟩:=O b _ z;obtain⟨e2,_⟩:=y b _ z2;rw[e]at e1;cases e1;exact e2
    refine⟨rfl,⟨λb o e=>?_,λb o e=>?_⟩,os,E⟩;by_cases c:b∈Ps;rw[B b c]at e;cases e;obtain⟨g,q⟩:=L b c;exact .inr<|.inl ⟨an b c,rfl,#[],g,rfl,q⟩;exact .inl<|S b o c e;by_cases c:b∈Ps;obtain⟨g,q⟩:=L b c;exact⟨_,q⟩;exact⟨o,S b o c e⟩
 have T:∀(G:Hp) b,b∈Ps->(λb=>if b∈Ps then a7 (.tbl #[])else G b:Hp) b=a7 (.tbl #[]):=λG b c=>o8 c;have i:∀(G:Hp) b,b∉Ps->(λb=>if b∈Ps then a7 (.tbl #[])else G b:Hp) b=G b:=λG b c=>p0 c;cases hk:K.lookup a with
 |some o=>have e:=X a o hk;rw[C]at e;cases e;refine t (λb=>if b∈Ps then a7 (.tbl #[])else a8) (λb c=>.inl<|i (λ_=>a8) b c) (.inr ⟨_,vs.toArray,_,hk,rfl,rfl,rfl,by rw[A5,Q];exact hl,by simpa using rv⟩) (T λ_=>a8) (λb u z=>?_) (λb z=>?_) λz=>p5 (i (λ_=>a8) a aP) z;by_cases c:b∈Ps;have z:=(T (λ_=>a8) b c).symm.trans z;cases z;exact B b c;exact p5 ((i (λ_=>a8) b c).symm.trans z) b9;by_cases c:b∈Ps;exact .inr c;exact p5 (i (λ_=>a8) b c) z
 |none =>
  generalize hG:(λb=>if b=a then a7 (.frz { cls:=.type "list",data:=.seq vs.toArray }<|.lst<|ns.map V.int)else a8:Hp)=G;have Y:G a=a7 (.frz { cls:=.type "list",data:=.seq vs.toArray }<|.lst<|ns.map V.int):=by rw[<-hG];exact o8 rfl
  have Z:∀b,b≠a->G b=a8:=λb c=>by rw[<-hG];exact p0 c
  refine t (λb=>if b∈Ps then a7 (.tbl #[])else G b) (λb j=>?_) (.inl<|.inr ⟨{ cls:=.type "list",data:=.seq vs.toArray },(i G a aP).trans Y⟩) (T G) (λb u z=>?_) (λb z=>?_) λ_=>hk;by_cases c:b=a;subst c;exact .inr ⟨_,_,(i G b j).trans Y⟩;exact .inl<|(i G b j).trans<|Z b c;by_cases j:b∈Ps;have z:=(T G b j).symm.trans z;cases z;exact B b j;have z:=(i G b j).symm.trans z;by_cases c:b=a;subst c;rw[Y]at z;cases z;exact⟨C,by rw[v5];exact hl,vs,_,rv,C⟩;rw[Z b c]at z;cases z;by_cases j:b∈Ps;exact .inr j;by_cases c:b=a;exact .inl c;exact p5 ((i G b j).trans<|Z b c) z
theorem law_walkL2{l:PySem.W.OpenLaw}{q:d5}{y:List c8}{XP:(c8->Option c6)->d8->Prop}{YP:c9->d8->Prop}{d V as:DefRec}{K:Params->u6}{k:Nat}{st:i8}{x z z':c8}{cz A ap i:Params->d6}(hn:l.most=a7 63)(ax:d.params.defaults=[])(hd:d.name = "law")(hr:Room k callerA)(hY:∀(w:c9) (h:d8),YP w h->(K w.params).In h) (nt:∀p,noTabs (K p)=a9) (hz:(recsOf q).find? (λe=>e.name==z)=a7 V) (R:∀p,tabIn (K p) z=a7 (cz p,A p))(aD:(recsOf q).find? (λe=>e.name==z')=a7 as) (S:∀p,tabIn (K p) z'=a7 (ap p,i p)) (nn:∀p,A p≠i p)(F:∀(w:c9) (mg:c8->Option c6) (h:d8),(K w.params).In h->h.Ns f6 mg->dq (K w.params) mg "law" st [x] /\ ∀(base:d8) (f:d6) (fd:k8),BMain mg base->LO (K w.params) "law" "law" st f fd->FnOk l.prog w (K w.params) mg base G3 k f fd [x] (Lv (K w.params)<|pZ z z'))(hb:∀(kV doc pm:c6) (an:Option d6) (cdv ct:c6) (u:c6),bindArgs (Mf "law" "law" (ju st) (bG st) (ao st) .none kV doc pm an cdv ct) ⟨[u],[]⟩=pure [(x,u)]):PySem.W.WalkO q y XP YP l.row.toRowW d [] (λf vs=>PySem.call f vs):=by
 refine Att.attach_call hn ax λw bk s₁ mg mb fa o pm cd doc a vs ns G Y ho bS bl N j t n hg=>?_;have U:=hY w _ Y;rw[hd]at N;obtain⟨⟨f,fd,F1,hm,_⟩,C⟩:=F w mg _ U G.T.g;have e:=N.symm.trans hm;cases e;have D:∀{z V c P},(recsOf q).find? (λe=>e.name==z)=a7 V->tabIn (K w.params) z=a7 (c,P)->s₁.heap.get? P=a7 (tabObj #[])/\isCodeTable s₁.heap P/\∀h:d8,(K w.params).In h->CodeHd h c P:=λ{z V c P} hz R=>by obtain⟨CH,J⟩:=tab_of G.T U hz R;obtain⟨ca,M⟩:=BY R;refine⟨J,(CH.tab J).isCodeTable,λh X=>?_⟩;obtain⟨o2,bf,I,tf,m,tg,aT,O,tt,e1,r⟩:=CH;have e2:=U _ _ M;rw[e1]at e2;cases e2;exact⟨_,bf,I,tf,m,tg,aT,O,tt,X _ _ M,r⟩
 obtain⟨J,iT,CK⟩:=D hz<|R w.params;obtain⟨L,aS,ab⟩:=D aD<|S w.params;have aj:BMain mg s₁.heap:=by obtain⟨bm,ob,b1,b2,b3,b4,b5,b6⟩:=G.T.bmain;refine⟨bm,ob,b1,b2,λz=>?_,b3,b4,b5,b6⟩;obtain⟨og,es,ep,eg,dg,_⟩:=G.T.g;rw[z,eg]at b3;cases b3;rw[dg]at b6;cases b6
 have aP:a≠A w.params:=λe=>by rw[e,J]at j;cases j
 have ai:a≠i w.params:=λe=>by rw[e,L]at j;cases j
 have Q:∀{Z:d6->Prop},Z (A w.params)->Z (i w.params)->∀p∈[A w.params,i w.params],Z p:=λ{Z} h1 h2 p hp=>by rcases z7.mp hp with rfl|hp;exact h1;rw[Ky.mp hp];exact h2
 obtain⟨oc,od,kV,E,bd,an,cdv,ct,ce,rfl,lk,bi⟩:=id F1.ex;exact Ag (Ps:=[A w.params,i w.params]) U G.T.g G.T.b G.T.builtins G.T.nolimit hg j t (KY n<|by decide) hr (nt _) (Q J L) (Q iT aS) aj (λbase _ _ B=>C base _ _ B F1) (λs v=>.of_eq<|hb kV E bd an cdv ct v) λH hS hT=>tR n hS (hT _<|by simp) (R w.params) CK aP (hT _<|by simp) (S w.params) ab ai<|nn _
def mU(n:Nat):J3:=λds M Q=>match ds with
 | [.int i,d]=>∃xs j,M[n]?=a7 (.lst xs)/\i=((j:Nat):Int)/\j<=xs.length/\xs.length<1000/\Q .non (M.set n<|.lst<|xs.take j++d::xs.drop j)
 |_=>False
def xP:Nv X "list.insert" (CL X.K mU):=by
 rintro A s σ H x xs v us R I P O ⟨n,a,ds,M,ρ,Q,D,y,C,b,q,k⟩;unfold mU at q;split at q;rename_i i d;obtain⟨ys,j,e,E,V,W,q⟩:=q;obtain⟨v1,_,rfl,L,b⟩:=Reps.inv_cons b;obtain⟨v2,_,rfl,N,b⟩:=Reps.inv_cons b;obtain rfl:=Reps.inv_nil b;obtain rfl:=u7.inv_int L;obtain⟨vs,h,r⟩:=C.obj n a _ y e;obtain⟨T,U⟩:=C.write y e h<|(r.take j).append<|.cons N<|r.drop j;subst D;cases P;obtain⟨S,w,rfl,p,u⟩:=az.two O;obtain⟨t,rfl⟩:∃t,S=.int i t:=p;obtain⟨z,its,m,o,G,f⟩:=I.lstM h;have l1:=r.length;have l2:=o.length;have g:its.length<=sizeLine:=Mr (bA<|by lia);have l:its.length+1<=sizeLine:=bA b7;have B:its.toArray.size<=sizeLine:=by rw[A5];exact g
 have c:¬(!ADF i)=a9:=by
  have Z:j<1000:=by lia
  clear g l B;have h1:(-(2 ^ 63:Int)<=i):=by lia
  have h2:(i<2 ^ 63):=by lia
  intro z;unfold ADF at z;rw[dT_ h1,dT_ h2]at z;cases z
 have J:=@PySem.AutoListH.list_insert_list_int_val_1 a its.toArray m i t w c B;refine call_meets F.slot_list_insert ⟨_,f,rfl⟩ F.entry_list_insert (F.args_list_insert_3 _ _ _) J ⟨f,?_⟩;refine⟨.non,_,I.lset (its':=its.take j++w::its.drop j) h f ?_ ((o.take j).append<|.cons u<|o.drop j) ?_,rfl,k _ _ ⟨.non,_,ρ,T,U,.non,q⟩⟩;have Y:(if i<0 then(i+((its.toArray.size:Nat):Int)).toNat else min i.toNat its.toArray.size)=j:=by rw[p0 b7,A5];lia
 show ((its.toArray.extract 0<|if i<0 then(i+((its.toArray.size:Nat):Int)).toNat else min i.toNat its.toArray.size).push w++its.toArray.extract (if i<0 then(i+((its.toArray.size:Nat):Int)).toNat else min i.toNat its.toArray.size))=_;rw[Y];apply Array.ext';simp;exact Qv (by rw[MQ];lia);rw[E2,D4,Li,MQ];lia;exact q.elim
def AF:Qc X "insert" mU:=⟨_,PySem.F.slot_list_insert,PySem.F.type_list_insert,xP⟩
end L2
namespace L2
open PySem PySem.Spec PyProof.Rows DL
def JB{h h' B B':d8}:∀{l:List g7},h.FunFrames B l->(∀b∈frs l,h'.get? b=h.get? b)->(∀b,B.get? b=a8->B'.get? b=a8)->h'.FunFrames B' l
 | [],_,_,_=>trivial
 |env::l,⟨hk,⟨L,o,hf,hn,ho,hd⟩,hr⟩,k,kb=>by
  have m:∀{b:d6},b=L\/b∈frs l->b∈frs (env::l):=λhb=>by unfold frs;rw[MA,hf];exact List.mem_cons.mpr hb
  exact⟨hk,⟨L,o,hf,kb L hn,(k L<|m<|.inl rfl).trans ho,hd⟩,JB hr (λb hb=>k b<|m<|.inr hb) kb⟩
def t5.blkBack(I:t5 X pins σ H s)(h:∀b∈fp,oy X pins H b)(t:t5 (z6 X N' scope cl { s with heap:=s.heap.push (bz [] 0) } H<|s.heap.objs.size::fp) pl τ H' s'):t5 X pins σ H' s':=by
 have u:Un (frs X.stack) (s.heap.objs.size::fp) H H' (s.heap.push<|bz [] 0) s'.heap:=t.base;have p:∀b o,s.heap.get? b=a7 o->(s.heap.push<|bz [] 0).get? b=a7 o:=λb o e=>w5 _ e;have a:∀b o,s.heap.get? b=a7 o->b∉fp->b∉s.heap.objs.size::fp:=λb o e x z=>by rcases z7.mp z with q|q;exact A4 (z8 e) q;exact x q
 refine I.call' (s':=s') (ch:=fp) t.os ⟨λb o e n d x=>u.keep b o (p b o e) n d<|a b o e x,λb o e n d x=>u.slot b o (p b o e) n d<|a b o e x,λb o e n x=>u.free b o (p b o e) n<|a b o e x,λb o e x=>u.there b o (p b o e)<|a b o e x,u.tups,u.frzs,u.tbls⟩ t.hok t.bare λb d=>?_;obtain⟨_,f,_,r,c,y⟩:=h b d;exact⟨r,f,c,y⟩
def ED{H1:Hp}{h' a B:d8}(I:t5 X pins σ H s)(d:DefX X)(c:Un (frs X.stack) [] H H1 s.heap h')(g:∀b o,X.s₀.heap.get? b=a7 o->b∉X.fs->∃o',B.get? b=a7 o'/\(X.H₀ b=a8->o'=o))(st:B.StaysIn a)(r:∀b,b∈X.fs->∀o,h'.get? b=a7 o->∃sl,a.get? b=a7 { o with slots:=sl }):Un X.fs [] X.H₀ H1 X.s₀.heap a:=by have bs:Un X.fs [] X.H₀ H X.s₀.heap s.heap:=d.ex ▸ I.base;refine⟨λb o q n h x=>?_,λb o q n h x=>?_,λb o q n x=>?_,λb o q x=>?_,λb xs q=>c.tups b xs<|bs.tups b xs q,λb o u q=>c.frzs b o u<|bs.frzs b o u q,λb ps q=>?_⟩;obtain⟨o',e,z⟩:=g b o q h;rw[<-z n];exact st b o' e;obtain⟨sl,t⟩:=bs.slot b o q n h x;obtain⟨T,l⟩:=c.slot b _ t (bs.free b o q n x) (d.frs.mpr<|.inr h) x;obtain⟨M,R⟩:=r b h _ l;exact⟨M,R⟩;obtain⟨o',j⟩:=bs.there b o q x;exact c.free b o' j (bs.free b o q n x) x;by_cases h:b∈X.fs;obtain⟨o',t⟩:=bs.there b o q x;obtain⟨o2,l⟩:=c.there b o' t x;obtain⟨sl,R⟩:=r b h _ l;exact⟨_,R⟩;obtain⟨o',e,_⟩:=g b o q h;exact⟨o',st b o' e⟩;obtain⟨V,t⟩:=bs.tbls b ps q;obtain⟨W,l⟩:=c.tbls b _ t;exact⟨V++W,by rw[l,Qi]⟩
theorem GU{N':List c8}{scope:g8}{cl:List (c8×d6)}{fp:List d6}{τ:St}{G:Hp}{D s':f9}{pl:List (d6×d7)}{E:XK}{e acc:c6}{Ex Q:c6->f9->Prop}(d:DefX X)(I:t5 X pins σ H s)(hf:∀b∈fp,oy X pins H b)(R:t5 (z6 X N' scope cl { s with heap:=s.heap.push (bz [] 0) } H<|s.heap.objs.size::fp) pl τ G D) (c:La X.prog X.w X.stack G D E e s') (W:∀a s',FlyN X E a s'->Ex (.ref a) s'):notedBy (i4 X.prog X.w) X.A (m9 scope cl (s.heap.push<|bz [] 0).objs.size X.env) (λx s''=>compPost (i4 X.prog X.w) X.A Ex a8 Q acc (s.heap.push<|bz [] 0).objs.size (.error x) s'') e s':=by
 obtain⟨a,C,dx,H1,rfl,ho,gb,⟨B,o,ix,dk,y,un,ab,r,trk⟩,q⟩:=c;have J:=I.blkBack hf R;have Z:X.A.frames=a7 (X.env::X.outer):=d.stk ▸ I.ok.frames;have k:C5 s'.heap B (X.env::X.outer) a o .none:=d.stk ▸ y;have hC:(s.heap.push<|bz [] 0).objs.size=s.heap.objs.size+1:=KG ..;obtain⟨m,p,_⟩:=id R.loc;have P:G (s.heap.push<|bz [] 0).objs.size=a8:=R.free;have p:D.heap.Ns (s.heap.push<|bz [] 0).objs.size m:=p;have L:(s.heap.push<|bz [] 0).objs.size∉frs X.stack:=λz=>by rcases z7.mp (I.stkSub _ z)with q|q;exact p5 (Nat.lt_trans I.lt<|K5 _) (by rw[<-q,hC];exact E8 _);exact I.nofs b7 q
 have v:X.s₀.heap.objs.size<=(s.heap.push<|bz [] 0).objs.size:=by have:=I.sz;lia
 show i0 _ _ (m7 (.ref a) X.env) (λ_ s''=>compPost (i4 X.prog X.w) X.A Ex a8 Q acc (s.heap.push<|bz [] 0).objs.size (.error<|.ref a) s'') _ s';generalize (s.heap.push<|bz [] 0).objs.size=g at p P L v;obtain⟨oc,S⟩:∃oc,D.heap.get? g=a7 oc:=by obtain⟨oc,_,_,e,_⟩:=id p;exact⟨oc,e⟩
 have M:B.get? g=a7 oc:=by obtain⟨o',h1,h2⟩:=r g oc S L;rw[h2 P]at h1;exact h1
 have O:H1 g=a8:=un.free g oc S P lE;refine k.look d.fr Z λh1 U F1 u1=>⟨m,Heap.Ns.at' p λo e=>?_,λh2 F aj _=>?_⟩
 rw[S]at e;cases e;exact F1.st _ _ M;obtain⟨T,oT,vs,ts,st,nw,ff,dd,sz,at_,nT,ne,aT,dT,h3⟩:=id F1;have K:∀{b:d6}{o:d7},(KZ B [g]).get? b=a7 o->b≠g/\B.get? b=a7 o:=λ{b o} f=>⟨λz=>(nomatch (show a8=a7 o by rw[<-Qq (h:=B) [g] (List.mem_singleton.mpr z),f])),OT _ f⟩
 have to:∀{b:d6}{o:d7},b≠g->B.get? b=a7 o->(KZ B [g]).get? b=a7 o:=λf e=>Px _ e λz=>f<|Ky.mp z;have j:∀b,B.get? b=a8->(KZ B [g]).get? b=a8:=λb f=>by
  cases q:(KZ B [g]).get? b with
  |none=>rfl
  |some o=>have:=(K q).2;rw[f]at this;cases this
 have F2:C5 h2 (KZ B [g]) (X.env::X.outer) a o U:=⟨T,oT,vs,ts,λb o f=>(F.2 b (K f).1).trans<|st b o (K f).2,j a nw,JB ff (λb f=>F.2 b λz=>L<|by rw[d.stk,<-z];exact f) j,dd,sz,(F.2 a λz=>by rw[z,M]at nw;cases nw).trans at_,j T nT,ne,(F.2 T λz=>by rw[z,M]at nT;cases nT).trans aT,dT,h3⟩
 refine F2.pass λh3 V N u3=>W a _ ?_;have t:∀b u,H1 b=a7 u->∃o,(KZ B [g]).get? b=a7 o:=λb u e=>by obtain⟨o,ho⟩:=trk b u e;exact⟨o,to (λz=>by rw[z,O]at e;cases e) ho⟩
 have i:∀b o,X.s₀.heap.get? b=a7 o->b∉X.fs->∃o',(KZ B [g]).get? b=a7 o'/\(X.H₀ b=a8->o'=o):=λb o q f=>by have bs:Un X.fs [] X.H₀ G X.s₀.heap D.heap:=d.ex ▸ J.base;have Y:b∉frs X.stack:=λz=>(d.frs.mp z).elim (λz=>J.nloc q z) f;obtain⟨o',q'⟩:=bs.there b o q lE;obtain⟨o2,q2,z⟩:=r b o' q' Y;have bl:=z8 q;refine⟨o2,to (λz=>p5 (E5 bl v)<|by rw[z];exact E8 _) q2,λn=>?_⟩;rw[z<|bs.free b o q n lE];have:=bs.keep b o q n f lE;rw[q']at this;exact C1 this
 refine⟨C,dx,H1,_,o,V,ho.trans J.os,gb,ix,dk,N,ED J d un i N.st λb f o e=>?_,fT ab t (λb o f=>y.st b o (K f).2) N.st,i,t,q⟩;have l:b∈frs X.stack:=d.frs.mpr<|.inr f;obtain⟨_,o',e',nf⟩:=y.ff.mem (show b∈X.stack.filterMap (·.frame)from l);rw[e]at e';cases e';obtain⟨sl,e1⟩:=u1 b o e nf;have e2:h2.get? b=a7 { o with slots:=sl }:=(F.2 b λz=>L<|by rw[<-z];exact l).trans e1;obtain⟨ai,e3⟩:=u3 b _ e2 nf;exact⟨ai,e3⟩
def CQ{C tg S:i3}{P:List i3}{scope:g8}{pos:i5}{N':List c8}{l:List (c8×d6)}{J:It}{fp:List d6}{it:d6}{tn:Nat->d8->Prop}{g:TG}{tt:TT}{tex:yy}{E:XK}{Q:VK}{W:Nat->Nat->List V->St->Hp->Prop}{R:Result->f9->Prop}{s0:f9}{H0:Hp}{D:d6} (TX:TurnX (z6 X N' scope l s0 H0<|D::fp) tg J fp it tn)(hg:PG (z6 X N' scope l s0 H0<|D::fp) tg g) (ht:Ly (z6 X N' scope l s0 H0<|D::fp) P tt) (he:Mn c5 (z6 X N' scope l s0 H0<|D::fp) C tex)(ax:∀pl τ H7 s7 e s',t5 (z6 X N' scope l s0 H0<|D::fp) pl τ H7 s7->La X.prog X.w X.stack H7 s7 E e s'->notedBy (i4 X.prog X.w) X.A (m9 scope l s0.heap.objs.size X.env) (λe s'=>R (.error e) s') e s')(T:Turn X.prog X.w X.K tg J fp it tn) (O:D∉fp)(Z:∀i m vs τ H,W i m vs τ H->(J.stop i H/\∀p,H p=a8->Q (.ref p) (v8 H p<|.lst vs)) \/ (J.go i H/\∀x H',J.yld i H x H'->g x τ H' λτ2 H2=>tt τ2 H2 λb f=>if b=a9 then lowXE X.K E tex τ2 f (λy H4=>vs.length<sizeLine/\∃m',m' < m/\W (i+1) m' (vs++[y]) τ2 H4)else ∃m',m' < m/\W (i+1) m' vs τ2 f))(t:∀b∈fp,b≠s0.heap.objs.size/\b∉frs X.stack/\∀x c,l.lookup x=a7 c->c≠b) (N:D≠s0.heap.objs.size) (as:D∉frs X.stack) (ap:∀x c,l.lookup x=a7 c->c≠D)
  (ai:∀τ H' s' vs its k,t5 (z6 X N' scope l s0 H0<|D::fp) [(D,bz its k)] τ H' s'->az vs its->vs.length<=sizeLine->Q (.ref D) (v8 H' D<|.lst vs)->R (.ok .next) s')
  (m0:Nat) {s:St}{s3:f9}{f:Hp} (I3:t5 (z6 X N' scope l s0 H0<|D::fp) [(D,bz [] 0)] s f s3) (aT:tn 0 s3.heap) (aj:∀b∈fp,f b=a8) (w0:W 0 m0 [] s f) :
  k9 (i4 X.prog X.w) X.A (.compLoop (.ListComp C [⟨tg,S,P,0⟩] scope pos) 0 (.ref it) (.ref D)<|m9 scope l s0.heap.objs.size X.env) R s3:=by
 have h:∀{ob:d7}{H':Hp},(∀b∈fp,H' b=a8)->∀b∈fp,oy (z6 X N' scope l s0 H0<|D::fp) [(D,ob)] H' b:=λ{ob H'} hn b d=>by
  obtain⟨a1,a2,a3⟩:=t b d;refine⟨hn b d,a1,a2,.inl<|C4 _ d,a3,λp j z=>?_⟩;have e:p=(D,ob):=by simpa [z6]using j
  subst e;exact O<|by rw[show D=b from z];exact d
 refine qf (λn s'=>∃i τ H' vs its k,t5 (z6 X N' scope l s0 H0<|D::fp) [(D,bz its k)] τ H' s'/\tn i s'.heap/\(∀b∈fp,H' b=a8)/\az vs its/\vs.length<=sizeLine/\W i n vs τ H') (λe s'=>∃pl τ H7 s7,t5 (z6 X N' scope l s0 H0<|D::fp) pl τ H7 s7/\La X.prog X.w X.stack H7 s7 E e s') (λe s' ⟨pl,τ,H7,s7,I,c⟩=>ax pl τ H7 s7 e s' I c) ?_ m0 ⟨0,s,f,[],[],0,I3,aT,aj,.nil,B0 _,w0⟩;rintro n s' ⟨i,τ,H',vs,its,k,I',U,M,rv,hl,w'⟩;rcases Z i n vs τ H' w' with⟨stop,q⟩|⟨go,Y⟩
 refine v6 (TX.done i _ s' τ H' _ I' (h M) U stop) ?_;rintro r s4 ⟨hr,I4⟩;subst hr;exact ai τ H' s4 vs its k I4 rv hl<|q D (I'.pin (D,bz its k)<|by simp[z6]).2.1;refine v6 (TX.item i _ s' τ H' _ I' (h M) U go) ?_;rintro r s4 ⟨u,hr,h4⟩;subst hr;refine v6 h4 ?_;rintro _ s5 ⟨x,H5,I5,r5,y5,B,an⟩;have ab:=I5.pinned (h an)<|T.obj _ _ B;refine D3 (hg _ s5 τ H5 x u _ ab r5<|Y x H5 y5) (λ_ s6 ⟨a,H6,I6,q6⟩=>?_) λ_ _ z=>H9 z;refine D3 (ht _ s6 a H6 _ I6 q6) (λok s7 ⟨H7,I,q7⟩=>?_) λ_ _ z=>H9 z;have F:∀{b:d6}{o:d7},b∈fp->s5.heap.get? b=a7 o->(b,o)∈(z6 X N' scope l s0 H0<|D::fp).pn++([(D,bz its k)]++eE fp s5.heap):=λd e=>E3 _<|E3 _<|du d e;cases ok with
 |false =>
  obtain⟨m',hm,w7⟩:=(show ∃m',m' < n/\W (i+1) m' vs a H7 from q7)
  refine⟨m',hm,i+1,a,H7,vs,its,k,I.unpinned,T.keep _ _ _ B λb d o e=>(I.pin (b,o)<|F d e).1,λb d=>?_,rv,hl,w7⟩;obtain⟨o,e,_⟩:=T.obj _ _ B b d;exact(I.pin (b,o)<|F d e).2.1
 |true =>
  refine v6 (he.ok _ s7 a H7 _ E (λ_=>True) _ ⟨λσ H1 s1 e s' _ I1 c=>⟨_,σ,H1,s1,I1,c⟩,λz=>(nomatch z),λz=>(nomatch z),λz=>(nomatch z),λz=>(nomatch z)⟩ trivial I q7) ?_;rintro yv s8 ⟨y,H8,I8,r8,q8⟩;obtain⟨aP,m',hm,w8⟩:=q8;obtain⟨oD,fD,_⟩:=I8.pin (D,bz its k) (E3 _<|NK _<|by simp);have L:H8 D=a8:=fD;refine append_at (its:=its.toArray) (n:=k) oD (λh9 aS o9=>?_) (by rw[A5,<-rv.length];exact hl);have J8:t5 (z6 X N' scope l s0 H0<|D::fp) (eE fp s5.heap) a H8 s8:=I8.pins_of λp j=>I8.pin p<|E3 _<|E3 _ j;have J9:t5 (z6 X N' scope l s0 H0<|D::fp) (eE fp s5.heap) a H8 { s8 with heap:=h9 }:=J8.turned (t':=s8.toks) (it:=D) (λb o d e=>(aS.2 b d).trans e) L N (.inl A9) ap λp j z=>by
   have aD:p∈eE fp s5.heap:=by simpa [z6]using j
   exact O<|by rw[<-z];exact(nD aD).1
  have G:∀{b:d6}{o:d7},b∈fp->s5.heap.get? b=a7 o->(b,o)∈(z6 X N' scope l s0 H0<|D::fp).pn++eE fp s5.heap:=λd e=>E3 _<|du d e;refine⟨m',hm,i+1,a,H8,vs++[y],its++[yv],k+1,J9.pins_of λp j=>?_,T.keep _ _ _ B λb d o e=>(J9.pin (b,o)<|G d e).1,λb d=>?_,rv.append<|.cons r8 .nil,?_,w8⟩;have e:p=(D,bz (its++[yv])<|k+1):=by simpa using j
  subst e;refine⟨?_,L,N,as,λv z=>by cases z⟩;rw[show bz (its++[yv]) (k+1)=({ cls:=.type "list",data:=.seq (its.toArray.push yv) (k+1) }:d7) by rw[List.push_toArray]];exact o9;obtain⟨o,e,_⟩:=T.obj _ _ B b d;exact(J9.pin (b,o)<|G d e).2.1;rw[E2];exact aP
theorem IC{C P r:i3}{u:List i3}{scope:g8}{pos:i5}{N':List c8}{nt:Nat}{js:List Nat}{g:TG}{tt:TT}{tex:yy}{E:XK}{Ex:c6->f9->Prop}{pins:List (d6×d7)}{s:f9}{σ:St}{H:Hp}{Q:VK}(B:BlkSc X N' nt js scope)(hc:X.calm=a9)(d:DefX X)(ai:∀a s',FlyN X E a s'->Ex (.ref a) s')(I:t5 X pins σ H s)(h:On nt js (λ_ _ R=>i0 (i4 X.prog X.w) X.A (eval r X.env) (λv s1=>i0 (i4 X.prog X.w) X.A (j6 v) (O5 X pins σ P R) Ex s1) Ex s) g tt (lowXE X.K E tex) σ H Q)(hg:∀cl s0 H0 ex,PG (z6 X N' scope cl s0 H0 ex) P g) (ht:∀cl s0 H0 ex,Ly (z6 X N' scope cl s0 H0 ex) u tt) (he:∀cl s0 H0 ex,Mn c5 (z6 X N' scope cl s0 H0 ex) C tex)(hs:∀x,j8 r X.env x=pure x):i0 (i4 X.prog X.w) X.A (eval (.ListComp C [⟨P,r,u,0⟩] scope pos) X.env) (EP X pins σ Q) Ex s:=by
 rw[eval_ListComp];obtain⟨cl,S,f,D⟩:=iD (scope:=scope) (env:=X.env) λp hp hf=>I.ok.has p.1<|B.free p hp hf;refine Qz (use:=a8) rfl hs S B.kind B.loc ?_;refine v6 h λv s1 h1=>v6 h1 λaj n h2=>?_;obtain⟨it,V,tn,J,H2,e,i,T,U,M,W,⟨m0,w0⟩,O⟩:=h2;subst e;refine KJ<|wpAny_newFunctionEnv B.nocell (by intro y hy;simp at hy) (λh1 F G=>?_) B.kind;have m:∀b∈V,b<n.heap.objs.size:=λb j=>by obtain⟨o,e,_⟩:=T.obj _ _ U b j;exact z8 e
 have hC:(n.heap.push<|bz [] 0).objs.size=n.heap.objs.size+1:=KG ..;have L:∀b o,(n.heap.push<|bz [] 0).get? b=a7 o->h1.get? b=a7 o:=λb o e=>(G.2 b<|A4<|z8 e).trans<|w5 _ e;have I3:=i.blkStart (tk:=n.toks+([]:List (c8×c6)).length) B f D M m L F;have N:tn 0 h1:=T.keep _ _ _ U λb _ o e=>L b o<|w5 _ e;have Z:n.heap.objs.size∉V:=λz=>E8 _<|m _ z;have ab:n.heap.objs.size∉frs X.stack:=λz=>by rcases z7.mp (i.stkSub _ z)with q|q;exact p5 i.lt (by rw[<-q];exact E8 _);exact i.nofs (v7 _) q
 have Y:n.heap.objs.size≠(n.heap.push<|bz [] 0).objs.size:=by rw[hC];exact A4<|K5 _
 have ltc:∀z c,cl.lookup z=a7 c->c<n.heap.objs.size:=λz c e=>by obtain⟨v,q⟩:=i.cell z c<|f z c e;exact q.lt
 have t:∀b∈V,b≠(n.heap.push<|bz [] 0).objs.size/\b∉frs X.stack/\∀x c,cl.lookup x=a7 c->c≠b:=λb j=>by refine⟨by rw[hC];exact A4<|Mj<|m b j,λz=>?_,λx c e=>(M b j).2.2.2.2.1 x c<|f x c e⟩;rcases z7.mp (i.stkSub b z)with q|q;exact(M b j).2.1 q;exact(M b j).2.2.1 q
 have l:k9 (i4 X.prog X.w) X.A (.compLoop (.ListComp C [⟨P,r,u,0⟩] scope pos) 0 (.ref it) (.ref n.heap.objs.size)<|m9 scope cl (n.heap.push<|bz [] 0).objs.size X.env) (compPost (i4 X.prog X.w) X.A Ex a8 (EP X pins σ Q) (.ref n.heap.objs.size) (n.heap.push<|bz [] 0).objs.size) { n with heap:=h1,toks:=n.toks+([]:List (c8×c6)).length }:=by refine CQ (E:=E) (s0:={ n with heap:=n.heap.push (bz [] 0) }) (H0:=H2) (N':=N') (Q:=Q) (Turn.at T hc) (hg _ _ _ _) (ht _ _ _ _) (he _ _ _ _) (λpl τ H7 s7 e s' I7 c=>GU d i M I7 c ai) T Z O t Y ab (λx c e=>A4<|ltc x c e) ?_ m0 I3 N (λb j=>(M b j).1) w0;intro τ H' s' vs its k I4 rv hl q;obtain⟨mm,hn,_⟩:=id I4.loc;exact⟨mm,hn,λh' sb=>⟨.ref n.heap.objs.size,_,i.blkEnd M I4 rv hl sb,rfl,q⟩⟩
 exact Qw l<|T.self _ 0 _ _ _ N l
def wP{K:u6}{r:Nat}{s:List Nat}{g:KR}{tt:G9}{tex:yy}{RX:DX}{E:XK}{σ:St}{H H1:Hp}{R:VK}{S:SD}{ρ c:List d6}{Q:DK}{J:It}{src:O4}{h:t7}(sr:SRep K ρ H S σ)(k:∀v H',VQ K ρ H Q v H'->R v H')(xx:∀C dx H',XQ K ρ H RX C dx H'->E C dx H')(s1:v4 K c h H1)(g1:Grow K ρ H c H1)(it:KA K src c H1 J)(q1:fX src.ok g tt (tex RX) Q src.items [] (Er r s S) h):∃W:Nat->Nat->List V->St->Hp->Prop,(∃m,W 0 m [] (L2.bst r s σ) H1)/\∀i m vs τ H,W i m vs τ H->(J.stop i H/\∀p,H p=a8->R (.ref p) (v8 H p<|.lst vs)) \/(J.go i H/\∀x H',J.yld i H x H'->lowG K g x τ H' λτ2 H2=>lowT K tt τ2 H2 λb H3=>if b=a9 then lowXE K E tex τ2 H3 (λy H4=>vs.length<sizeLine/\∃m',m' < m/\W (i+1) m' (vs++[y]) τ2 H4)else ∃m',m' < m/\W (i+1) m' vs τ2 H3):=by
 refine⟨λi m vs τ H2=>∃S2 M a acc,v4 K a M H2/\Grow K c H1 a H2/\SRep K a H2 S2 τ/\Reps K a H2 acc vs/\i<=src.items.length/\m=src.items.length-i/\fX src.ok g tt (tex RX) Q (src.items.drop i) acc S2 M,⟨_,_,h,c,[],s1,.refl,(sr.grow g1).bst r s,.nil,B0 _,rfl,q1⟩,?_⟩;rintro i m vs τ H2 ⟨S2,M,a,acc,n,f,D,u,hi,rfl,q⟩;by_cases t:i<src.items.length;have L:src.items[i]?=a7 src.items[i]:=A1 t;rw[nX L]at q;obtain⟨ok,z⟩:=(show src.ok M/\g src.items[i] S2 M _ from q)
 refine .inr ⟨it.go i a M H2 n f ok t,λx H3 y=>?_⟩;obtain⟨d,F,hd,s3,g3,r3⟩:=it.yld i a M H2 x H3 n f ok t y;have Y:d=src.items[i]:=C1<|hd.symm.trans L;subst Y;refine⟨_,S2,M,F,_,s3,D.grow g3,r3,z,?_⟩;rintro ab H4 ⟨Z,T,I,s4,o,G,q4⟩;refine⟨Z,T,I,_,s4,G,q4,?_⟩;rintro b H5 ⟨X,N,s5,j,P⟩;have l:=((f.trans g3).trans o).trans j;cases b with
 |false=>exact fP ⟨_,b7,Z,X,N,acc,s5,l,G.grow j,u.grow<|(g3.trans o).trans j,t,rfl,(show fX src.ok g tt (tex RX) Q (src.items.drop<|i+1) acc Z X from P)⟩
 |true=>refine eG ⟨Z,X,N,_,RX,s5,G.grow j,(show tex RX Z X _ from P),λv H6 ⟨y',U,O,s6,A,r6,hl,q6⟩=>?_,λC dx H' w=>xx C dx H'<|w.trans<|g1.trans l⟩;have B:=u.grow<|((g3.trans o).trans j).trans A;exact⟨by rw[<-u.length];exact hl,_,b7,Z,U,O,acc++[y'],s6,l.trans A,G.grow<|j.trans A,B.append<|.cons r6 .nil,t,rfl,q6⟩
 have e:i=src.items.length:=by lia
 subst e;rw[Qu<|v7 _]at q;obtain⟨ok,z⟩:=(show src.ok M/\Q (.ref M.length) (M++[.lst acc])from q)
 exact .inl ⟨it.stop a M H2 n f ok,λp hp=>k _ _<|VQ.laidL n (g1.trans f) u hp z⟩
def Kd(te:A3):Lz:=λS M R=>te S M λd a=>match d with
 |.tup ds=>ds.length<=sizeLine->R ⟨ds,λ_=>True⟩ a
 |.ref n=>∃xs,ah a n xs/\(xs.length<=sizeLine->R ⟨xs,λM=>ah M n xs⟩ a)
 |_=>False
def xLCX(t:Nat)(s:List Nat)(c:yy)(g:KR)(tt:G9)(te:yy):yy:=λR=>E4 t s (Kd<|c R) g tt<|te R
def Ee(hi:Mn a9 X iter ti)(W:∀cl s0 H0 ex,HG (z6 X (Le X.N js tg) scope cl s0 H0 ex) tg g)(Y:∀cl s0 H0 ex,M7 (z6 X (Le X.N js tg) scope cl s0 H0 ex) ifs tt)(V:∀cl s0 H0 ex,Mn c5 (z6 X (Le X.N js tg) scope cl s0 H0 ex) elt te)(B:lz X.env.scope.names X.N (Le X.N js tg) nt js scope=a9:=by kernel_rfl) (U:X.calm=a9:=by kernel_rfl) (J:X.stack=X.env::X.outer:=by kernel_rfl) (L:X.env.frame=a7 X.env.locals:=by kernel_rfl) (O:X.ex=[]:=by kernel_rfl) (hs:∀x,j8 iter X.env x=pure x:=by intro _;kernel_rfl):Mn a9 X (.ListComp elt [⟨tg,iter,ifs,0⟩] scope pos) (xLCX nt js ti g tt te):=⟨by
 rintro f s σ H Q E P Ex A p I ⟨S,M,ρ,F,R,sm,w,q,k,x⟩;refine IC (g:=lowG X.K g) (tt:=lowT X.K tt) (tex:=te) (E:=E) (Q:=Q) (BlkSc.chk B) U ⟨J,L,O⟩ (A.noted rfl) I ?_ (λcl s0 H0 ex=>(W cl s0 H0 ex).ok) (λcl s0 H0 ex=>(Y cl s0 H0 ex).ok) V hs;refine v6 (hi.ok f s σ H _ E P Ex A p I ⟨S,M,ρ,_,R,sm,w,q,λ_ _ z=>z,x⟩) ?_;rintro u c ⟨v,H1,h,D,d,G,ab,j,g1,r1,t⟩;have C:∀{t':Nat}{b:d6},b∈[c.heap.objs.size]->oy X f H1 b:=λ{t' b} i=>by
  obtain rfl:b=c.heap.objs.size:=by simpa using i
  exact h.fpOk (v7 _)<|h.hok.fresh<|v7 _
 cases r1 with
 |@tup a vs ds l r=>cases D;obtain⟨its,rr,p,m⟩:=h.tuple l;refine Pv (show c.heap.IsTuple a its.toArray from p) ?_;exact⟨c.heap.objs.size,[c.heap.objs.size],_,_,H1,rfl,h.kept (t':=c.toks) λb o e=>w5 _ e,oS a _,⟨_,B6 _ rfl,rfl,rfl⟩,λb i=>C (t':=0) i,wP w k x j g1 (KA.tup l r λys Z=>h.tuple_inj Z l)<|(show ds.length<=sizeLine->_ from t)<|by rw[r.length];exact m⟩
 |@ref n a y =>
  cases D;obtain⟨xs,T,q2⟩:=(show ∃xs,ah G n xs/\(xs.length<=sizeLine->_)from t)
  obtain⟨vs,l,r⟩:=ah.seq j T y;obtain⟨its,rr,pp,m⟩:=h.list l;refine OQ pp.isList ?_;exact⟨c.heap.objs.size,[c.heap.objs.size],_,_,H1,rfl,h.kept (t':=c.toks) λb o e=>w5 _ e,rV a _,⟨_,B6 _ rfl,rfl,rfl⟩,λb i=>C (t':=0) i,wP w k x j g1 (KA.lst y)<|q2<|by rw[r.length];exact m⟩
 |_=>exact t.elim⟩
def PY(r:J3)(t:DTAX):yy:=λR=>u0 r<|t R
def IF(o:HC X.nox (.type T) r)(B:X.mg x=a8)(D:f7 x=a7 (.type T))(n:QN b X (e::es) tx)(u:X.env.kindOf x=a7 .globalImplicit:=by kernel_rfl)(C:(x==("__name__":c8))=c5:=by kernel_rfl)(h:(x==("__debug__":c8))=c5:=by kernel_rfl)(t:i7 (e::es) X.env=(c5,eval e X.env)::i7 es X.env:=by kernel_rfl) (l:(i6 pos<|i7 es X.env).any (·.1)=c5:=by kernel_rfl):Mn b X (.Call (.Name x p) (e::es) [] pos) (PY r tx):=⟨by rintro a s σ H Q E P Ex A g I ⟨S,M,ρ,F,R,L,N,q,k,O⟩;refine MR<|iB I u B D ?_ (by simpa using C) h;refine Ol (v6 (n.ok pos a s σ H _ E P Ex A g I ⟨S,M,ρ,_,R,L,N,q,λ_ _ z=>z,O⟩) ?_) t l;rintro us K ⟨vs,H1,j,J,ds,m,d,f,g1,c,G⟩;exact D3 (o.ok a K σ H1 vs us Q (j.wish _) J ⟨ds,m,d,F,f,c,G,λv H' w=>k v H'<|VQ.trans g1 w⟩) (λ_ _ ⟨y,H',i,r,q⟩=>⟨y,H',i.unwish,r,q⟩) λ_ _ z=>H9 z⟩
def zC:J4:=λx y M Q=>match x,y with
 |.ref n,.int j=>∃xs,M[n]?=a7 (.lst xs)/\(-(2 ^ 63)<=j/\j<2 ^ 63)/\xs.length*j.toNat<=sizeLine/\Q (.ref M.length) (M++[.lst (J0 j.toNat xs).flatten])
 |_,_=>False
def Reps.many{K:u6}{ρ:List d6}{H:Hp}{ds:List D}{vs:List V}(r:Reps K ρ H ds vs):∀m:Nat,Reps K ρ H (J0 m ds).flatten (J0 m vs).flatten
 | 0=>.nil
 |m+1=>by rw[Mz,Mz,Oe,Oe];exact r.append<|r.many m
def Fx:J2 X (j9 .Mult) zC:=by refine D8.imp Il ?_;rintro f i H R ⟨x,y,M,ρ,Q,m,d,l,q,k⟩;unfold zC at q;split at q;obtain⟨xs,e,⟨h1,h2⟩,z,q⟩:=q;obtain⟨a,rfl,c⟩:=u7.inv_ref d;obtain rfl:=u7.inv_int l;obtain⟨vs,h,r⟩:=m.obj _ a _ c e;exact⟨a,_,vs,rfl,rfl,h,h1,h2,by rw[<-r.length];exact z,λp b=>k _ _<|VQ.laidL m .refl (r.many _) b q⟩;exact q.elim
def Go:J5 X (j9 .Mult) zC:=⟨Fx⟩
def jQ:J3:=λds M Q=>match ds with
 | [.tup xs]=>SrtG M xs/\∀ys,ys.Perm xs->rJ M ys->Q (.ref M.length) (M++[.lst ys])
 |_=>bN ds M Q
def ya(i:Room k X.A)(f:X.calm=a9:=by kernel_rfl):HC X (.builtin "sorted") jQ:=⟨by rintro p s σ H vs us R I d ⟨ds,M,ρ,Q,m,a,q,C⟩;unfold jQ at q;split at q;exact ym i p s σ H vs us R I d ⟨_,M,ρ,Q,m,a,q,C⟩;exact(ua i f).ok p s σ H vs us R I d ⟨_,M,ρ,Q,m,a,q,C⟩⟩
abbrev DerXL(P:d5)(w:c9)(K:u6)(mg:c8->Option c6)(base:d8)(k:Nat)(x:c8)(N:List c8)(st:i8)(t:F4):Prop:=∀(f:d6) (cdv:c6) (A:f8) (outer:List g7) (s:f9) (H:Hp) (E:XK),Room k (A.deeper<|OU x (ao st) s.heap.objs.size f cdv)->Kq (jw (La P w) P w K mg base N x (ao st) f cdv A outer s H E).nox x->L9 a9 (jw (La P w) P w K mg base N x (ao st) f cdv A outer s H E) (bG st) t
def yA.byL{P:d5}{w:c9}{K:u6}{mg:c8->Option c6}{base:d8}{x:c8}{st:i8}{N ps:List c8}{k:Nat}{y:yF}{B:List c8}{C:List (c8×Int)}{t:F4}(T:TopB mg B C)(F:dq K mg x st ps)(Z:FnScope N ps (ao st))(U:Kr y ps)(J:TopB mg B C->N.Nodup->DerXL P w K mg base k x N st t)(wp:∀ds M R RX,y ds M R RX->t (Ev M RX) (EE M R) (bp N ds) M):yA P w K mg base (k+1) x ps y:=by obtain⟨f,fd,X,hm,hb⟩:=F;refine⟨f,fd,?_,hm,X.kp,hb⟩;obtain⟨oc,od,kV,ab,pm,an,G,ct,V,rfl,lk,O⟩:=X.ex;refine Do lk O Z (λvs H Q E ⟨ds,M,ρ,R,RX,s,r,q,_⟩=>by rw[<-r.length];exact U ds M R RX q) λA o s H vs Q E hr h=>?_;obtain⟨ds,M,ρ,R,RX,l,r,q,kk,kx⟩:=h;refine⟨lowX K E t,λp s1 σ H1 D I z=>(J T Z.nd f G A o s H E hr ⟨f,oc,od,_,V,hm,lk,rfl⟩).ok p s1 σ H1 D E (λ_=>True) _ ⟨λb n W e s' _ g c=>zO p b n W e s' g c,λ_ _=>trivial,λ_ b n W h' e C vs g m q=>zW g m q,λ_ b n W e C dx fs g s0 he S ne q=>AA g s0 he S ne q,λ_ a s' F=>wJ I F⟩ trivial I z,bp N ds,M,ρ,_,_,l,SRep.start r N,wp ds M R RX q,⟨λb H' ⟨Y,u,d,s',L,i,j⟩=>?_,λv H' z=>kk v H'<|VQ.endq l z,λb H' ⟨Y,u,d,s',L,i,j⟩=>j.elim,λb H' ⟨Y,u,d,s',L,i,j⟩=>j.elim⟩,λC dx H' z=>kx C dx H'<|XQ.endq l z⟩;exact kk .non H'<|VQ.endq l ⟨.non,u,d,s',L,.non,j⟩
end L2
namespace LW
open PySem L2
local macro_rules | `(tactic| walk_at"sc")=>`(tactic| exact⟨rfl,rfl,rfl,dO,rfl,dO,dO⟩)
local macro_rules | `(tactic| walk_at"dl")=>`(tactic| simp only[EE,L6,BI,NP,xSet,Ez,NQ,EA,me,dTry,xf,dIsV,dCBH,dLCH,PY,xLCX,zC,jQ,aC,A6,cM,Ke,Fn,ar,u0,aa,af,aK,eu,Bf,E4,kg,bK,al,be,bD,nZ,nY,t6,MY,gF,dC,ac,bc,cq,J1,cA,aX,Mm,bJ,jv,wI,qAdd,aF,BB,mT,ck,dR,Cl,MX,K7,NR,Nr,G5,Lw,fF,jR,yB,v9,O2,eS,BE,Dw,gI,aQ,gJ,dZip,Hf,eV,bX,Bg,Bi,Bh,jZ,fg,mU,GK,Kp,lr,QH,Os,Oq,A0,Op,bp,Er,B9,Me,LH,E9,LY,MC,D4,Ix,Nm,Mz,List.set_cons_zero,List.set_cons_succ,LD,Nat.reduceAdd,Nat.reduceSub,LR,p9,p8,C8])
noncomputable def top(i:Nat):i8:=PySem.Challenge.pw_talkmarks_k05_houses_made.main.body.getD i<|.Pass ⟨0,0,0,0⟩
noncomputable abbrev T_:yz:=[(x9 "NoHouse",[(x9 "NotYours",c5),(x9 "NoMessage",c5),(x9 "NoRoom",c5),(x9 "NoHouse",a9),(x9 "NoDeed",c5),(x9 "NoWhat",c5),(x9 "NoName",c5),(x9 "NoSaying",c5),(x9 "Gap",c5),(x9 "Clash",c5),(x9 "NoRow",c5),(x9 "Strange",c5),(x9 "TalkError",a9)])]
noncomputable abbrev B_:List c8:=["int","isinstance","bool","tuple","len","list","range","all","str","sorted","zip","ValueError","set"]
noncomputable abbrev C_:List (c8×Int):=[("LONGEST_NAME",8),("MOST_PEOPLE",4),("MOST_HANDS",3),("MOST_ROOMS",4)]
noncomputable abbrev kt:List c8:=["thing"]
noncomputable abbrev dY:List c8:=["least","thing"]
noncomputable abbrev fG:List c8:=["many","thing"]
noncomputable abbrev cw:List c8:=["thing"]
noncomputable abbrev jh:List c8:=["things"]
noncomputable abbrev ji:List c8:=["sign"]
noncomputable abbrev nq:List c8:=["thing"]
noncomputable abbrev jn:List c8:=["pairs"]
noncomputable abbrev fJ:List c8:=["thing"]
noncomputable abbrev ip:List c8:=["thing"]
noncomputable abbrev fK:List c8:=["thing","names"]
noncomputable abbrev jk:List c8:=["thing","names"]
noncomputable abbrev jm:List c8:=["thing","names"]
noncomputable abbrev ku:List c8:=["thing"]
noncomputable abbrev jo:List c8:=["thing"]
noncomputable abbrev dW:List c8:=["things"]
noncomputable abbrev cf:List c8:=["pair"]
noncomputable abbrev kw:List c8:=["people","rooms"]
noncomputable abbrev nu:List c8:=["_law_script","_law_k"]
noncomputable abbrev qF:List c8:=["_law_cell","_law_many"]
noncomputable abbrev uU:List c8:=["_law_cell","_law_many"]
noncomputable abbrev nj:List c8:=["_law_rest"]
noncomputable abbrev cF:List c8:=["_law_rest"]
noncomputable abbrev uX:List c8:=["_law_cell"]
noncomputable abbrev wH:List c8:=["_law_found","_law_due_here"]
noncomputable abbrev uW:List c8:=["_law_e"]
noncomputable abbrev qE:List c8:=["_law_some","_law_number"]
noncomputable abbrev lV:List c8:=["_law_some"]
noncomputable abbrev nh:List c8:=["_law_people","_law_rooms"]
noncomputable abbrev zQ:List c8:=["_law_people","_law_rooms","_law_number"]
noncomputable abbrev jg:List c8:=["_law_thing"]
noncomputable abbrev qG:List c8:=["_law_names"]
noncomputable abbrev uV:List c8:=["_law_thing"]
noncomputable abbrev Fp:List c8:=["_law_thing"]
noncomputable abbrev fL:List c8:=["_law_people","_law_number","_law_name"]
noncomputable abbrev iq:List c8:=["_law_rooms","_law_number","_law_name"]
noncomputable abbrev ky:List c8:=["_law_people","_law_rooms"]
noncomputable abbrev qH:List c8:=["_law_people","_law_rooms"]
noncomputable abbrev Fo:List c8:=["_law_script"]
structure Tops(P:d5)(w:c9)(K:u6)(mg:c8->Option c6)(base:d8):Prop where
 f_is_whole:dq K mg "is_whole" (top 15) kt
 f_is_whole_from:dq K mg "is_whole_from" (top 16) dY
 f_is_tuple_of:dq K mg "is_tuple_of" (top 17) fG
 f_is_list_or_tuple:dq K mg "is_list_or_tuple" (top 18) cw
 f_is_rising:dq K mg "is_rising" (top 19) jh
 f_is_letter:dq K mg "is_letter" (top 22) ji
 f_is_name:dq K mg "is_name" (top 23) nq
 f_firsts_of:dq K mg "firsts_of" (top 28) jn
 f_fits_person:dq K mg "fits_person" (top 29) fJ
 f_fit_people:dq K mg "fit_people" (top 30) ip
 f_fit_members:dq K mg "fit_members" (top 31) fK
 f_fits_room:dq K mg "fits_room" (top 32) jk
 f_fit_rooms:dq K mg "fit_rooms" (top 33) jm
 f_is_house:dq K mg "is_house" (top 34) ku
 f_are_names:dq K mg "are_names" (top 35) jo
 f_pairs_by_name:dq K mg "pairs_by_name" (top 36) dW
 f_room_with_members:dq K mg "room_with_members" (top 37) cf
 f_house_of:dq K mg "house_of" (top 38) kw
 f_cell_at:dq K mg "_law_cell_at" (top 40) nu
 f_stream:dq K mg "_law_stream" (top 41) qF
 f_words:dq K mg "_law_words" (top 42) uU
 f_name_in:dq K mg "_law_name_in" (top 43) nj
 f_house_by_digits:dq K mg "_law_house_by_digits" (top 44) cF
 f_house:dq K mg "_law_house" (top 45) uX
 f_same:dq K mg "_law_same" (top 46) wH
 f_kinds:dq K mg "_law_kinds" (top 47) uW
 f_turned:dq K mg "_law_turned" (top 48) qE
 f_copied:dq K mg "_law_copied" (top 49) lV
 f_refused:dq K mg "_law_refused" (top 50) nh
 f_bent:dq K mg "_law_bent" (top 51) zQ
 f_l_is_name:dq K mg "_law_is_name" (top 52) jg
 f_rising:dq K mg "_law_rising" (top 53) qG
 f_pairs:dq K mg "_law_pairs" (top 54) uV
 f_due:dq K mg "_law_due" (top 55) Fp
 f_bent_people:dq K mg "_law_bent_people" (top 56) fL
 f_bent_rooms:dq K mg "_law_bent_rooms" (top 57) iq
 f_as_house:dq K mg "_law_as_house" (top 58) ky
 f_judged:dq K mg "_law_judged" (top 59) qH
 f_law:dq K mg "law" (top 60) Fo
 b:TopB mg B_ C_
 cl:eI K T_=a9
 bm:BMain mg base
local macro_rules | `(tactic| walk_at"bb")=>`(tactic| first|exact Km|exact GX|exact Kl|exact fY|exact Kk|exact GW|exact uu|exact Kj|exact DF)
local macro_rules | `(tactic| walk_at"tb")=>`(tactic| exact TopB.no b8 (by kernel_rfl))
local macro_rules | `(tactic| walk_at"dvr")=>`(tactic| (repeat' (first|(with_reducible first|(refine gA ?_;first|exact Jb|refine Gb ?_ ?_)|exact k_var|(refine Jx ?_;first|exact k_int|exact k_bl|exact k_non|exact k_str)|(refine gCall ?_;first|refine xX b8 ?_ dV dV|refine xY b8 b8 b8 ?_ dV (λ_ _ _ _ _ _ _ _=>?_) (by k_dflt (exact Ah (by kernel_rfl))) (by k_dflt kernel_rfl) (by k_dflt kernel_rfl) (by k_dflt (intro _ _ _ _;kernel_rfl)) (by k_dflt kernel_rfl)|refine Gf ?_ dV (by walk_at"bb") ?_|refine Dc ?_ dV (by walk_at"bb") ?_|refine k_cal b8 b8 ?_ (hj:=Nat.ble_eq_true_of_le b7)|refine Jh b8 b8 ?_|refine k_ml ?_ ?_ ?_)|(refine gIx ?_;first|refine k_rev ?_ ?_|refine Gc ?_ ?_ ?_|refine Jg b8 ?_ ?_ (hs:=by k_dflt (intro _ _;kernel_rfl))|refine k_ix ?_ ?_ (hs:=by k_dflt (intro _ _;kernel_rfl)))|(refine gT ?_;first|refine IM ?_ ?_ ?_|refine CT ?_ ?_ ?_ ?_ ?_|refine IL ?_|refine kw_t (Eg ?_ ?_)|refine kw_t (IJ ?_ ?_)|refine IK ?_)|(refine gE ?_;first|exact Jf|exact Gd (TopB.gi b8 (by kernel_rfl))|exact Jc dV (by walk_at"bb")|refine k_op ?_ ?_ ?_|refine k_un Jl ?_|refine k_not ?_|refine k_cmp ?_ ?_ ?_|refine Ge ?_ ?_ ?_ ?_ ?_|refine k_one ?_|refine k_and ?_ ?_|refine k_tup ?_|refine k_lst ?_|refine k_lcN ?_ (λ_ _ _ _=>?_) (λ_ _ _ _=>?_) (λ_ _ _ _=>?_)|refine k_lcH b8 dV ?_ (λ_ _ _ _=>?_) (λ_ _ _ _=>?_) (λ_ _ _ _=>?_)|refine Jd b8 dV ?_|refine Je b8 dV dV ?_)|(refine gS ?_;first|refine Ao ?_|refine Ej ?_|refine IR ?_ ?_ ?_|refine tV b8 ?_ (λ_ _ _ _=>?_) (λ_ _ _ _=>?_) (λ_ _ _ _=>?_)|refine Ei b8 ?_|refine El ?_ ?_|refine Eh b8 b8 ?_ (λ_=>?_)|refine Ap b8 ?_ ?_ ?_|refine Ek ?_ ?_ ?_)|(refine gOp ?_;first|exact Gq|exact ho_eq b8|exact Gp|exact ho_ge|exact ho_in b8|exact ho_is|exact ho_le|exact ho_lt|exact Jo|exact Jn|exact Go|exact ho_ne b8|exact De b8|exact Jm)|(refine gC ?_;first|exact Jr|exact Jq|exact Jp|exact Gr|exact ua b8|exact ya b8|exact Dh)|exact IP|exact FS|exact FW|exact FZ|refine IN ?_|refine Eg ?_ ?_|refine IJ ?_ ?_|refine FO ?_|refine II ?_|refine FR ?_|refine FV ?_|refine As dV ?_|refine Ar dV ?_|refine IS dV ?_|refine IT ?_|exact Ga b8|exact IW (IA (by kernel_rfl))|refine CZ ?_ ?_|refine IU ?_|refine IV ?_ ?_|refine Ef b8 b8 ?_|refine wR ?_ ?_|refine Ee ?_ (λ_ _ _ _=>?_) (λ_ _ _ _=>?_) (λ_ _ _ _=>?_)|refine IF ?_ dV (by walk_at"bb") ?_|refine IH ?_ ?_ ?_|refine Ed b8 ?_|refine Al ?_|refine tU b8 ?_|refine IG ?_|exact FN|refine Ak ?_|refine wQ ?_ ?_|exact AG|exact AF)|refine FU ?_ ?_|refine IG ?_|refine Ao ?_|refine Ej ?_|refine IR ?_ ?_ ?_|refine tV b8 ?_ (λ_ _ _ _=>?_) (λ_ _ _ _=>?_) (λ_ _ _ _=>?_)|refine Ei b8 ?_|refine El ?_ ?_|refine Eh b8 b8 ?_ (λ_=>?_)|refine Jd b8 dV ?_|refine Je b8 dV dV ?_|refine Ef b8 b8 ?_|refine wR ?_ ?_|refine Ee ?_ (λ_ _ _ _=>?_) (λ_ _ _ _=>?_) (λ_ _ _ _=>?_)|refine IF ?_ dV (by walk_at"bb") ?_|refine IH ?_ ?_ ?_|refine Ed b8 ?_|refine Al ?_|refine tU b8 ?_|refine Ak ?_|refine wQ ?_ ?_|refine Ap b8 ?_ ?_ ?_|refine Ek ?_ ?_ ?_)))
local macro_rules | `(tactic| walk_at"dv")=>`(tactic| (intro _ _ _ _ _ _ _ _ _ _;refine vH rfl ?_;walk_at"dvr"))
local macro_rules | `(tactic| walk_at"dvh")=>`(tactic| (intro _ _ _ _ _ _ _ _ _ _ _;refine vH rfl ?_;walk_at"dvr"))
local macro_rules | `(tactic| walk_at"dvx")=>`(tactic| (intro _ _ _ _ _ _ _ _ _ _;refine AD rfl ?_;walk_at"dvr"))
local macro_rules | `(tactic| walk_at"dvxl")=>`(tactic| (intro _ _ _ _ _ _ _ _ _ _ _;refine AD rfl ?_;walk_at"dvr"))
local macro_rules | `(tactic| walk_at"dvl")=>`(tactic| (intro _ _ _ _ _ _ _ _ _ _ _;refine vH rfl ?_;walk_at"dvr"))
section
variable{P:d5}{w:c9}{K:u6}{mg:c8->Option c6}{base:d8}
local macro_rules | `(tactic| walk_at"ifs")=>`(tactic| simp only[wI,C8,↓reduceIte,Mg,Bool.not_false])
noncomputable def E6(M:t7):Nat->D->Bool
 |_,.str x=>decide<|x.length<=1000
 |_,.ty _=>c5
 |n+1,.tup xs=>decide (xs.length<=60)&&xs.all (E6 M n)
 |n+1,.ref i=>match M[i]? with
  |some a=>(a.isL&&decide (a.items.length<=60))&&a.items.all (E6 M n)
  |none=>c5
 | 0,.tup _=>c5
 | 0,.ref _=>c5
 |_,_=>a9
def Dj:∀(n m:Nat) (d:D),n<=m->E6 M n d=a9->u9 M m d=a9:=by
 intro n;induction n with
 |zero =>
  intro m d _ h;cases d with
  |tup xs=>cases h
  |ref i=>cases h
  |ty t=>cases h
  |non=>exact kA
  |bl b=>exact nC
  |int i=>exact aM
  |str x=>exact da
 |succ n ih =>
  intro m d f h;cases m with
  |zero=>lia
  |succ m =>
   cases d with
   |tup xs=>have h':(decide (xs.length<=60)&&xs.all (E6 M n))=a9:=h;rw[A2,z5]at h';exact zU λx c=>ih m x b7<|h'.2 x c
   |ref i =>
    simp only[E6]at h;cases e:M[i]? with
    |none=>rw[e]at h;cases h
    |some a=>rw[e]at h;simp only[A2,z5]at h;show (match M[i]? with|some a=>a.isL&&a.items.all (u9 M m)|none=>c5)=a9;rw[e];simp only[A2,z5];exact⟨h.1.1,λx c=>ih m x b7<|h.2 x c⟩
   |ty t=>cases h
   |non=>exact kA
   |bl b=>exact nC
   |int i=>exact aM
   |str x=>exact da
def Gu:∀(n m:Nat) (d:D),n<=m->E6 M n d=a9->E6 M m d=a9:=by
 intro n;induction n with
 |zero =>
  intro m d _ h;cases d with
  |tup xs=>cases h
  |ref i=>cases h
  |ty t=>cases h
  |non=>cases m<;>rfl
  |bl b=>cases m<;>rfl
  |int i=>cases m<;>rfl
  |str x=>cases m<;>exact h
 |succ n f =>
  intro m d g h;cases m with
  |zero=>lia
  |succ m =>
   cases d with
   |tup xs=>have h':(decide (xs.length<=60)&&xs.all (E6 M n))=a9:=h;rw[A2,z5]at h';show (decide (xs.length<=60)&&xs.all (E6 M m))=a9;rw[A2,z5];exact⟨h'.1,λx c=>f m x b7<|h'.2 x c⟩
   |ref i =>
    simp only[E6]at h ⊢;cases e:M[i]? with
    |none=>rw[e]at h;cases h
    |some a=>rw[e]at h;simp only[A2,z5]at h ⊢;exact⟨h.1,λx c=>f m x b7<|h.2 x c⟩
   |ty t=>cases h
   |non=>rfl
   |bl b=>rfl
   |int i=>rfl
   |str x=>exact h
def Gv(p:M <+: M'):∀(n:Nat) (d:D),E6 M n d=a9->E6 M' n d=a9:=by
 intro n;induction n with
 |zero=>intro d h;cases d<;>first|exact h|cases h
 |succ n c =>
  intro d h;cases d with
  |tup xs=>have h':(decide (xs.length<=60)&&xs.all (E6 M n))=a9:=h;rw[A2,z5]at h';show (decide (xs.length<=60)&&xs.all (E6 M' n))=a9;rw[A2,z5];exact⟨h'.1,λx b=>c x<|h'.2 x b⟩
  |ref i =>
   simp only[E6]at h ⊢;cases e:M[i]? with
   |none=>rw[e]at h;cases h
   |some a=>rw[e]at h;obtain⟨t,rfl⟩:=p;rw[G4 (B5.mp e).1,e];simp only[A2,z5]at h ⊢;exact⟨h.1,λx b=>c x<|h.2 x b⟩
  |_=>exact h
def u4(M:t7)(n:Nat)(d:D):Prop:=n<=30/\E6 M n d=a9
def u4.ok(h:u4 M n d):u9 M v3 d=a9:=Dj n v3 d h.1 h.2
def u4.grow(h:u4 M n d)(p:M <+: M'):u4 M' n d:=⟨h.1,Gv p n d h.2⟩
def u4.mono(h:u4 M n d)(p:n<=m)(q:m<=30):u4 M m d:=⟨q,Gu n m d p h.2⟩
def u4.tup(h:u4 M n (.tup xs)):xs.length<=1000/\∃m,n=m+1/\∀x∈xs,u4 M m x:=by
 obtain⟨b,h⟩:=h;cases n with
 |zero=>cases h
 |succ n=>have h':(decide (xs.length<=60)&&xs.all (E6 M n))=a9:=h;rw[A2,z5,p6]at h';exact⟨b7,n,rfl,λx a=>⟨b7,h'.2 x a⟩⟩
def u4.mk(h:xs.length<=60)(f:n+1<=30)(a:∀x∈xs,u4 M n x):u4 M (n+1) (.tup xs):=by refine⟨f,?_⟩;show (decide (xs.length<=60)&&xs.all (E6 M n))=a9;rw[A2,z5,p6];exact⟨h,λx m=>(a x m).2⟩
def u4.mkr(h:ah M i xs)(b:n+1<=30)(c:∀x∈xs,u4 M n x)(l:xs.length<=60:=by first|lia|(simp;done)):u4 M (n+1) (.ref i):=by refine⟨b,?_⟩;obtain⟨a,f,rfl,g⟩:=h.get;simp only[E6,f,A2,z5];exact⟨⟨g,dT_ l⟩,λx m=>(c x m).2⟩
def u4.thing(h:u4 M n d):rF M d:=by
 obtain⟨c,h⟩:=h;cases d with
 |non=>exact yW
 |bl b=>exact BV
 |int i=>exact yX
 |str x=>exact yU<|by cases n<;>simpa [E6]using h
 |ty t=>cases n<;>cases h
 |tup xs=>exact yT
 |ref i =>
  cases n with
  |zero=>cases h
  |succ n =>
   simp only[E6]at h;cases e:M[i]? with
   |none=>rw[e]at h;cases h
   |some a=>rw[e]at h;simp only[A2]at h;exact yV<|iz e h.1.1
def aU(h:x.length<=1000)(f:n<=30):u4 M n (.str x):=⟨f,by cases n<;>simp[E6,h]⟩
def iC(f:n<=30):u4 M n (.int x):=⟨f,by cases n<;>rfl⟩
def Ju(f:n<=30):u4 M n (.bl x):=⟨f,by cases n<;>rfl⟩
def wX(f:n<=30):u4 M n .non:=⟨f,by cases n<;>rfl⟩
def Di(h:n+1<=30)(f:u4 M n a):u4 M (n+1) (.tup [a]):=u4.mk b9 h λx b=>by rw[Ky.mp b];exact f
def bh(h:n+1<=30)(f:u4 M n a)(d:u4 M n b):u4 M (n+1) (.tup [a,b]):=u4.mk b9 h λx c=>by rcases z7.mp c with rfl|c;exact f;rw[Ky.mp c];exact d
def Jt(h:n+1<=30)(f:u4 M n a)(e:u4 M n b)(g:u4 M n c):u4 M (n+1) (.tup [a,b,c]):=u4.mk b9 h λx d=>by rcases z7.mp d with rfl|d;exact f;rcases z7.mp d with rfl|d;exact e;rw[Ky.mp d];exact g
def bH(h:x∈cutD xs lo hi):x∈xs:=Qp<|Py h
def bU:(cutD xs lo hi).length<=xs.length:=by unfold cutD;rw[Li,MQ];lia
def aq{B:t7}{q:Nat}{x a:MO}(h:B[q]?=a7 x):(B++[a])[q]?=a7 x:=by rw[G4 (B5.mp h).1];exact h
def AK{M:t7}{n:Nat}{xs:List c8}(f:n<=30)(h:∀x∈xs,x.length<=1000):∀x∈xs.map D.str,u4 M n x:=λx a=>by obtain⟨y,O,rfl⟩:=w9.mp a;exact aU (h y O) f
def av(h:u4 M n x)(t:∀y∈xs,u4 M n y):∀y∈x::xs,u4 M n y:=λy O=>by rcases z7.mp O with rfl|O;exact h;exact t y O
def aB:∀y∈([]:List D),u4 M n y:=λ_ z=>nomatch z
def bC{M:t7}{n:Nat}{xs ys:List D}(h:∀y∈xs,u4 M n y)(t:∀y∈ys,u4 M n y):∀y∈xs++ys,u4 M n y:=λy O=>(J7.mp O).elim (h y)<|t y
def aw{M B:t7}{n:Nat}{xs:List D}(h:∀y∈xs,u4 M n y)(p:M <+: B):∀y∈xs,u4 B n y:=λy O=>(h y O).grow p
noncomputable def bv(M:t7):D->Option (List D)
 |.tup xs=>a7 xs
 |.ref i=>(M[i]?).bind λa=>if a.isL=a9 then a7 a.items else a8
 |_=>a8
def bW(h:bv M d=a7 xs):Kp M d xs:=by
 cases d with
 |tup ys=>cases h;exact .inr rfl
 |ref i =>
  have h':((M[i]?).bind λa=>if a.isL=a9 then a7 a.items else a8)=a7 xs:=h;cases e:M[i]? with
  |none=>rw[e]at h';cases h'
  |some a=>rw[e]at h';have h':(if a.isL=a9 then a7 a.items else a8)=a7 xs:=h';split at h';rename_i g;cases h';exact .inl ⟨i,rfl,iz e g⟩;cases h'
 |_=>cases h
def gB(h:Kp M d xs):bv M d=a7 xs:=by rcases h with⟨n,rfl,L⟩|rfl;obtain⟨a,f,rfl,g⟩:=L.get;show ((M[n]?).bind λa=>if a.isL=a9 then a7 a.items else a8)=_;rw[f];show (if a.isL=a9 then a7 a.items else a8)=_;rw[o8 g];rfl
theorem jO(h:bv M d=a7 xs)(L:t7):bv (M++L) d=a7 xs:=gB<|(bW h).imp (λ⟨n,e,a⟩=>⟨n,e,a.more L⟩) id
def cZ(p:M <+: B)(h:bv M d=a7 xs):bv B d=a7 xs:=by obtain⟨L,rfl⟩:=p;exact jO h L
def kW(g:u4 M n d):(∃xs,bv M d=a7 xs/\∃m,n=m+1/\∀x∈xs,u4 M m x)\/(bv M d=a8/\(fR (A0 M d) "list" || fR (A0 M d) "tuple")=c5):=by
 cases d with
 |tup xs=>obtain⟨_,m,e,h⟩:=g.tup;exact .inl ⟨xs,rfl,m,e,h⟩
 |ref i =>
  obtain⟨b,g⟩:=g;cases n with
  |zero=>cases g
  |succ n =>
   simp only[E6]at g;cases e:M[i]? with
   |none=>rw[e]at g;cases g
   |some a=>rw[e]at g;simp only[A2,z5]at g;exact .inl ⟨a.items,gB<|.inl ⟨i,rfl,iz e g.1.1⟩,n,rfl,λx h=>⟨b7,g.2 x h⟩⟩
 |ty t=>exact .inr ⟨rfl,by obtain⟨_,g⟩:=g;cases n<;>cases g⟩
 |_=>exact .inr ⟨rfl,by simp only[A0];decide⟩
def wA(h:bv M d=a7 xs):A0 M d∈qm/\(fR (A0 M d) "list" || fR (A0 M d) "tuple")=a9:=by rcases bW h with⟨n,rfl,L⟩|rfl;rw[L.ty];decide;simp only[A0];decide
def ME(mo:MO)(x:c8):Prop:=mo=.tb x c5\/∃p e,mo=.tl x p (ke x) e
def ME.no(h:ME mo x):mo.isL=c5/\mo.items=[]:=by rcases h with rfl|⟨p,e,rfl⟩<;>exact⟨rfl,rfl⟩
noncomputable def MW:c8:=x9 "pairs_by_name"
noncomputable def K3:c8:=x9 "_law_as_house"
structure Tabs(M:t7):Prop where
 x:∃a,M[1]?=a7 a/\ME a MW
 y:∃b,M[2]?=a7 b/\ME b K3
def TM(M B:t7):Prop:=∃a b,ME a MW/\ME b K3/\B=(M.set 1 a).set 2 b
section
variable{M B C:t7}
def Tabs.lt(t:Tabs M):2<M.length:=by obtain⟨b,d,_⟩:=t.y;exact(B5.mp d).1
def TM.len(h:TM M B):B.length=M.length:=by obtain⟨a,b,_,_,rfl⟩:=h;rw[Ld,Ld]
def TM.get(h:TM M B)(h1:i≠1)(h2:i≠2):B[i]?=M[i]?:=by obtain⟨a,b,_,_,rfl⟩:=h;rw[KO<|A8 h2,KO<|A8 h1]
def TM.tabs(h:TM M B)(t:Tabs M):Tabs B:=by have l:=t.lt;obtain⟨a,b,f,d,rfl⟩:=h;refine⟨⟨a,?_,f⟩,⟨b,?_,d⟩⟩;rw[KO b0,Lj<|by lia];rw[Lj<|by rw[Ld];exact l]
def wa(t:Tabs M)(f:ME a MW)(d:ME b K3)(l:B.length=M.length)(h1:B[1]?=a7 a)(h2:B[2]?=a7 b)(h:∀i,i≠1->i≠2->B[i]?=M[i]?):TM M B:=by have lt:=t.lt;refine⟨a,b,f,d,List.ext_getElem? λi=>?_⟩;by_cases c:i=2;subst c;rw[h2,Lj<|by rw[Ld];exact lt];rw[KO<|A8 c];by_cases e:i=1;subst e;rw[h1,Lj<|by lia];rw[KO<|A8 e,h i e c]
def TM.now(t:Tabs M):TM M M:=by obtain⟨a,f,l⟩:=t.x;obtain⟨b,d,p⟩:=t.y;exact wa t l p rfl f d λ_ _ _=>rfl
def TM.trans(t:Tabs M)(h:TM M B)(k:TM B C):TM M C:=by obtain⟨a,f,l⟩:=(k.tabs<|h.tabs t).x;obtain⟨b,d,p⟩:=(k.tabs<|h.tabs t).y;exact wa t l p (k.len.trans h.len) f d λi h1 h2=>(k.get h1 h2).trans<|h.get h1 h2
def TM.setX(t:Tabs M)(h:TM M B):TM M (B.set 1<|.tl MW p (ke MW) e):=by have l:=h.len;have lt:=t.lt;obtain⟨b,d,a⟩:=(h.tabs t).y;exact wa t (.inr ⟨p,e,rfl⟩) a (by rw[Ld];exact l) (Lj<|by lia) (by rw[KO<|by decide];exact d) λi h1 h2=>by rw[KO<|A8 h1];exact h.get h1 h2
def TM.setY(t:Tabs M)(h:TM M B):TM M (B.set 2<|.tl K3 p (ke K3) e):=by have l:=h.len;have lt:=t.lt;obtain⟨a,f,b⟩:=(h.tabs t).x;exact wa t b (.inr ⟨p,e,rfl⟩) (by rw[Ld];exact l) (by rw[KO<|by decide];exact f) (Lj<|by lia) λi h1 h2=>by rw[KO<|A8 h2];exact h.get h1 h2
def Tabs.atX(t:Tabs M):GZ M 1 MW p:=by obtain⟨a,f,rfl|⟨q,e,rfl⟩⟩:=t.x;exact .inl f;exact .inr ⟨q,e,f⟩
def Tabs.atY(t:Tabs M):GZ M 2 K3 p:=by obtain⟨a,f,rfl|⟨q,e,rfl⟩⟩:=t.y;exact .inl f;exact .inr ⟨q,e,f⟩
def TM.chg(h:TM M B):LA M B:=by obtain⟨a,b,f,d,rfl⟩:=h;exact LA.set (LA.set .refl<|by rw[f.no.2];exact .nil)<|by rw[d.no.2];exact .nil
def TM.row(t:Tabs M)(h:TM M B)(d:D):bv B d=bv M d:=by
 cases d with
 |ref i =>
  show ((B[i]?).bind λa=>if a.isL=a9 then a7 a.items else a8)=((M[i]?).bind λa=>if a.isL=a9 then a7 a.items else a8)
  have n:∀{N:t7}{a:MO}{x:c8},N[i]?=a7 a->ME a x->((N[i]?).bind λa=>if a.isL=a9 then a7 a.items else a8)=a8:=λ{N a x} e p=>by rw[e];show (if a.isL=a9 then a7 a.items else a8)=a8;rw[p.no.1,p0<|by decide]
  by_cases g:i=1;subst g;obtain⟨a,f,l⟩:=t.x;obtain⟨k,c,b⟩:=(h.tabs t).x;rw[n f l,n c b];by_cases j:i=2;subst j;obtain⟨a,f,l⟩:=t.y;obtain⟨k,c,b⟩:=(h.tabs t).y;rw[n f l,n c b];rw[h.get g j]
 |_=>rfl
def Tabs.pre(t:Tabs M)(p:M <+: B):Tabs B:=by obtain⟨L,rfl⟩:=p;have l:=t.lt;obtain⟨⟨a,f,c⟩,⟨b,d,e⟩⟩:=t;exact⟨⟨a,by rw[G4<|by lia];exact f,c⟩,⟨b,by rw[G4 l];exact d,e⟩⟩
def TM.app(t:Tabs M)(h:TM (M++L) B):∃N,TM M N/\B=N++L:=by have l:=t.lt;obtain⟨a,b,f,d,rfl⟩:=h;exact⟨(M.set 1 a).set 2 b,⟨a,b,f,d,rfl⟩,by rw[Qo _ _ b7,Qo _ _<|by rw[Ld];exact l]⟩
end
def Jv:∀(n:Nat) (d:D),E6 M n d=a9->D5 M.length d:=by
 intro n;induction n with
 |zero =>
  intro d h;cases d with
  |tup xs=>cases h
  |ref i=>cases h
  |ty t=>cases h
  |non=>exact .non
  |bl b=>exact .bl b
  |int i=>exact .int i
  |str x=>exact .str x
 |succ n f =>
  intro d h;cases d with
  |tup xs=>have h':(decide (xs.length<=60)&&xs.all (E6 M n))=a9:=h;rw[A2]at h';exact .tup<|Bels.of λx c=>f x<|z5.mp h'.2 x c
  |ref i =>
   simp only[E6]at h;cases e:M[i]? with
   |none=>rw[e]at h;cases h
   |some a=>exact .ref (B5.mp e).1
  |ty t=>cases h
  |non=>exact .non
  |bl b=>exact .bl b
  |int i=>exact .int i
  |str x=>exact .str x
def gd_tm(t:Tabs M)(k:TM M B):∀(n:Nat) (d:D),E6 M n d=a9->E6 B n d=a9:=by
 intro n;induction n with
 |zero=>intro d h;cases d<;>first|exact h|cases h
 |succ n g =>
  intro d h;cases d with
  |tup xs=>have h':(decide (xs.length<=60)&&xs.all (E6 M n))=a9:=h;show (decide (xs.length<=60)&&xs.all (E6 B n))=a9;rw[A2,z5]at h' ⊢;exact⟨h'.1,λx f=>g x<|h'.2 x f⟩
  |ref i =>
   simp only[E6]at h ⊢;cases e:M[i]? with
   |none=>rw[e]at h;cases h
   |some a =>
    rw[e]at h;simp only[A2,z5]at h;have j:i≠1:=λz=>by obtain⟨b,c,p⟩:=t.x;rw[z,c]at e;cases e;rw[p.no.1]at h;cases h.1.1
    have o:i≠2:=λz=>by obtain⟨b,c,p⟩:=t.y;rw[z,c]at e;cases e;rw[p.no.1]at h;cases h.1.1
    rw[k.get j o,e];simp only[A2,z5];exact⟨h.1,λx f=>g x<|h.2 x f⟩
  |_=>exact h
def u4.tm(g:u4 M n d)(t:Tabs M)(k:TM M B):u4 B n d:=⟨g.1,gd_tm t k n d g.2⟩
def u4.bel(g:u4 M n d):D5 M.length d:=Jv n d g.2
def qd(g:u4 M n d)(h:bv M d=a7 xs):xs.length<=60:=by
 obtain⟨_,g⟩:=g;rcases bW h with⟨i,rfl,L⟩|rfl;cases n with
 |zero=>cases g
 |succ n=>obtain⟨a,f,rfl,l⟩:=L.get;simp only[E6,f,A2,p6]at g;exact g.1.2
 cases n with
 |zero=>cases g
 |succ n=>have b:(decide (xs.length<=60)&&xs.all (E6 M n))=a9:=g;rw[A2,p6]at b;exact b.1
def Lk(M:t7)(d:D):Prop:=u4 M 5 d/\∃xs,bv M d=a7 xs
def jd(h:xs.length<=60)(f:4+1<=30)(a:∀x∈xs,u4 M 4 x):Lk M (.tup xs):=⟨u4.mk h f a,xs,rfl⟩
def Gs(h:ah M i xs)(f:4+1<=30)(a:∀x∈xs,u4 M 4 x)(l:xs.length<=60):Lk M (.ref i):=⟨u4.mkr h f a l,xs,gB<|.inl ⟨_,rfl,h⟩⟩
def s9{n:Nat}(h:n<=9:=by decide):n<=sizeLine:=ag<|by lia
noncomputable def yM:D->Bool
 |.int _=>a9
 |_=>c5
def gq:A7:=λds M R=>∃d,ds=[d]/\A0 M d∈qm/\R (.bl<|yM d) M
def tN:fu gq kt:=by rintro ds M R ⟨d,rfl,_⟩;rfl
def pG:t9:=be<|eu (u0 fF<|aa (ac 0)<|aa (dC<|.ty "int") af)<|Bf<|u0 fF<|aa (ac 0)<|aa (dC<|.ty "bool") af
def ux:D7 gq 1 pG:=by
 rintro ds M R ⟨d,rfl,D,h⟩;unfold pG;cases d with
 |ref n=>have e:=cS D;simp only[A0]at e;walk_at"dl";simp only[e];exact⟨b0,fP<|aE.now h⟩
 |ty n=>simp only[A0]at D;exact p5 D<|by decide
 |int i=>walk_at"dl";exact⟨b0,eG ⟨b0,aE.now h⟩⟩
 |bl i=>walk_at"dl";exact⟨b0,eG ⟨b0,aE.now h⟩⟩
 |_=>walk_at"dl";exact⟨b0,fP<|aE.now h⟩
def va(T:Tops P w K mg base):w4 P w K mg base 1 "is_whole" kt gq:=w4.byD (N:=["thing"]) T.b T.f_is_whole dz tN d4 ux
noncomputable def jA(k:Int):D->Bool
 |.int i=>decide<|k<=i
 |_=>c5
def cc:A7:=λds M R=>∃(k:Int) (d:D),ds=[.int k,d]/\A0 M d∈qm/\R (.bl<|jA k d) M
def kC:fu cc dY:=by rintro ds M R ⟨k,d,rfl,_⟩;rfl
def gQ:t9:=be<|eu (u0 gq<|aa (ac 1) af)<|t6 NR (ac 1)<|ac 0
def lB:D7 cc 2 gQ:=by
 rintro ds M R ⟨k,d,rfl,D,h⟩;unfold gQ;walk_at"dl";refine⟨d,rfl,D,?_⟩;cases d with
 |int i=>simp only[yM,↓reduceIte];exact aE.now h
 |_=>simp only[yM,C8,↓reduceIte];exact aE.now h
def lD(T:Tops P w K mg base):w4 P w K mg base 2 "is_whole_from" dY cc:=w4.byD (N:=["least","thing"]) T.b T.f_is_whole_from dz kC (by have:=va T;walk_at"dv") lB
noncomputable def iU(k:Int):D->Bool
 |.tup xs=>(xs.length:Int)==k
 |_=>c5
def aV:A7:=λds M R=>∃(k:Int) (d:D),ds=[.int k,d]/\A0 M d∈qm/\R (.bl<|iU k d) M
def nK:fu aV fG:=by rintro ds M R ⟨k,d,rfl,_⟩;rfl
def jD:t9:=be<|eu (u0 fF<|aa (ac 1)<|aa (dC<|.ty "tuple") af)<|t6 G5 (u0 jR<|aa (ac 1) af)<|ac 0
def oz:D7 aV 2 jD:=by
 rintro ds M R ⟨k,d,rfl,D,h⟩;unfold jD;cases d with
 |ref n=>have e:=cS D;simp only[A0]at e;walk_at"dl";simp only[e];exact⟨b0,fP<|aE.now h⟩
 |ty n=>simp only[A0]at D;exact p5 D<|by decide
 |tup xs=>walk_at"dl";exact⟨b0,eG ⟨⟨rfl,rfl⟩,aE.now h⟩⟩
 |_=>walk_at"dl";exact⟨b0,fP<|aE.now h⟩
def cL(T:Tops P w K mg base):w4 P w K mg base 1 "is_tuple_of" fG aV:=w4.byD (N:=["many","thing"]) T.b T.f_is_tuple_of dz nK d4 oz
def aZ:A7:=λds M R=>∃d:D,ds=[d]/\A0 M d∈qm/\R (.bl<|fR (A0 M d) "list" || fR (A0 M d) "tuple") M
def iW:fu aZ cw:=by rintro ds M R ⟨d,rfl,_⟩;rfl
def eB:t9:=be<|u0 fF<|aa (ac 0)<|aa (bc<|aa (dC<|.ty "list")<|aa (dC<|.ty "tuple") af) af
def jf:D7 aZ 1 eB:=by rintro ds M R ⟨d,rfl,D,h⟩;simp only[eB];simp only[EE,be,u0,aa,ac,bc,dC,af,Op,B9,Me,LH,E9,LY,LR,D4,Ix,Nat.reduceAdd,LD,Nm];exact⟨s9,⟨D,b0,b0⟩,aE.now h⟩
def dZ(T:Tops P w K mg base):w4 P w K mg base 1 "is_list_or_tuple" cw aZ:=w4.byD (N:=["thing"]) T.b T.f_is_list_or_tuple dz iW d4 jf
noncomputable def bB:List c8->Bool
 |a::b::r=>aA a b&&bB (b::r)
 |_=>a9
theorem qB:∀xs:List c8,((B7<|xs.length-1).map λi=>aA (xs.getD i default)<|xs.getD (i+1) default).all id=bB xs
 | []=>rfl
 | [a]=>rfl
 |a::b::r=>by
  have ih:=qB<|b::r;have e:(a::b::r).length-1=(b::r).length-1+1:=by simp
  rw[e,List.range_succ_eq_map,B9,B8,KL];show (aA a b&&_)=(aA a b&&bB (b::r))
  rw[<-ih];rfl
def yS(h:DJ M d xs)(q:Q (.int (xs.length:Int)) M):jR [d] M Q:=by rcases h with⟨n,rfl,L⟩|rfl;exact⟨_,L,by rw[v5];exact q⟩;show Q (.int ((xs.map D.str).length:Int)) M;rw[v5];exact q
def vZ{M:t7}{d:D}{xs:List c8}(h:DJ M d xs){Q:DK}{i:Int}(c:0<=i)(h1:i<xs.length)(q:Q (.str<|xs.getD i.toNat default) M):v9 d (.int i) M Q:=by
 have b:i.toNat<xs.length:=by lia
 have e:atI (xs.map D.str) i=a7 (.str<|xs.getD i.toNat default):=by
  have a:i=((i.toNat:Nat):Int):=by lia
  have:=aY (j:=i.toNat)<|show (xs.map D.str)[i.toNat]?=a7 (.str<|xs.getD i.toNat default) by simp[b,G8]
  rwa [<-a]at this
 rcases h with⟨n,rfl,L⟩|rfl;refine⟨_,L,?_⟩;rw[e];exact q;show match atI (xs.map D.str) i with|some d=>Q d M|none=>False
 rw[e];exact q
def cj:A7:=λds M R=>∃(d:D) (xs:List c8),ds=[d]/\DJ M d xs/\xs.length<=1000/\R (.bl<|bB xs) M
def qO:fu cj jh:=by rintro ds M R ⟨d,xs,rfl,_⟩;rfl
def mE:t9:=be<|u0 yB<|aa (E4 1 [0] (jv<|aa (dC<|.int 1)<|aa (u0 jR<|aa (ac 0) af) af) (al 0) kg<|t6 MX (t6 v9 (ac 1)<|t6 BB (ac 0)<|dC<|.int 1)<|t6 v9 (ac 1)<|ac 0) af
def rL:D7 cj 1 mE:=by
 rintro ds M R ⟨d,xs,rfl,x,g,h⟩;simp only[mE,be,u0,aa,af,E4,jv,dC,ac,bp,Er,B9,Me,LH,E9,LY,MC,D4,Ix,Nm,Mz,LD,LR];refine yS x ⟨⟨b7,b7,b7,b7⟩,?_⟩;have c:(((xs.length:Int)-1).toNat)=xs.length-1:=by lia
 rw[c];refine aN (λk=>match k with|.int i=>.bl (aA (xs.getD (i-1).toNat default)<|xs.getD i.toNat default)|_=>.non) (λS=>∃a,S=[a,a7 d]) trivial _ _ _ ?_ ⟨_,rfl⟩ ?_ ?_;rintro y O S ⟨a,rfl⟩;obtain⟨i,hi⟩:=LV O;obtain⟨h1,rfl⟩:=bx.mp hi;refine⟨[a7<|.int<|1+(i:Int),a7 d],⟨_,rfl⟩,λY b=>?_⟩;simp only[al,t6,ac,dC,BB,List.set_cons_zero,LY,MC,LR];refine vZ x b7 b7<|vZ x b7 b7 ?_;exact b;simp only[Ix,bb];exact ag b7;refine⟨(B7<|xs.length-1).map λi=>aA (xs.getD i default)<|xs.getD (i+1) default,?_,?_⟩;rw[E9];have:(kY 1<|xs.length-1).map (λk=>match k with|.int i=>D.bl (aA (xs.getD (i-1).toNat default)<|xs.getD i.toNat default)|_=>.non)=bls ((B7<|xs.length-1).map λi=>aA (xs.getD i default)<|xs.getD (i+1) default):=by unfold kY bls;rw[B8,B8];refine LU λi _=>?_;show D.bl _=D.bl _;rw[show ((1:Int)+(i:Int)-1).toNat=i by lia,show ((1:Int)+(i:Int)).toNat=i+1 by lia]
 rw[this];exact ae;rw[qB];exact aE.bl h aL
def ir(T:Tops P w K mg base):w4 P w K mg base 1 "is_rising" jh cj:=w4.byD (N:=["things"]) T.b T.f_is_rising dz qO d4 rL
noncomputable def fS(x:c8):Bool:=!aA x "a" && !aA "z" x
def eJ:A7:=λds M R=>∃x:c8,ds=[.str x]/\R (.bl<|fS x) M
def qP:fu eJ ji:=by rintro ds M R ⟨x,rfl,_⟩;rfl
def mG:t9:=be<|gF K7 K7 (dC<|.str "a") (ac 0)<|dC<|.str "z"
def rM:D7 eJ 1 mG:=by
 rintro ds M R ⟨x,rfl,h⟩;unfold mG;walk_at"dl";unfold fS at h;cases e:aA x "a" with
 |true=>rw[e]at h;exact fP<|aE.now h
 |false=>rw[e]at h;exact eG<|aE.now h
def tq(T:Tops P w K mg base):w4 P w K mg base 1 "is_letter" ji eJ:=w4.byD (N:=["sign"]) T.b T.f_is_letter dz qP d4 rM
noncomputable def bT(c:Nat):Bool:=decide (97<=c)&&decide (c<=122)
noncomputable def aH:D->Bool
 |.str x=>decide (1<=x.length)&&decide (x.length<=8)&&x.cps.toList.all bT
 |_=>c5
def tX(c:Nat):fS ⟨#[c]⟩=bT c:=by
 have t:aA ⟨#[c]⟩ "a" = decide (c<97):=by unfold aA;rw[show (x9 "a").cps.toList=[97]from by decide +kernel,NF];simp[LX]
 have l:aA "z" ⟨#[c]⟩=decide (122<c):=by unfold aA;rw[show (x9 "z").cps.toList=[122]from by decide +kernel,NF];simp[LX]
 unfold fS bT;rw[t,l,NF];simp
def cI:A7:=λds M R=>∃d,ds=[d]/\rF M d/\R (.bl<|aH d) M
def vB:fu cI nq:=by rintro ds M R ⟨x,rfl,_⟩;rfl
def zv(x:c8):((kr x).map λd=>match d with|.str y=>D.bl (fS y)|_=>.bl c5)=bls (x.cps.toList.map bT):=by unfold kr bls;rw[B8,B8];refine LU λc _=>?_;show D.bl (fS ⟨#[c]⟩)=D.bl (bT c);rw[tX]
def mF:t9:=be<|eu (gF K7 K7 (dC<|.int 1) (u0 jR<|aa (ac 0) af)<|dC<|.int 8)<|u0 yB<|aa (E4 1 [] (bK<|ac 0) (al 0) kg<|u0 eJ<|aa (ac 0) af) af
def sD:t9:=aC (A6 (cM<|ar<|u0 fF<|aa (ac 0)<|aa (dC<|.ty "str") af) (be<|dC<|.bl c5) aK)<|mF
def xv:D7 cI 1 sD:=by
 rintro ds M R ⟨d,rfl,⟨f,l⟩,h⟩;simp only[sD,mF];cases d with
 |str x=>have j:=l x rfl;walk_at"dl";refine⟨b0,?_⟩;rw[show fR "str" "str" = a9 from rfl];refine fP ⟨j,?_⟩;simp only[aH]at h;by_cases h1:1<=x.length;rw[dT_ h1]at h;rw[dT_<|show (1:Int)<=(x.length:Int) by lia];refine eG ?_;by_cases i:x.length<=8;rw[dT_ i]at h;rw[dT_<|show (x.length:Int)<=8 by lia];refine eG ?_;refine aN (λd=>match d with|.str y=>D.bl (fS y)|_=>.bl c5) (λS=>∃a,S=[a]) trivial _ _ _ ?_ ⟨_,rfl⟩ ?_ ?_;rintro y O S ⟨a,rfl⟩;obtain⟨c,_,rfl⟩:=w9.mp O;exact⟨_,⟨_,rfl⟩,λY g=>⟨_,rfl,g⟩⟩;simp only[kr,v5,Ix,Nat.zero_add,<-jr];exact ag b7;refine⟨x.cps.toList.map bT,?_,?_⟩;rw[E9,zv];exact ae;refine aE.bl ?_ aL;simpa using h;rw[dF_ i]at h;rw[dF_<|show ¬(x.length:Int)<=8 by lia];refine fP<|aE.now ?_;simpa using h;rw[dF_ h1]at h;rw[dF_<|show ¬(1:Int)<=(x.length:Int) by lia];exact fP<|aE.now<|by simpa using h
 |non=>walk_at"dl";exact⟨b0,eG<|aE.now h⟩
 |bl b=>walk_at"dl";exact⟨b0,eG<|aE.now h⟩
 |int b=>walk_at"dl";exact⟨b0,eG<|aE.now h⟩
 |tup b=>walk_at"dl";exact⟨b0,eG<|aE.now h⟩
 |ty b=>exact p5 f<|by simp only[A0];decide
 |ref n=>have e:=cS f;simp only[A0]at e;walk_at"dl";rw[e];exact⟨b0,eG<|aE.now h⟩
def kz(T:Tops P w K mg base):w4 P w K mg base 2 "is_name" nq cI:=w4.byD (N:=["thing"]) T.b T.f_is_name dz vB (by have:=tq T;walk_at"dv") xv
noncomputable def dh:D->D
 |.tup (a::_)=>a
 |_=>.non
def bM:A7:=λds M R=>∃xs:List D,ds.map (bv M)=[a7 xs]/\(∀x∈xs,∃a r,x=.tup (a::r))/\R (.ref M.length) (M++[.lst<|xs.map dh])
def zR(h:ds.map (bv M)=[a7 xs]):∃d,ds=[d]/\bv M d=a7 xs:=by
 cases ds with
 |nil=>cases h
 |cons d ds=>rw[B9]at h;injection h with h1 h2;rw[List.map_eq_nil_iff]at h2;subst h2;exact⟨d,rfl,h1⟩
def qS:fu bM jn:=by rintro ds M R ⟨xs,e,_⟩;obtain⟨d,rfl,_⟩:=zR e;rfl
def mJ:t9:=be<|E4 1 [] (bK<|ac 0) (al 0) kg<|t6 v9 (ac 0)<|dC<|.int 0
def rP:D7 bM 1 mJ:=by
 rintro ds M R ⟨xs,e,x,h⟩;obtain⟨d,rfl,f⟩:=zR e;simp only[mJ];walk_at"dl";have n:∀{ok:t7->Prop},ok M->xs.length<=sizeLine->fX ok (al 0) kg (t6 v9 (ac 0)<|dC<|.int 0) (aE M R) xs [] [a8] M:=λ{ok} k z=>by refine aN dh (λS=>∃a,S=[a]) k _ _ _ ?_ ⟨_,rfl⟩ (by simpa using z)<|.inl h;rintro y O S ⟨a,rfl⟩;obtain⟨b,r,rfl⟩:=x y O;refine⟨[a7<|.tup<|b::r],⟨_,rfl⟩,λY c=>?_⟩;walk_at"dl";exact c
 rcases bW f with⟨i,rfl,L⟩|rfl;exact⟨xs,L,λz=>n L z⟩;exact λz=>n trivial z
def eF(T:Tops P w K mg base):w4 P w K mg base 1 "firsts_of" jn bM:=w4.byD (N:=["pairs"]) T.b T.f_firsts_of dz qS d4 rP
noncomputable def aG(p:c8×Int):D:=.tup [.str p.1,.int p.2]
noncomputable def bg:D->Bool
 |.tup [a,.int k]=>aH a&&(decide (1<=k)&&decide (k<=3))
 |_=>c5
def cN:A7:=λds M R=>∃(n:Nat) (d:D),ds=[d]/\u4 M n d/\R (.bl<|bg d) M
def nL:fu cN fJ:=by rintro ds M R ⟨n,d,rfl,_⟩;rfl
def gM(d:D):(∃a b,d=.tup [a,b])\/(iU 2 d=c5/\∀a b,d≠.tup [a,b]):=by
 cases d with
 |tup xs =>
  match xs with
  | []=>exact .inr ⟨rfl,λ_ _ z=>by simp at z⟩
  | [_]=>exact .inr ⟨rfl,λ_ _ z=>by simp at z⟩
  | [a,b]=>exact .inl ⟨a,b,rfl⟩
  |_::_::_::_=>exact .inr ⟨by simp[iU];lia,λ_ _ z=>by simp at z⟩
 |_=>exact .inr ⟨rfl,λ_ _ z=>by cases z⟩
def pS(h:∀a b,d≠.tup [a,b]):bg d=c5:=by unfold bg;split;exact p5 rfl<|h _ _;rfl
def gZ:t9:=be<|eu (u0 cI<|aa (t6 v9 (ac 0)<|dC<|.int 0) af)<|eu (u0 cc<|aa (dC<|.int 1)<|aa (t6 v9 (ac 0)<|dC<|.int 1) af)<|t6 K7 (t6 v9 (ac 0)<|dC<|.int 1)<|dC<|.int 3
def jF:t9:=aC (A6 (cM<|ar<|u0 aV<|aa (dC<|.int 2)<|aa (ac 0) af) (be<|dC<|.bl c5) aK)<|gZ
def oA:D7 cN 1 jF:=by
 rintro ds M R ⟨n,d,rfl,g,h⟩;simp only[jF,gZ];simp only[aC,A6,cM,ar,be,eu,u0,aa,af,dC,ac,aK,bp,B9,Me,LH,E9,LY,MC,D4,Ix,Nm,LD,LR];refine⟨2,d,rfl,g.thing.1,?_⟩;rcases gM d with⟨a,b,rfl⟩|⟨t,l⟩
 obtain⟨_,m,rfl,x⟩:=g.tup;have i:=x a b9;have f:=x b b9;walk_at"dl";refine fP ⟨a,rfl,i.thing,?_⟩;cases c:aH a with
 |false =>
  have e:bg (.tup [a,b])=c5:=by cases b<;>simp[bg,c]
  rw[e]at h;walk_at"ifs";exact aE.now h
 |true =>
  walk_at"ifs";refine⟨1,b,rfl,f.thing.1,?_⟩;cases b with
  |int k=>simp only[bg,c,Nf]at h;by_cases h1:1<=k;rw[dT_ h1]at h;simp only[jA,dT_ h1];walk_at"ifs";exact aE.now h;rw[dF_ h1]at h;simp only[jA,dF_ h1];walk_at"ifs";exact aE.now h
  |_=>simp only[jA];walk_at"ifs";exact aE.now h
 rw[pS l]at h;rw[t];walk_at"ifs";exact aE.now h
def oG(T:Tops P w K mg base):w4 P w K mg base 3 "fits_person" fJ cN:=w4.byD (N:=["thing"]) T.b T.f_fits_person dz nL (by have:=lD T;have:=cL T;have:=kz T;walk_at"dv") oA
noncomputable def au:D->c8
 |.tup (.str a::_)=>a
 |_=>default
noncomputable def dU:D->Bool
 |.tup xs=>(decide (1<=xs.length)&&decide (xs.length<=4))&&(xs.all bg&&bB (xs.map au))
 |_=>c5
def dm:A7:=λds M R=>∃(n:Nat) (d:D),ds=[d]/\u4 M n d/\R (.bl<|dU d) M
def oN:fu dm ip:=by rintro ds M R ⟨n,d,rfl,_⟩;rfl
def eY(h:aH a=a9):∃x,a=.str x:=by cases a<;>first|exact⟨_,rfl⟩|cases h
def mX(h:bg d=a9):∃x k,d=.tup [.str x,.int k]:=by unfold bg at h;split at h;rw[A2]at h;obtain⟨x,rfl⟩:=eY h.1;exact⟨_,_,rfl⟩;cases h
def fe{xs:List D}(h:∀x∈xs,∃a r,x=.tup (.str a::r)):xs.map dh=(xs.map au).map .str:=by rw[B8];refine LU λx b=>?_;obtain⟨a,r,rfl⟩:=h x b;rfl
def kI(M:t7)(g:u4 M n d):(∃xs,d=.tup xs)\/((fR (A0 M d) "tuple")=c5/\∀xs,d≠.tup xs):=by
 cases d with
 |tup xs=>exact .inl ⟨xs,rfl⟩
 |ref i=>exact .inr ⟨by rw[cS g.thing.1];decide,λ_ z=>by cases z⟩
 |ty t=>exact .inr ⟨by simp only[A0];decide,λ_ z=>by cases z⟩
 |_=>exact .inr ⟨by simp only[A0];decide,λ_ z=>by cases z⟩
def kD{xs:List D}:(decide ((1:Int)<=(xs.length:Int))=decide (1<=xs.length))/\decide ((xs.length:Int)<=4)=decide (xs.length<=4):=by constructor<;>(rw[NF,p6,p6];lia)
def iX:t9:=be<|eu (u0 yB<|aa (E4 1 [] (bK<|ac 0) (al 0) kg<|u0 cN<|aa (ac 0) af) af)<|u0 cj<|aa (u0 bM<|aa (ac 0) af) af
def kN:t9:=aC (A6 (Fn (cM<|ar<|u0 fF<|aa (ac 0)<|aa (dC<|.ty "tuple") af)<|cM<|ar<|gF K7 K7 (dC<|.int 1) (u0 jR<|aa (ac 0) af)<|dC<|.int 4) (be<|dC<|.bl c5) aK)<|iX
theorem qi:D7 dm 1 kN:=by
 rintro ds M R ⟨n,d,rfl,g,h⟩;simp only[kN,iX];rcases kI M g with⟨xs,rfl⟩|⟨t,l⟩
 obtain⟨o,m,rfl,i⟩:=g.tup;walk_at"dl";refine⟨b0,?_⟩;rw[show fR "tuple" "tuple" = a9 from rfl];walk_at"ifs";rw[kD.1,kD.2];simp only[dU]at h;by_cases h1:1<=xs.length;rw[dT_ h1]at h ⊢;walk_at"ifs";by_cases c:xs.length<=4;rw[dT_ c]at h ⊢;walk_at"ifs";intro z;refine aN (λd=>.bl<|bg d) (λS=>∃a,S=[a]) trivial _ _ _ ?_ ⟨_,rfl⟩ ?_ ?_;rintro y O S ⟨a,rfl⟩;exact⟨[a7 y],⟨_,rfl⟩,λY j=>⟨m,y,rfl,i y O,j⟩⟩;simpa using z;refine⟨xs.map bg,?_,?_⟩;rw[E9];exact(show ah _ _ (bls<|xs.map bg) by unfold bls;rw[B8];exact ae);cases f:(xs.map bg).all id with
 |false=>rw[KD]at f;rw[show xs.all bg=c5 from f]at h;walk_at"ifs";exact aE.bl h aL
 |true =>
  walk_at"ifs";rw[KD]at f;have p:∀x∈xs,∃a r,x=.tup (.str a::r):=λx b=>by obtain⟨a,k,e⟩:=mX<|z5.mp f x b;exact⟨a,_,e⟩
  refine⟨xs,rfl,λx b=>let ⟨a,r,e⟩:=p x b;⟨_,_,e⟩,?_⟩;rw[fe p];refine⟨_,xs.map au,rfl,.inl ⟨_,rfl,ae⟩,el,?_⟩;rw[show xs.all bg=a9 from f]at h;exact aE.bl h<|by rw[F0];exact Kv _ _
 rw[dF_ c]at h ⊢;walk_at"ifs";exact aE.now h;rw[dF_ h1]at h ⊢;walk_at"ifs";exact aE.now h;have e:dU d=c5:=by unfold dU;split;exact p5 rfl<|l _;rfl
 rw[e]at h;walk_at"dl";refine⟨⟨g.thing.1,b0⟩,?_⟩;simp only[A0]at t;rw[t];walk_at"ifs";exact aE.now h
def qI(T:Tops P w K mg base):w4 P w K mg base 4 "fit_people" ip dm:=w4.byD (N:=["thing"]) T.b T.f_fit_people dz oN (by have:=ir T;have:=eF T;have:=oG T;walk_at"dv") qi
noncomputable def KQ(ns:List c8):D->Bool
 |.str x=>ns.any λn=>n==x
 |_=>c5
noncomputable def unT:D->c8
 |.str x=>x
 |_=>default
noncomputable def cb(ns:List c8):D->Bool
 |.tup xs=>decide (1<=xs.length)&&(xs.all (KQ ns)&&bB (xs.map unT))
 |_=>c5
def cO:A7:=λds M R=>∃(n i:Nat) (d:D) (ns:List c8),ds=[d,.ref i]/\u4 M n d/\ah M i (ns.map .str)/\R (.bl<|cb ns d) M
def nM:fu cO fK:=by rintro ds M R ⟨n,i,d,ns,rfl,_⟩;rfl
def qX:Ml M d (ns.map .str)=KQ ns d:=by
 unfold Ml KQ;rw[List.any_map];cases d with
 |str x=>rfl
 |_=>rw[List.any_eq_false];intro y O;show ¬(u8 M v3 (.str y) _=a9);simp[u8]
def zh{M:t7}{ns:List c8}:(ns.map D.str).all (u9 M v3)=a9:=by rw[z5];intro x h;obtain⟨a,_,rfl⟩:=w9.mp h;exact da
def qV(h:KQ ns d=a9):∃x,d=.str x:=by cases d<;>first|exact⟨_,rfl⟩|cases h
def mh{xs:List D}(h:∀x∈xs,∃a,x=.str a):(xs.map unT).map D.str=xs:=by
 rw[B8]
 conv=>rhs;rw[<-KU xs]
 refine LU λx b=>?_;obtain⟨a,rfl⟩:=h x b;rfl
def hV:t9:=be<|eu (u0 yB<|aa (E4 1 [1] (bK<|ac 0) (al 0) kg<|t6 P0 (ac 0)<|ac 1) af)<|u0 cj<|aa (ac 0) af
def jH:t9:=aC (A6 (Fn (cM<|ar<|u0 fF<|aa (ac 0)<|aa (dC<|.ty "tuple") af)<|ar<|t6 G5 (u0 jR<|aa (ac 0) af)<|dC<|.int 0) (be<|dC<|.bl c5) aK)<|hV
theorem oB:D7 cO 2 jH:=by
 rintro ds M R ⟨n,i,d,ns,rfl,g,L,h⟩;simp only[jH,hV];rcases kI M g with⟨xs,rfl⟩|⟨t,l⟩
 obtain⟨o,m,rfl,j⟩:=g.tup;walk_at"dl";refine⟨b0,?_⟩;rw[show fR "tuple" "tuple" = a9 from rfl];walk_at"ifs";refine⟨⟨aM,aM⟩,?_⟩;rw[cG];simp only[cb]at h;by_cases h1:1<=xs.length;rw[dT_ h1]at h;rw[show (((xs.length:Int)==0))=c5 by simp;intro z;rw[z]at h1;simp at h1];walk_at"ifs";intro r;refine aN (λd=>.bl<|KQ ns d) (λS=>∃a,S=[a,a7<|.ref i]) trivial _ _ _ ?_ ⟨_,rfl⟩ ?_ ?_;rintro y O S ⟨a,rfl⟩;refine⟨[a7 y,a7<|.ref i],⟨_,rfl⟩,λY k=>?_⟩;refine(show DV c5 y (.ref i) M (λs b=>Y s [a7 y,a7<|.ref i] b)from⟨_,L,⟨(j y O).ok,zh⟩,?_⟩);rw[Bool.bne_false,qX];exact k;simpa using r;refine⟨xs.map<|KQ ns,?_,?_⟩;rw[E9];exact(show ah _ _ (bls<|xs.map<|KQ ns) by unfold bls;rw[B8];exact ae);cases f:(xs.map<|KQ ns).all id with
 |false=>rw[KD]at f;rw[show xs.all (KQ ns)=c5 from f]at h;walk_at"ifs";exact aE.bl h aL
 |true=>walk_at"ifs";rw[KD]at f;have p:∀x∈xs,∃a,x=.str a:=λx q=>qV<|z5.mp f x q;refine⟨.tup xs,xs.map unT,rfl,.inr (by rw[mh p]),by rw[v5];exact o,?_⟩;rw[show xs.all (KQ ns)=a9 from f]at h;exact aE.bl h aL
 rw[dF_ h1]at h;have c:xs.length=0:=by lia
 rw[show (((xs.length:Int)==0))=a9 by rw[c];rfl];walk_at"ifs";exact aE.now h;have e:cb ns d=c5:=by unfold cb;split;exact p5 rfl<|l _;rfl
 rw[e]at h;walk_at"dl";refine⟨⟨g.thing.1,b0⟩,?_⟩;simp only[A0]at t;rw[t];walk_at"ifs";exact aE.now h
def oH(T:Tops P w K mg base):w4 P w K mg base 2 "fit_members" fK cO:=w4.byD (N:=["thing","names"]) T.b T.f_fit_members dz nM (by have:=ir T;walk_at"dv") oB
noncomputable def ba(ns:List c8):D->Bool
 |.tup [a,b]=>aH a&&cb ns b
 |_=>c5
def eK:A7:=λds M R=>∃(n i:Nat) (d:D) (ns:List c8),ds=[d,.ref i]/\u4 M n d/\ah M i (ns.map .str)/\R (.bl<|ba ns d) M
def qQ:fu eK jk:=by rintro ds M R ⟨n,i,d,ns,rfl,_⟩;rfl
def mR(h:∀a b,d≠.tup [a,b]):ba ns d=c5:=by unfold ba;split;exact p5 rfl<|h _ _;rfl
def mH:t9:=be<|eu (u0 aV<|aa (dC<|.int 2)<|aa (ac 0) af)<|eu (u0 cI<|aa (t6 v9 (ac 0)<|dC<|.int 0) af)<|u0 cO<|aa (t6 v9 (ac 0)<|dC<|.int 1)<|aa (ac 1) af
def rN:D7 eK 2 mH:=by
 rintro ds M R ⟨n,i,d,ns,rfl,g,L,h⟩;simp only[mH];simp only[aC,A6,cM,ar,be,eu,u0,aa,af,dC,ac,aK,bp,B9,Me,LH,E9,LY,MC,D4,Ix,Nm,LD,LR];refine⟨2,d,rfl,g.thing.1,?_⟩;rcases gM d with⟨a,b,rfl⟩|⟨t,l⟩
 obtain⟨_,m,rfl,x⟩:=g.tup;have e:=x a b9;have f:=x b b9;walk_at"dl";refine eG ⟨a,rfl,e.thing,?_⟩;simp only[ba]at h;cases c:aH a with
 |false=>rw[c]at h;walk_at"ifs";exact aE.now h
 |true=>rw[c]at h;walk_at"ifs";exact⟨m,i,b,ns,rfl,f,L,aE.now h⟩
 rw[mR l]at h;rw[t];walk_at"ifs";exact aE.now h
def tu(T:Tops P w K mg base):w4 P w K mg base 3 "fits_room" jk eK:=w4.byD (N:=["thing","names"]) T.b T.f_fits_room dz qQ (by have:=cL T;have:=kz T;have:=oH T;walk_at"dv") rN
noncomputable def kX(ns:List c8):D->Bool
 |.tup xs=>(decide (1<=xs.length)&&decide (xs.length<=4))&&(xs.all (ba ns)&&bB (xs.map au))
 |_=>c5
def eL:A7:=λds M R=>∃(n i:Nat) (d:D) (ns:List c8),ds=[d,.ref i]/\u4 M n d/\ah M i (ns.map .str)/\R (.bl<|kX ns d) M
def qR:fu eL jm:=by rintro ds M R ⟨n,i,d,ns,rfl,_⟩;rfl
def zx(h:ba ns d=a9):∃x b,d=.tup [.str x,b]:=by unfold ba at h;split at h;rw[A2]at h;obtain⟨x,rfl⟩:=eY h.1;exact⟨_,_,rfl⟩;cases h
def jG:t9:=be<|eu (u0 yB<|aa (E4 1 [1] (bK<|ac 0) (al 0) kg<|u0 eK<|aa (ac 0)<|aa (ac 1) af) af)<|u0 cj<|aa (u0 bM<|aa (ac 0) af) af
def mI:t9:=aC (A6 (Fn (cM<|ar<|u0 fF<|aa (ac 0)<|aa (dC<|.ty "tuple") af)<|cM<|ar<|gF K7 K7 (dC<|.int 1) (u0 jR<|aa (ac 0) af)<|dC<|.int 4) (be<|dC<|.bl c5) aK)<|jG
theorem rO:D7 eL 2 mI:=by
 rintro ds M R ⟨n,i,d,ns,rfl,g,L,h⟩;simp only[mI,jG];rcases kI M g with⟨xs,rfl⟩|⟨t,l⟩
 obtain⟨q,m,rfl,j⟩:=g.tup;walk_at"dl";refine⟨b0,?_⟩;rw[show fR "tuple" "tuple" = a9 from rfl];walk_at"ifs";rw[kD.1,kD.2];simp only[kX]at h;by_cases h1:1<=xs.length;rw[dT_ h1]at h ⊢;walk_at"ifs";by_cases c:xs.length<=4;rw[dT_ c]at h ⊢;walk_at"ifs";intro z;refine aN (λd=>.bl<|ba ns d) (λS=>∃a,S=[a,a7<|.ref i]) trivial _ _ _ ?_ ⟨_,rfl⟩ ?_ ?_;rintro y O S ⟨a,rfl⟩;exact⟨[a7 y,a7<|.ref i],⟨_,rfl⟩,λY o=>⟨m,i,y,ns,rfl,j y O,L,o⟩⟩;simpa using z;refine⟨xs.map<|ba ns,?_,?_⟩;rw[E9];exact(show ah _ _ (bls<|xs.map<|ba ns) by unfold bls;rw[B8];exact ae);cases f:(xs.map<|ba ns).all id with
 |false=>rw[KD]at f;rw[show xs.all (ba ns)=c5 from f]at h;walk_at"ifs";exact aE.bl h aL
 |true =>
  walk_at"ifs";rw[KD]at f;have p:∀x∈xs,∃a r,x=.tup (.str a::r):=λx b=>by obtain⟨a,k,e⟩:=zx<|z5.mp f x b;exact⟨a,_,e⟩
  refine⟨xs,rfl,λx b=>let ⟨a,r,e⟩:=p x b;⟨_,_,e⟩,?_⟩;rw[fe p];refine⟨_,xs.map au,rfl,.inl ⟨_,rfl,ae⟩,el,?_⟩;rw[show xs.all (ba ns)=a9 from f]at h;exact aE.bl h<|by rw[F0];exact Kv _ _
 rw[dF_ c]at h ⊢;walk_at"ifs";exact aE.now h;rw[dF_ h1]at h ⊢;walk_at"ifs";exact aE.now h;have e:kX ns d=c5:=by unfold kX;split;exact p5 rfl<|l _;rfl
 rw[e]at h;walk_at"dl";refine⟨⟨g.thing.1,b0⟩,?_⟩;simp only[A0]at t;rw[t];walk_at"ifs";exact aE.now h
def tD(T:Tops P w K mg base):w4 P w K mg base 4 "fit_rooms" jm eL:=w4.byD (N:=["thing","names"]) T.b T.f_fit_rooms dz qR (by have:=ir T;have:=eF T;have:=tu T;walk_at"dv") rO
noncomputable def pV:D->List c8
 |.tup xs=>xs.map au
 |_=>[]
noncomputable def cy:D->Bool
 |.tup [p,r]=>dU p&&kX (pV p) r
 |_=>c5
def gu:A7:=λds M R=>∃(n:Nat) (d:D),ds=[d]/\u4 M n d/\R (.bl<|cy d) M
def tO:fu gu ku:=by rintro ds M R ⟨n,d,rfl,_⟩;rfl
def zJ(h:dU p=a9):∃xs,p=.tup xs/\xs.length<=4/\∀x∈xs,bg x=a9:=by unfold dU at h;split at h;simp only[A2,p6]at h;exact⟨_,rfl,h.1.2,z5.mp h.2.1⟩;cases h
def nR(h:∀a b,d≠.tup [a,b]):cy d=c5:=by unfold cy;split;exact p5 rfl<|h _ _;rfl
def kJ:t9:=be<|u0 eL<|aa (t6 v9 (ac 0)<|dC<|.int 1)<|aa (u0 bM<|aa (t6 v9 (ac 0)<|dC<|.int 0) af) af
def pH:t9:=aC (A6 (Fn (cM<|ar<|u0 aV<|aa (dC<|.int 2)<|aa (ac 0) af)<|cM<|ar<|u0 dm<|aa (t6 v9 (ac 0)<|dC<|.int 0) af) (be<|dC<|.bl c5) aK)<|kJ
def uy:D7 gu 1 pH:=by
 rintro ds M R ⟨n,d,rfl,g,h⟩;simp only[pH,kJ];simp only[aC,A6,Fn,cM,ar,be,eu,u0,aa,af,dC,ac,aK,bp,B9,Me,LH,E9,LY,MC,D4,Ix,Nm,LD,LR];refine⟨2,d,rfl,g.thing.1,?_⟩;rcases gM d with⟨a,b,rfl⟩|⟨t,l⟩
 obtain⟨_,m,rfl,i⟩:=g.tup;have j:=i a b9;have o:=i b b9;walk_at"dl";refine fP ⟨m,a,rfl,j,?_⟩;simp only[cy]at h;cases c:dU a with
 |false=>rw[c]at h;walk_at"ifs";exact aE.now h
 |true =>
  rw[c]at h;walk_at"ifs";obtain⟨xs,rfl,q,p⟩:=zJ c;have hs:∀x∈xs,∃a r,x=.tup (.str a::r):=λx f=>by obtain⟨a,k,e⟩:=mX<|p x f;exact⟨a,_,e⟩
  refine⟨xs,rfl,λx f=>let ⟨a,r,e⟩:=hs x f;⟨_,_,e⟩,?_⟩;rw[fe hs];exact⟨m,_,b,xs.map au,rfl,o.grow aL,ae,aE.bl h aL⟩
 rw[nR l]at h;rw[t];walk_at"ifs";exact aE.now h
def vb(T:Tops P w K mg base):w4 P w K mg base 5 "is_house" ku gu:=w4.byD (N:=["thing"]) T.b T.f_is_house dz tO (by have:=cL T;have:=eF T;have:=qI T;have:=tD T;walk_at"dv") uy
noncomputable def cC(M:t7)(d:D):Bool:=match bv M d with
 |some xs=>xs.all aH
 |none=>c5
def cY:A7:=λds M R=>∃(n:Nat) (d:D),ds=[d]/\u4 M n d/\R (.bl<|cC M d) M
def qT:fu cY jo:=by rintro ds M R ⟨n,d,rfl,_⟩;rfl
def mO:t9:=be<|eu (u0 aZ<|aa (ac 0) af)<|u0 yB<|aa (E4 1 [] (bK<|ac 0) (al 0) kg<|u0 cI<|aa (ac 0) af) af
def rQ:D7 cY 1 mO:=by
 rintro ds M R ⟨n,d,rfl,g,h⟩;simp only[mO];walk_at"dl";refine⟨d,rfl,g.thing.1,?_⟩;rcases kW g with⟨xs,x,m,rfl,j⟩|⟨e,t⟩
 rw[(wA x).2];unfold cC at h;rw[x]at h;simp only[wI,↓reduceIte];have f:∀{ok:t7->Prop},ok M->xs.length<=sizeLine->fX ok (al 0) kg (u0 cI<|aa (ac 0) af) (λd c=>yB [d] c<|aE M R) xs [] [a8] M:=λ{ok} k b=>by refine aN (λd=>.bl<|aH d) (λS=>∃a,S=[a]) k _ _ _ ?_ ⟨_,rfl⟩ (by simpa using b) ?_;rintro y O S ⟨a,rfl⟩;exact⟨[a7 y],⟨_,rfl⟩,λY l=>⟨y,rfl,(j y O).thing,l⟩⟩;rw[E9];refine⟨xs.map aH,by unfold bls;rw[B8];exact ae,aE.bl ?_ aL⟩;rw[KD];exact h
 rcases bW x with⟨i,rfl,L⟩|rfl;exact⟨xs,L,λb=>f L b⟩;exact λb=>f trivial b;rw[t];unfold cC at h;rw[e]at h;simp only[wI,C8,↓reduceIte];exact aE.now h
def lg(T:Tops P w K mg base):w4 P w K mg base 3 "are_names" jo cY:=w4.byD (N:=["thing"]) T.b T.f_are_names dz qT (by have:=dZ T;have:=kz T;walk_at"dv") rQ
noncomputable def bY:D->Bool
 |.tup [a,_]=>aH a
 |_=>c5
def kH(ys:List D):Prop:=ys.Pairwise λa b=>aA (au b) (au a)=c5
noncomputable def L7:Xn:=x9 "NoHouse"
structure GH(M:t7)(d:D):Prop where
 g:u4 M 8 d
 l:∀xs,bv M d=a7 xs->xs.length<=60
 m:∀xs,bv M d=a7 xs->∀x∈xs,∀a b,x=.tup [a,b]->∀ys,bv M b=a7 ys->ys.length<=60
def u4.gh(g:u4 M n d)(h:n<=8):GH M d:=by
 refine⟨g.mono h b0,λxs c=>qd g c,λxs c x l a b e ys O=>?_⟩;rcases kW g with⟨i,f,m,rfl,k⟩|⟨z,_⟩
 obtain rfl:i=xs:=C1<|f.symm.trans c;have j:=k x l;rw[e]at j;obtain⟨_,o,rfl,y⟩:=j.tup;exact qd (y b<|by simp) O;rw[c]at z;cases z
def GH.tm(t:Tabs M)(h:TM M B)(g:GH M d):GH B d:=⟨g.g.tm t h,λxs c=>g.l xs (by rw[<-h.row t];exact c),λxs c x f a b e ys O=>g.m xs (by rw[<-h.row t];exact c) x f a b e ys<|by rw[<-h.row t];exact O⟩
def bE:yF:=λds M R RX=>∃d:D,ds=[d]/\GH M d/\Tabs M/\((∀xs,bv M d=a7 xs->∃x∈xs,bY x=c5)->RX L7 M)/\∀xs ys B,bv M d=a7 xs->(∀x∈xs,bY x=a9)->ys.Perm xs->kH ys->TM M B->R (.tup ys) B
def kB:Kr bE dW:=by rintro ds M R RX ⟨d,rfl,_⟩;rfl
def EK(h:∃z,x=.str z):D6 v3 x=a9:=by obtain⟨z,rfl⟩:=h;rfl
def lO{M:t7}{xs:List D}(h:∀x∈xs,∃z,x=.str z)(l:xs.length<64):SrtOk M xs:=⟨l,λx a=>EK<|h x a,λx a y O=>by obtain⟨z,rfl⟩:=h x a;obtain⟨F,rfl⟩:=h y O;rfl,.inl h⟩
def jT(h:bY d=a9):∃x b,d=.tup [.str x,b]:=by unfold bY at h;split at h;obtain⟨x,rfl⟩:=eY h;exact⟨_,_,rfl⟩;cases h
def mZ:bY d=(iU 2 d&&aH (dh d)):=by
 rcases gM d with⟨a,b,rfl⟩|⟨e,F⟩
 rfl;rw[e];unfold bY;split;exact p5 rfl<|F _ _;rfl
def cD:F4:=L6<|be<|u0 bX<|aa (fg "pairs_by_name" ⟨88,36,88,56⟩ ["pair"] (t6 v9 (ac 0)<|dC<|.int 0)<|aa (ac 0) af) af
def cE:F4:=BI (NP (cM<|ar<|u0 cY<|aa (u0 bM<|aa (ac 0) af) af) (me "NoHouse"<|aa (dC<|.str "each person and each room begins with a name") af)<|L6 aK)<|cD
def gO:F4:=BI (NP (Fn (cM<|ar<|u0 aZ<|aa (ac 0) af)<|cM<|ar<|u0 yB<|aa (E4 1 [] (bK<|ac 0) (al 0) kg<|u0 aV<|aa (dC<|.int 2)<|aa (ac 0) af) af) (me "NoHouse"<|aa (dC<|.str "people and rooms are each a row of pairs") af)<|L6 aK)<|cE
theorem pn_2(g:GH M d)(t:Tabs M)(c:bv M d=a7 xs)(ok:∀x∈xs,bY x=a9)(h:∀ys B,ys.Perm xs->kH ys->TM M B->R (.tup ys) B)(r:M <+: B):cD (Ev M RX) (EE M R) [a7 d] B:=by
 simp only[cD];walk_at"dl";have tB:=t.pre r;refine⟨1,xs,dh,tB.atX,λe=>?_⟩;have i:=(TM.now tB).setX tB (p:=⟨88,36,88,56⟩) (e:=e);have s:∀x∈xs,∃z b,x=.tup [.str z,b]:=λx c=>jT<|ok x c;have E:=cZ r c;have G:bv (B.set 1<|.tl MW ⟨88,36,88,56⟩ (ke MW) e) d=a7 xs:=by rw[i.row tB];exact E
 obtain⟨L,rfl⟩:=r;obtain⟨N,f,w⟩:=TM.app t i;have C:(M++L).set 1 (.tl (x9 "pairs_by_name") ⟨88,36,88,56⟩ (ke<|x9 "pairs_by_name") e)=N++L:=w;have j:bv (N++L) d=a7 xs:=w ▸ G;have J:(M++L).length=(N++L).length:=by rw[E2,E2,f.len]
 rw[C,J];refine⟨(bW j).symm.imp id λ⟨n,e,F⟩=>⟨n,e,F⟩,λx c=>?_,(lO (λy O=>?_) (by rw[v5];have:=g.l xs c;lia)).g,λys k H=>⟨_,ae,?_⟩⟩;obtain⟨z,b,rfl⟩:=s x c;walk_at"dl";exact aE.now ⟨rfl,rfl⟩;obtain⟨x,c,rfl⟩:=w9.mp O;obtain⟨z,b,rfl⟩:=s x c;exact⟨z,rfl⟩;have A:∀x∈ys,∃z b,x=.tup [.str z,b]:=λx c=>s x<|k.mem_iff.mp c;have I:kH ys:=(List.Pairwise.and_mem.mp H).imp λ{a b} ⟨ha,hb,q⟩=>by obtain⟨z,u,rfl⟩:=A a ha;obtain⟨P,u',rfl⟩:=A b hb;exact q
 rcases kW g.g with⟨v,o,m,K,D⟩|⟨e,_⟩
 obtain rfl:v=xs:=C1<|o.symm.trans c;exact aE.chg f.chg (h ys N k I f) (.tup<|Bels.of λy O=>(D y<|k.mem_iff.mp O).bel) (by rw[F0];exact Kv _ _);rw[c]at e;cases e
theorem lA:P9 bE 1 gO:=by
 rintro ds M R RX ⟨d,rfl,g,t,X,h⟩;simp only[gO];walk_at"dl";refine⟨d,rfl,g.g.thing.1,?_⟩;rcases kW g.g with⟨xs,f,m,U,u⟩|⟨e,Q⟩
 rw[(wA f).2];simp only[Mg,C8,↓reduceIte];have o:=g.l xs f;have A:(∃x∈xs,bY x=c5)->RX L7 M:=λq=>X λr k=>by obtain rfl:r=xs:=C1<|k.symm.trans f;exact q
 have j:∃bs,ah (M++[MO.lst<|xs.map λd=>.bl<|iU 2 d]) M.length (bls bs)/\if (!bs.all id)=a9 then 1<=sizeLine/\Ev M RX L7 (M++[MO.lst<|xs.map λd=>.bl<|iU 2 d])else cE (Ev M RX) (EE M R) [a7 d] (M++[MO.lst<|xs.map λd=>.bl<|iU 2 d]):=by
  refine⟨xs.map<|iU 2,by unfold bls;rw[B8];exact ae,?_⟩;rw[KD];cases q:xs.all (iU 2) with
  |false=>rw[show xs.all (id ∘ iU 2)=c5 from q];obtain⟨x,c,e⟩:=List.all_eq_false.mp q;refine eG ⟨s9,.inr ⟨M,.refl,aL,A ⟨x,c,?_⟩⟩⟩;rw[mZ,Mi.mpr e];rfl
  |true =>
   rw[show xs.all (id ∘ iU 2)=a9 from q];refine fP ?_;have C:∀x∈xs,∃a b,x=.tup [a,b]:=λx c=>(gM x).elim id λz=>by have:=z5.mp q x c;rw[z.1]at this;cases this
   have p:M <+: M++[MO.lst<|xs.map λd=>.bl<|iU 2 d]:=aL;generalize M++[MO.lst<|xs.map λd=>.bl<|iU 2 d]=B at p;simp only[cE];walk_at"dl";refine⟨xs,by rw[B9,cZ p f];rfl,λx c=>let ⟨a,b,e⟩:=C x c;⟨a,[b],e⟩,8,_,rfl,?_⟩;have H:∀y∈xs.map dh,u4 (B++[MO.lst<|xs.map dh]) 7 y:=λy O=>by obtain⟨x,c,rfl⟩:=w9.mp O;obtain⟨a,b,rfl⟩:=C x c;obtain⟨_,V,T,G⟩:=(u _ c).tup;exact((G a<|by simp).grow<|p.trans aL).mono b7<|by decide
   have K:cC (B++[MO.lst<|xs.map dh]) (.ref B.length)=xs.all bY:=by unfold cC;rw[gB<|.inl ⟨_,rfl,ae⟩];show (xs.map dh).all aH=_;rw[KD];refine Bool.eq_iff_iff.mpr ⟨λz=>z5.mpr λx c=>?_,λz=>z5.mpr λx c=>?_⟩;rw[mZ,z5.mp q x c];exact z5.mp z x c;have:=z5.mp z x c;rw[mZ,z5.mp q x c]at this;exact this
   refine⟨u4.mkr ae b0 H (by rw[v5];exact o),?_⟩;rw[K];cases w:xs.all bY with
   |false=>obtain⟨x,c,e⟩:=List.all_eq_false.mp w;exact eG ⟨s9,.inr ⟨M,.refl,p.trans aL,A ⟨x,c,Mi.mpr e⟩⟩⟩
   |true=>exact fP<|pn_2 g t f (z5.mp w) (λys B' J N P=>h xs ys B' f (z5.mp w) J N P)<|p.trans aL
 have L:∀x∈xs,∀S,(∃a,S=[a])->∃s,(∃a,s=[a])/\∀(Y:D->SD->t7->Prop),Y (.bl<|iU 2 x) s M->al 0 x S M λS2 E=>u0 aV (aa (dC<|D.int 2)<|aa (ac 0) af) S2 E λy F=>Y y S2 F:=by rintro x c S ⟨a,rfl⟩;exact⟨[a7 x],⟨_,rfl⟩,λY I=>⟨2,x,rfl,(u x c).thing.1,I⟩⟩
 rcases bW f with⟨i,rfl,v⟩|rfl;exact⟨xs,v,λn=>aN (λd=>.bl<|iU 2 d) (λS=>∃a,S=[a]) v _ _ _ L ⟨_,rfl⟩ (by simpa using n) j⟩;exact λn=>aN (λd=>.bl<|iU 2 d) (λS=>∃a,S=[a]) trivial _ _ _ L ⟨_,rfl⟩ (by simpa using n) j;rw[Q];simp only[Bool.not_false,↓reduceIte];exact⟨s9,.inl<|X λxs f=>by rw[e]at f;cases f⟩
def lC(T:Tops P w K mg base):yA P w K mg base 7 "pairs_by_name" dW bE:=yA.byL (N:=["things"]) T.b T.f_pairs_by_name dz kB (by have:=T.bm;have:=cL T;have:=dZ T;have:=eF T;have:=lg T;have:=T.cl;walk_at"dvxl") lA
def bt:yF:=λds M R RX=>∃(n:Nat) (a:c8) (b:D),ds=[.tup [.str a,b]]/\u4 M n b/\(∀ys,bv M b=a7 ys->ys.length<=60)/\(cC M b=c5->RX L7 M) /\∀ss ts:List c8,bv M b=a7 (ss.map .str)->cC M b=a9->ts.Perm ss->(ts.Pairwise λa b=>aA b a=c5)->R (.tup [.str a,.tup<|ts.map .str]) M
def iA:Kr bt cf:=by rintro ds M R RX ⟨n,a,b,rfl,_⟩;rfl
def zi(xs:List c8):Bels k (xs.map .str):=Bels.of λd h=>by obtain⟨x,_,rfl⟩:=w9.mp h;exact .str _
def pU{M:t7}{b:D}(h:cC M b=a9):∃ss:List c8,bv M b=a7 (ss.map .str)/\∀s∈ss,aH (.str s)=a9:=by unfold cC at h;split at h;rename_i xs e;have hs:∀x∈xs,∃a,x=.str a:=λx d=>eY<|z5.mp h x d;refine⟨xs.map unT,by rw[mh hs];exact e,λs d=>?_⟩;obtain⟨x,c,rfl⟩:=w9.mp d;obtain⟨a,rfl⟩:=hs x c;exact z5.mp h _ c;cases h
def dS{ys:List D}{ss:List c8}(h:ys.Perm (ss.map .str)):∃ts:List c8,ys=ts.map .str/\ts.Perm ss:=by
 have hs:∀y∈ys,∃a,y=.str a:=λy O=>by obtain⟨s,_,rfl⟩:=w9.mp<|h.mem_iff.mp O;exact⟨s,rfl⟩
 refine⟨ys.map unT,(mh hs).symm,(h.map unT).trans<|List.Perm.of_eq ?_⟩;rw[B8];exact KU _
def cT:F4:=L6<|be<|bc<|aa (t6 v9 (ac 0)<|dC<|.int 0)<|aa (u0 bX<|aa (u0 jQ<|aa (t6 v9 (ac 0)<|dC<|.int 1) af) af) af
def dv:F4:=BI (NP (cM<|ar<|u0 cY<|aa (t6 v9 (ac 0)<|dC<|.int 1) af) (me "NoHouse"<|aa (dC<|.str "the members of a room are a row of names") af)<|L6 aK)<|cT
def iR:P9 bt 1 dv:=by
 rintro ds M R RX ⟨n,a,b,rfl,g,o,X,h⟩;simp only[dv];walk_at"dl";refine⟨n,b,rfl,g,?_⟩;cases d:cC M b with
 |false=>exact eG ⟨s9,.inl<|X d⟩
 |true =>
  refine fP ?_;obtain⟨ss,r,k⟩:=pU d;have l:=o _ r;rw[v5]at l;have t:SrtOk M (ss.map .str):=lO (λx e=>by obtain⟨s,_,rfl⟩:=w9.mp e;exact⟨s,rfl⟩) el;have f:∀ys,ys.Perm (ss.map .str)->rJ M ys->∃xs,ah (M++[.lst ys]) M.length xs/\2<=sizeLine/\aE M R (.tup [.str a,.tup xs]) (M++[.lst ys]):=λys p c=>by obtain⟨ts,rfl,j⟩:=dS p;refine⟨_,ae,s9,aE.keep (h ss ts r d j ?_) (.tup<|.cons (.str _)<|.cons (.tup<|zi _) .nil) aL⟩;exact(K0.mp c).imp λq=>q
  simp only[cT];walk_at"dl";rcases bW r with⟨i,rfl,L⟩|rfl;exact⟨_,.inl L,t,f⟩;exact⟨t.g,f⟩
def iV(T:Tops P w K mg base):yA P w K mg base 4 "room_with_members" cf bt:=yA.by (N:=["pair"]) T.b T.f_room_with_members dz iA (by have:=lg T;have:=T.cl;walk_at"dvx") iR
noncomputable def aJ(p:c8×List c8):D:=.tup [.str p.1,.tup<|p.2.map .str]
noncomputable def ay(ps:List (c8×Int))(a:List (c8×List c8)):D:=.tup [.tup<|ps.map aG,.tup<|a.map aJ]
structure HF(ps:List (c8×Int))(rs:List (c8×List c8)):Prop where
 pl:1<=ps.length/\ps.length<=4
 pn:∀p∈ps,aH (.str p.1)=a9/\1<=p.2/\p.2<=3
 pu:(ps.map (·.1)).Pairwise λa b=>aA a b=a9
 rl:1<=rs.length/\rs.length<=4
 rn:∀r∈rs,aH (.str r.1)=a9
 ru:(rs.map (·.1)).Pairwise λa b=>aA a b=a9
 mm:∀r∈rs,r.2≠[]/\(∀x∈r.2,x∈ps.map (·.1))/\r.2.Pairwise λa b=>aA a b=a9
def Ca(h1:aA a b=a9)(h2:aA b c=a9):aA a c=a9:=by unfold aA at *;rw[p6]at *;exact List.lt_trans h1 h2
def zj:aA a a=c5:=by unfold aA;exact dF_<|N5 _
def qz(h1:aA x y=c5)(h2:aA y x=c5):x=y:=by unfold aA at h1 h2;rw[decide_eq_false_iff_not]at h1 h2;exact uO<|List.le_antisymm (List.not_lt.mp h2)<|List.not_lt.mp h1
def jL(h:aA a b=a9):aA b a=c5:=by unfold aA at *;rw[p6]at h;exact dF_<|List.not_lt.mpr<|List.le_of_lt h
def jV{xs:List c8}(h:xs.Pairwise λa b=>aA a b=a9):xs.Nodup:=h.imp λ{a b} hab e=>by subst e;rw[zj]at hab;cases hab
def lQ:∀{xs:List c8},bB xs=a9->xs.Pairwise λa b=>aA a b=a9
 | [],_=>.nil
 | [_],_=>OX _ _
 |a::b::r,h=>by have h':(aA a b&&bB (b::r))=a9:=h;rw[A2]at h';have ih:=lQ h'.2;refine OR.mpr ⟨λx hx=>?_,ih⟩;rcases z7.mp hx with rfl|hx;exact h'.1;exact Ca h'.1<|(OR.mp ih).1 x hx
def lR:∀{xs:List c8},(xs.Pairwise λa b=>aA a b=a9)->bB xs=a9
 | [],_=>rfl
 | [_],_=>rfl
 |a::b::r,h=>by rw[List.pairwise_cons]at h;show (aA a b&&bB (b::r))=a9;rw[h.1 b b9,lR h.2];rfl
noncomputable def unP5:D->c8×Int
 |.tup [.str a,.int k]=>(a,k)
 |_=>(default,0)
noncomputable def unR5:D->c8×List c8
 |.tup [.str a,.tup ms]=>(a,ms.map unT)
 |_=>(default,[])
def wL{α:Type}{f:D->α}{g:α->D}{xs:List D}(h:∀x∈xs,g (f x)=x):(xs.map f).map g=xs:=by rw[B8];exact(LU λx a=>h x a).trans<|KU _
def qW:KQ ns d=a9↔∃x∈ns,d=.str x:=by constructor;intro h;obtain⟨x,rfl⟩:=qV h;obtain⟨n,f,e⟩:=OO.mp h;rw[p7]at e;exact⟨x,e ▸ f,rfl⟩;rintro⟨x,hx,rfl⟩;exact OO.mpr ⟨x,hx,b9⟩
def xZ{d:D}(h:cy d=a9):∃ps rs,d=ay ps rs/\HF ps rs:=by
 unfold cy at h;split at h;rename_i p r;rw[A2]at h;obtain⟨f,i⟩:=h;unfold dU at f;split at f;rename_i xs;unfold kX at i;split at i;rename_i ys;simp only[A2,p6,z5]at f i;obtain⟨⟨w,B⟩,C,E⟩:=f;obtain⟨⟨G,L⟩,H,R⟩:=i;have o:∀x∈xs,∃a k,x=.tup [.str a,.int k]/\aH (.str a)=a9/\1<=k/\k<=3:=λx c=>by have q:=C x c;obtain⟨a,k,rfl⟩:=mX q;have j:(aH (.str a)&&(decide (1<=k)&&decide (k<=3)))=a9:=q;simp only[A2,p6]at j;exact⟨a,k,rfl,j.1,j.2.1,j.2.2⟩
 have l:∀y∈ys,∃a ms,y=.tup [.str a,.tup ms]/\aH (.str a)=a9/\1<=ms.length/\(∀m∈ms,KQ (xs.map au) m=a9)/\bB (ms.map unT)=a9:=λy O=>by have q:=H y O;obtain⟨a,b,rfl⟩:=zx q;have j:(aH (.str a)&&cb (pV<|.tup xs) b)=a9:=q;rw[A2]at j;obtain⟨F,g⟩:=j;unfold cb at g;split at g;rename_i ms;simp only[A2,p6,z5]at g;exact⟨a,ms,rfl,F,g.1,g.2.1,g.2.2⟩;cases g
 have t:(xs.map unP5).map aG=xs:=wL λx c=>by obtain⟨a,k,rfl,_⟩:=o x c;rfl
 have u:(ys.map unR5).map aJ=ys:=wL λy O=>by obtain⟨a,ms,rfl,_,_,n,_⟩:=l y O;show D.tup [.str a,.tup<|(ms.map unT).map .str]=_;rw[mh λm e=>qV<|n m e]
 have s:(xs.map unP5).map (·.1)=xs.map au:=by rw[B8];exact LU λx c=>by obtain⟨a,k,rfl,_⟩:=o x c;rfl
 have A:(ys.map unR5).map (·.1)=ys.map au:=by rw[B8];exact LU λy O=>by obtain⟨a,ms,rfl,_⟩:=l y O;rfl
 refine⟨xs.map unP5,ys.map unR5,by unfold ay;rw[t,u],⟨by rw[v5];exact⟨w,B⟩,λp f=>?_,by rw[s];exact lQ E,by rw[v5];exact⟨G,L⟩,λr i=>?_,by rw[A];exact lQ R,λr i=>?_⟩⟩;obtain⟨x,c,rfl⟩:=w9.mp f;obtain⟨a,k,rfl,q⟩:=o x c;exact q;obtain⟨y,O,rfl⟩:=w9.mp i;obtain⟨a,ms,rfl,q,_⟩:=l y O;exact q;obtain⟨y,O,rfl⟩:=w9.mp i;obtain⟨a,ms,rfl,_,J,n,I⟩:=l y O;refine⟨λz=>?_,λx c=>?_,lQ I⟩;have:(ms.map unT).length=0:=by rw[show ms.map unT=[]from z];rfl
 rw[v5]at this;lia;obtain⟨m,e,rfl⟩:=w9.mp<|show x∈ms.map unT from c;obtain⟨z,v,rfl⟩:=qW.mp<|n m e;rw[s];exact v;cases i;cases f;cases h
def HF.house(h:HF ps rs):cy (ay ps rs)=a9:=by
 have n:(ps.map aG).map au=ps.map (·.1):=by rw[B8];rfl
 have f:(rs.map aJ).map au=rs.map (·.1):=by rw[B8];rfl
 show (((decide (1<=(ps.map aG).length)&&decide ((ps.map aG).length<=4))&&((ps.map aG).all bg&&bB ((ps.map aG).map au)))&&((decide (1<=(rs.map aJ).length)&&decide ((rs.map aJ).length<=4))&&((rs.map aJ).all (ba<|(ps.map aG).map au)&&bB ((rs.map aJ).map au))))=a9;rw[f,n,lR h.pu,lR h.ru,v5,v5,dT_ h.pl.1,dT_ h.pl.2,dT_ h.rl.1,dT_ h.rl.2];have h1:(ps.map aG).all bg=a9:=by rw[KD,z5];intro p g;show (aH (.str p.1)&&(decide (1<=p.2)&&decide (p.2<=3)))=a9;obtain⟨a,b,c⟩:=h.pn p g;rw[a,dT_ b,dT_ c];rfl
 have h2:(rs.map aJ).all (ba (ps.map (·.1)))=a9:=by
  rw[KD,z5];intro r i;obtain⟨U,d,e⟩:=h.mm r i;show (aH (.str r.1)&&(decide (1<=(r.2.map D.str).length)&&((r.2.map D.str).all (KQ (ps.map (·.1)))&&bB ((r.2.map D.str).map unT))))=a9;have t:(r.2.map D.str).map unT=r.2:=by rw[B8];exact KU _
  have l:(r.2.map D.str).all (KQ (ps.map (·.1)))=a9:=by rw[KD,z5];intro x j;exact qW.mpr ⟨x,d x j,rfl⟩
  rw[h.rn r i,t,l,lR e,v5,dT_<|show 1<=r.2.length from List.length_pos_iff.mpr U];rfl
 rw[h1,h2];rfl
inductive RmAs(M:t7):List D->List (c8×List c8)->Prop
 |nil:RmAs M [] []
 |cons {r:c8×List c8}{zs:List D}{rs:List (c8×List c8)}{b:D}{ss:List c8} (hb:bv M b=a7 (ss.map .str)) (hp:ss.Perm r.2) (t:RmAs M zs rs):RmAs M (.tup [.str r.1,b]::zs) (r::rs)
inductive RmTo(M:t7):List D->List D->Prop
 |nil:RmTo M [] []
 |cons {a:c8}{zs rs:List D}{b:D}{ss ts:List c8} (hb:bv M b=a7 (ss.map .str)) (hp:ts.Perm ss) (hs:ts.Pairwise λa b=>aA b a=c5) (t:RmTo M zs rs):RmTo M (.tup [.str a,b]::zs) (.tup [.str a,.tup<|ts.map .str]::rs)
def RmTo.snoc{M:t7}{a:c8}{zs s:List D}{b:D}{ss ts:List c8}(h:RmTo M zs s)(d:bv M b=a7 (ss.map .str))(p:ts.Perm ss)(hs:ts.Pairwise λa b=>aA b a=c5):RmTo M (zs++[.tup [.str a,b]]) (s++[.tup [.str a,.tup<|ts.map .str]]):=by
 induction h with
 |nil=>exact .cons d p hs .nil
 |cons f c u _ i=>exact .cons f c u i
def RmTo.fst(h:RmTo M zs rs):rs.map au=zs.map au:=by
 induction h with
 |nil=>rfl
 |cons _ _ _ _ i=>rw[B9,B9,i];rfl
def RmTo.len(h:RmTo M zs rs):rs.length=zs.length:=by
 induction h with
 |nil=>rfl
 |cons _ _ _ _ i=>rw[D4,D4,i]
def RmTo.perm(h:RmTo M zs rs)(p:rs'.Perm rs):∃zs',zs'.Perm zs/\RmTo M zs' rs':=by
 induction p generalizing zs with
 |nil=>cases h;exact⟨[],.refl _,.nil⟩
 |cons x _ e =>
  cases h with
  |cons d a hs t=>obtain⟨zs',q,g⟩:=e t;exact⟨_,q.cons _,.cons d a hs g⟩
 |swap x y l =>
  cases h with
  |cons d a hs t =>
   cases t with
   |cons f b u t=>exact⟨_,.swap _ _ _,.cons f b u<|.cons d a hs t⟩
 |trans _ _ i c=>obtain⟨w,q,g⟩:=c h;obtain⟨z,j,k⟩:=i g;exact⟨z,j.trans q,k⟩
def BZ{L xs:List c8}(p:xs.Perm L)(x:xs.Pairwise λa b=>aA b a=c5)(c:L.Pairwise λa b=>aA a b=a9):xs=L:=List.Perm.eq_of_pairwise (le:=λa b=>aA b a=c5) (λa b _ _ h1 h2=>qz h2 h1) x (c.imp λh=>jL h) p
def Gk{L:List D}(X:(L.map au).Nodup){a b:D}(f:a∈L)(d:b∈L)(e:au a=au b):a=b:=by
 induction L with
 |nil=>nomatch f
 |cons x L i=>rw[B9,KN]at X;rcases z7.mp f with g|f;rcases z7.mp d with c|d;rw[g,c];exact p5 (w9.mpr ⟨b,d,by rw[<-e,g]⟩) X.1;rcases z7.mp d with c|d;exact p5 (w9.mpr ⟨a,f,by rw[e,c]⟩) X.1;exact i X.2 f d
def zm{L xs:List D}(p:xs.Perm L)(x:kH xs)(c:(L.map au).Pairwise λa b=>aA a b=a9):xs=L:=List.Perm.eq_of_pairwise (le:=λa b=>aA (au b) (au a)=c5) (λa b f d h1 h2=>Gk (jV c) (p.mem_iff.mp f) d<|qz h2 h1) x ((K0.mp c).imp λh=>jL h) p
def RmAs.fst(h:RmAs M zs rs):zs.map au=rs.map (·.1):=by
 induction h with
 |nil=>rfl
 |cons _ _ _ i=>rw[B9,B9,i];rfl
def RmAs.len(h:RmAs M zs rs):zs.length=rs.length:=by
 induction h with
 |nil=>rfl
 |cons _ _ _ i=>rw[D4,D4,i]
def RmAs.at(h:RmAs M zs rs)(hz:z∈zs):∃r∈rs,∃(b:D) (ss:List c8),z=.tup [.str r.1,b]/\bv M b=a7 (ss.map .str)/\ss.Perm r.2:=by
 induction h with
 |nil=>nomatch hz
 |cons d p _ a=>rcases z7.mp hz with rfl|hz;exact⟨_,A9,_,_,rfl,d,p⟩;obtain⟨r,i,q⟩:=a hz;exact⟨r,C4 _ i,q⟩
structure HouseFor(M:t7)(p r:D)(ps:List (c8×Int))(rs:List (c8×List c8)):Prop where
 f:HF ps rs
 p:∃xs,bv M p=a7 xs/\xs.Perm (ps.map aG)
 r:∃ys zs,bv M r=a7 ys/\ys.Perm zs/\RmAs M zs rs
def qy{ss ts:List c8}(h:ss.map D.str=ts.map D.str):ss=ts:=by have:=q9 (List.map unT) h;rw[B8,B8]at this;exact(KU ss).symm.trans<|this.trans<|KU ts
def RmTo.as{M:t7}{zs ds:List D}(h:RmTo M zs ds):∀{rs:List (c8×List c8)},ds=rs.map aJ->RmAs M zs rs:=by
 induction h with
 |nil=>intro rs e;cases rs with|nil=>exact .nil|cons _ _=>cases e
 |cons d p hs t i =>
  intro rs e;cases rs with
  |nil=>cases e
  |cons r rs=>rw[B9]at e;injection e with a e2;simp only[aJ,D.tup.injEq,NE,D.str.injEq,and_true]at a;obtain⟨a,R⟩:=a;subst a;obtain rfl:=qy R;exact .cons (r:=r) d p.symm<|i e2
def RmAs.to{M:t7}{zs:List D}{s:List (c8×List c8)}(h:RmAs M zs s)(d:∀r∈s,r.2.Pairwise λa b=>aA a b=a9):∀{ds:List D},RmTo M zs ds->ds=s.map aJ:=by
 induction h with
 |nil=>intro ds q;cases q;rfl
 |@cons r zs s b ss e p t g =>
  intro ds q;cases q with
  |@cons a _ Z _ j ts f c u t'=>rw[B9,<-g (λr i=>d r<|C4 _ i) t'];rw[e]at f;obtain rfl:=qy<|C1 f;rw[BZ (c.trans p) u<|d r A9];rfl
def cand(x:bv M p=a7 xs)(O:bv M r=a7 ys)(U:xs'.Perm xs)(s:kH xs')(y:ys'.Perm ys)(k:kH ys')(d:RmTo M ys' rs'):(cy (.tup [.tup xs',.tup rs'])=a9->∃ps rs,HouseFor M p r ps rs/\D.tup [.tup xs',.tup rs']=ay ps rs)/\∀ps rs,HouseFor M p r ps rs->D.tup [.tup xs',.tup rs']=ay ps rs:=by refine⟨λh=>?_,λps rs h=>?_⟩;obtain⟨ps,rs,e,f⟩:=xZ h;have c:=e;simp only[ay,D.tup.injEq,NE,and_true]at c;obtain⟨t,l⟩:=c;exact⟨ps,rs,⟨f,⟨xs,x,by rw[<-t];exact U.symm⟩,⟨ys,ys',O,y.symm,d.as l⟩⟩,e⟩;obtain⟨f,⟨m,a,j⟩,⟨n,w,b,g,u⟩⟩:=h;obtain rfl:xs=m:=C1<|x.symm.trans a;obtain rfl:ys=n:=C1<|O.symm.trans b;have t:xs'=ps.map aG:=zm (U.trans j) s (by rw[B8];exact f.pu);have l:ys'=w:=zm (y.trans g) k (by rw[u.fst];exact f.ru);subst l;have R:=u.to (λr i=>(f.mm r i).2.2) d;unfold ay;rw[t,R]
def HouseFor.pn{M:t7}{p r:D}{ps:List (c8×Int)}{s:List (c8×List c8)}(h:HouseFor M p r ps s){xs:List D}(c:bv M p=a7 xs):∀x∈xs,bY x=a9:=λx d=>by obtain⟨e,a,j⟩:=h.p;obtain rfl:xs=e:=C1<|c.symm.trans a;obtain⟨q,b,rfl⟩:=w9.mp<|j.mem_iff.mp d;exact(h.f.pn q b).1
def HouseFor.rn{M:t7}{p r:D}{ps:List (c8×Int)}{s:List (c8×List c8)}(h:HouseFor M p r ps s){ys:List D}(O:bv M r=a7 ys){y:D}(m:y∈ys):bY y=a9/\∀a b,y=.tup [a,b]->cC M b=a9:=by
 obtain⟨n,z,c,l,u⟩:=h.r;obtain rfl:ys=n:=C1<|O.symm.trans c;obtain⟨q,d,b,ss,rfl,g,i⟩:=u.at<|l.mem_iff.mp m
 refine⟨h.f.rn q d,λa o e=>?_⟩;simp only[D.tup.injEq,NE,and_true]at e;obtain⟨_,rfl⟩:=e;unfold cC;rw[g];show (ss.map D.str).all aH=a9;rw[KD,z5];intro x k;obtain⟨w,j,rfl⟩:=w9.mp<|(h.f.mm q d).2.1 x<|i.mem_iff.mp k;exact(h.f.pn w j).1
def RmAs.move(e:∀d,bv N d=bv N' d)(h:RmAs N zs rs):RmAs N' zs rs:=by
 induction h with
 |nil=>exact .nil
 |cons b p _ i=>exact .cons (by rw[<-e];exact b) p i
def HouseFor.tm{M B:t7}(t:Tabs M)(k:TM M B){p r:D}{ps:List (c8×Int)}{a:List (c8×List c8)}:HouseFor B p r ps a↔HouseFor M p r ps a:=by
 have o:∀{N N':t7},(∀d,bv N d=bv N' d)->HouseFor N p r ps a->HouseFor N' p r ps a:=λ{N N'} e h=>by obtain⟨f,⟨xs,x,U⟩,⟨ys,s,O,y,u⟩⟩:=h;exact⟨f,⟨xs,by rw[<-e];exact x,U⟩,⟨ys,s,by rw[<-e];exact O,y,u.move e⟩⟩
 exact⟨o λd=>k.row t d,o λd=>(k.row t d).symm⟩
def cJ:yF:=λds M R RX=>∃p r:D,ds=[p,r]/\GH M p/\GH M r/\Tabs M/\((∀ps a,¬HouseFor M p r ps a)->∀B,TM M B->RX L7 B)/\∀ps a B,HouseFor M p r ps a->TM M B->R (ay ps a) B
def tP:Kr cJ kw:=by rintro ds M R RX ⟨p,r,rfl,_⟩;rfl
def kK:F4:=L6<|be<|ac 4
def kL:F4:=BI (NP (cM<|ar<|u0 gu<|aa (ac 4) af) (me "NoHouse"<|aa (dC<|.str "these people and rooms make no house") af)<|L6 aK)<|kK
def gU:F4:=BI (L6<|bD (bc<|aa (ac 2)<|aa (ac 3) af) 4)<|kL
def kM:F4:=BI (xSet (PY bX<|EA (xLCX 1 [] (NQ bE<|aa (ac 1) af) (al 0) kg<|NQ bt<|aa (ac 0) af) af) 3)<|gU
def pI:F4:=BI (xSet (NQ bE<|aa (ac 0) af) 2)<|kM
def bq(g:u4 M (n+1) d)(a:bv M d=a7 xs):∀x∈xs,u4 M n x:=by
 rcases kW g with⟨i,h,m,J,b⟩|⟨e,_⟩
 obtain rfl:i=xs:=C1<|h.symm.trans a;obtain rfl:n=m:=by lia
 exact b;rw[a]at e;cases e
def AM{M:t7}{a:c8}{b:D}{ss ts:List c8}(g:u4 M 7 (.tup [.str a,b]))(d:bv M b=a7 (ss.map .str))(t:ts.Perm ss)(l:ss.length<=60):u4 M 7 (.tup [.str a,.tup<|ts.map .str]):=by
 obtain⟨_,m,J,i⟩:=g.tup;obtain rfl:m=6:=by lia
 refine bh b0 (i (.str a)<|by simp)<|u4.mk (n:=5) (by rw[v5,t.length_eq];lia) b0 λx h=>?_;obtain⟨s,hs,rfl⟩:=w9.mp h;exact bq (i b<|by simp) d _<|w9.mpr ⟨s,t.mem_iff.mp hs,rfl⟩
def ho_2(c:GH M p)(u:GH M r)(t:Tabs M)(X:(∀ps rs,¬HouseFor M p r ps rs)->∀B,TM M B->RX L7 B)(h:∀ps rs B,HouseFor M p r ps rs->TM M B->R (ay ps rs) B)(P:TM M B) (b:bv M p=a7 xs) (O:bv M r=a7 ys) (U:xs'.Perm xs) (v:kH xs') (y:ys'.Perm ys) (w:kH ys') (j:RmTo M ys' rs') (s:∀x∈rs',u4 B 7 x):gU (Ev M RX) (EE M R) [y0,y1,a7<|.tup xs',a7<|.tup rs',y4] (B++[.lst rs']):=by
 obtain⟨k,m⟩:=cand b O U v y w j;simp only[gU];walk_at"dl";refine⟨s9,?_⟩;simp only[kL];walk_at"dl";have i:=bq c.g b;have z:xs'.length<=60:=by rw[U.length_eq];exact c.l xs b
 have A:rs'.length<=60:=by rw[j.len,y.length_eq];exact u.l ys O
 have o:u4 (B++[.lst rs']) 9 (.tup [.tup xs',.tup rs']):=bh b0 (u4.mk b7 b0 λx d=>((i x<|U.mem_iff.mp d).tm t P).grow aL)<|u4.mk b7 b0 λx d=>(s x d).grow aL;refine⟨9,_,rfl,o,?_⟩;cases q:cy (.tup [.tup xs',.tup rs']) with
 |false=>refine eG ⟨s9,.inr ⟨B,P.chg,aL,X (λps rs a=>?_) B P⟩⟩;rw[m ps rs a,a.f.house]at q;cases q
 |true=>obtain⟨ps,rs,a,e⟩:=k q;refine fP ?_;simp only[kK];walk_at"dl";rw[e];exact aE.chg P.chg (h ps rs B a P) (by rw[<-e];exact(P.len ▸ (bh (n:=8) b0 (u4.mk b7 b0 λx d=>((i x<|U.mem_iff.mp d).tm t P))<|u4.mk b7 b0 s).bel)) aL
def uz:P9 cJ 5 pI:=by
 rintro ds M R RX ⟨p,r,rfl,F,u,t,X,h⟩;simp only[pI];walk_at"dl";refine⟨p,rfl,F,t,λw=>.inl<|X (λps H i=>?_) M<|TM.now t,λxs ab E q T U V c=>?_⟩;obtain⟨xs,q,_⟩:=i.p;obtain⟨x,f,e⟩:=w xs q;rw[i.pn q x f]at e;cases e;have Z:=c.tabs t;simp only[kM];walk_at"dl";refine⟨r,rfl,u.tm t c,Z,λw=>.inr ⟨E,c.chg,Lc,X (λps H i=>?_) E c⟩,λys ys' B O A C W D=>?_⟩;obtain⟨ys,I,O,_⟩:=i.r;obtain⟨y,f,e⟩:=w ys (by rw[c.row t];exact O);rw[(i.rn O f).1]at e;cases e;have O:bv M r=a7 ys:=by rw[<-c.row t];exact O
 have P:TM M B:=TM.trans t c D;have L:=bq u.g O;have ly:ys'.length<=60:=by rw[C.length_eq];exact u.l ys O
 intro hz;refine iO (λaO acc S N=>∃done a,ys'=done++aO/\RmTo M done acc/\(∀x∈acc,u4 B 7 x)/\N=B/\S=[a]) ?_ ?_ _ _ _ _ ⟨[],_,rfl,.nil,(λ_ z=>nomatch z),rfl,rfl⟩;rintro acc S N ⟨done,a,e,s,v,rfl,rfl⟩;rw[Lh]at e;subst e;exact⟨trivial,_,ae,ho_2 F u t X h P q O U V C W s v⟩;rintro y aO acc S N ⟨done,a0,e,s,v,rfl,rfl⟩ K Q;refine⟨trivial,?_⟩;have f:y∈ys:=C.mem_iff.mp (by rw[e];simp);obtain⟨a,b,rfl⟩:=jT<|A y f;have j:=(L _ f).tm t P;obtain⟨_,m,em,J⟩:=j.tup;walk_at"dl";refine⟨m,a,b,rfl,J b b9,λI n=>u.m ys O _ f _ _ rfl I (by rw[<-P.row t];exact n),λY=>.inr ⟨N,P.chg,Lc,X (λps H i=>?_) N P⟩,λss ts n Y G st=>?_⟩;have:=(i.rn O f).2 _ _ rfl;unfold cC at Y this;rw[P.row t,this]at Y;cases Y;have k:bv M b=a7 (ss.map .str):=by rw[<-P.row t];exact n
 have o:=u.m ys O _ f _ _ rfl _ k;rw[v5]at o;have la:acc.length<=60:=by rw[s.len];have:=q9 Lq e;rw[E2]at this;lia
 refine⟨bA b7,Q _ _ _ ⟨done++[.tup [.str a,b]],_,by rw[e,F0];rfl,s.snoc k G st,λx d=>?_,rfl,rfl⟩⟩;rcases J7.mp d with d|d;exact v x d;rw[Ky.mp d];obtain rfl:m=6:=by lia
 exact AM j n G o
def jp(T:Tops P w K mg base):yA P w K mg base 8 "house_of" kw cJ:=yA.by (N:=["people","rooms","sorted_people","sorted_rooms","house"]) T.b T.f_house_of dz tP (by have:=vb T;have:=lC T;have:=iV T;have:=T.cl;walk_at"dvx") uz
noncomputable def gG(ns:List Int)(k:Nat):Int:=ns.getD k 0
def fq:A7:=λds M R=>∃(n:Nat) (ns:List Int) (k:Nat),ds=[.ref n,.int k]/\ah M n (ns.map D.int)/\R (.int<|gG ns k) M
def vC:fu fq nu:=by rintro ds M R ⟨n,ns,k,rfl,_⟩;rfl
def mK:t9:=be<|dC<|.int 0
def sM:t9:=aC (A6 (ar<|t6 MX (ac 1)<|u0 jR<|aa (ac 0) af) (be<|t6 v9 (ac 0)<|ac 1) aK)<|mK
def xw:D7 fq 2 sM:=by rintro ds M R ⟨n,ns,k,rfl,L,h⟩;simp only[sM,mK];walk_at"dl";refine⟨_,L,?_⟩;unfold gG at h;by_cases a:k<ns.length;rw[dT_<|by simpa using a];refine eG ⟨_,L,?_⟩;rw[aY (v:=.int ns[k])<|by rw[F5,A1 a];rfl];rw[G8,A1 a]at h;exact aE.now h;rw[dF_<|by simpa using a];rw[G8,MU<|by lia]at h;exact fP<|aE.now h
def xM(T:Tops P w K mg base):w4 P w K mg base 1 "_law_cell_at" nu fq:=w4.byD (N:=["_law_script","_law_k"]) T.b T.f_cell_at dz vC d4 xw
def iE:A7:=λds M R=>∃(c:Int) (n:Nat),ds=[.int c,.int n]/\n<=100/\∀xs:List Int,xs.length=n->R (.ref M.length) (M++[.lst<|xs.map .int])
def xT:fu iE qF:=by rintro ds M R ⟨c,n,rfl,_⟩;rfl
def wU:∀xs:List Int,Bels k (xs.map D.int)
 | []=>.nil
 |x::xs=>.cons (.int x)<|wU xs
def lP:∀xs:List c8,Bels k (xs.map D.str)
 | []=>.nil
 |x::xs=>.cons (.str x)<|lP xs
def oY:t9:=be<|ac 2
def oZ:t9:=nZ<|Mm eS (ac 2)<|aa (t6 dR (t6 ck (t6 dR (t6 mT (ac 6)<|dC<|.int 69621)<|dC<|.int 2147483587)<|dC<|.int 16)<|dC<|.int 1000000) af
def pc:t9:=aC (bD (t6 dR (t6 mT (ac 5)<|ac 5)<|dC<|.int 2147483629) 6)<|oZ
def ph:t9:=aC (nY (bJ<|aa (ac 1) af) (al 4)<|aC (bD (t6 dR (t6 aF (t6 aF (t6 mT (ac 5)<|dC<|.int 48271)<|t6 mT (dC<|.int 7919)<|ac 4)<|dC<|.int 11)<|dC<|.int 2147483647) 5)<|pc)<|oY
def pi:t9:=aC (bD (t6 dR (ac 3)<|dC<|.int 2147483647) 5)<|ph
def pj:t9:=be<|ac 2
def pq:t9:=bD (t6 ck (ac 3)<|dC<|.int 1000000) 3
def pA:t9:=aC (A6 (ar<|t6 G5 (t6 dR (ac 0)<|dC<|.int 2)<|dC<|.int 0) (aC (nY (bJ<|aa (ac 1) af) (al 4)<|aC (nZ<|Mm eS (ac 2)<|aa (t6 dR (ac 3)<|dC<|.int 1000000) af)<|pq)<|pj) aK)<|pi
def pD:t9:=aC (bD (t6 ck (ac 0)<|dC<|.int 2) 3)<|pA
def wc:t9:=aC (bD (cq af) 2)<|pD
def yH:D7 iE 7 wc:=by
 rintro ds M R ⟨c,n,rfl,o,h⟩;simp only[wc,pD,pA,pq,pj,pi];walk_at"dl";refine⟨B0 _,⟨b0,b0⟩,b0,⟨rfl,rfl⟩,?_⟩;have d:∀(xs:List Int) (L:t7),xs.length=n->aE M R (.ref M.length) (M++.lst (xs.map .int)::L):=λxs L e=>aE.lst (h xs e) (v7 _) bw<|wU xs;by_cases q:u8 (M++[MO.lst []]) v3 (.int<|c % 2) (.int 0)=a9;rw[q];refine eG ⟨⟨b7,b7⟩,?_⟩;refine bj (λi S f=>∃(xs:List Int) (r:Int) (a:Option D),xs.length=i/\f=M++.lst (xs.map .int)::[]/\S=[a7<|.int c,a7<|.int n,a7<|.ref M.length,a7<|.int r,a,a8,a8]) ?_ ?_ ⟨[],_,_,rfl,rfl,rfl⟩;rintro S f ⟨xs,r,a,x,rfl,rfl⟩;rw[bb]at x;exact⟨trivial,d xs []<|by lia⟩;rintro i y S f O ⟨xs,r,a,x,rfl,rfl⟩ G g;obtain⟨hi,rfl⟩:=bx.mp O;refine⟨trivial,?_⟩;walk_at"dl";refine⟨⟨_,.inl bw⟩,b0,xs.map .int,bw,by rw[v5];exact ag b7,⟨b0,b0⟩,E7.now<|g _ _ ⟨xs++[r % 1000000],_,_,by simp[x],?_,rfl⟩⟩;rw[fA];simp;rw[Mi.mpr q];refine fP ⟨b0,?_⟩;simp only[ph];walk_at"dl";refine⟨⟨b7,b7⟩,?_⟩;refine bj (λi S f=>∃(xs:List Int) (r z:Int) (a b:Option D),xs.length=i/\(0<=z/\z<2147483647)/\f=M++.lst (xs.map .int)::[]/\S=[a7<|.int c,a7<|.int n,a7<|.ref M.length,a7<|.int r,a,a7<|.int z,b]) ?_ ?_ ⟨[],_,_,_,_,rfl,⟨KH _ b0,K1 _<|by decide⟩,rfl,rfl⟩;rintro S f ⟨xs,r,z,a,b,x,_,rfl,rfl⟩;rw[bb]at x;refine⟨trivial,?_⟩
 try simp only[oY]
 try walk_at"dl"
 exact d xs [] b7;rintro i y S f O ⟨xs,r,z,a,b,x,⟨l,m⟩,rfl,rfl⟩ G g;obtain⟨hi,rfl⟩:=bx.mp O;refine⟨trivial,?_⟩;walk_at"dl";refine⟨.inr ⟨b0,b0⟩,.inl ⟨b0,b0⟩,b0,?_⟩;have j:=KH (z*48271+7919*(0+(i:Int))+11) (show (2147483647:Int)≠0 by decide);have k:=K1 (z*48271+7919*(0+(i:Int))+11) (show (0:Int)<2147483647 by decide);generalize (z*48271+7919*(0+(i:Int))+11) % 2147483647=F at j k;simp only[pc,oZ];walk_at"dl";refine⟨.inl ⟨b7,b7⟩,b0,⟨_,.inl bw⟩,.inr ⟨b0,b0⟩,b0,⟨b0,b0⟩,b0,xs.map .int,bw,by rw[v5];exact ag b7,E7.now<|g _ _ ⟨xs++[F*F % 2147483629*69621 % 2147483587 / 16 % 1000000],r,F,_,_,by simp[x],⟨j,k⟩,?_,rfl⟩⟩;rw[fA];simp
def sZ(T:Tops P w K mg base):w4 P w K mg base 1 "_law_stream" qF iE:=w4.byD (N:=["_law_cell","_law_many","_law_found","_law_rest","_law_k","_law_number","_law_other"]) T.b T.f_stream dz xT d4 yH
noncomputable def BC(c:Nat):Bool:=decide (97<=c)&&decide (c<=122)
def K8(x:c8):Prop:=x.cps.toList.all BC=a9
def zY(h1:K8 a)(h2:K8 b):K8 (a++b):=by unfold K8;rw[Bt,List.all_append,h1,h2];rfl
def sV:∀{xs ys:List c8},xs.Nodup->ys.Nodup->(∀x,x∈xs↔x∈ys)->xs.Pairwise (λa b=>aA b a=c5)->ys.Pairwise (λa b=>aA b a=c5)->xs=ys
 | [],ys,_,_,h,_,_=>(List.eq_nil_iff_forall_not_mem.mpr λy hy=>p5 ((h y).mpr hy)<|by simp).symm
 |x::xs,[],_,_,h,_,_=>p5 ((h x).mp A9)<|by simp
 |x::xs,y::ys,nx,ny,h,px,py=>by
  have nx':=KN.mp nx;have ny':=KN.mp ny;have px':=OR.mp px;have py':=OR.mp py;have e:x=y:=by
   refine MD λne=>?_;have hx:x∈ys:=((z7.mp<|(h x).mp A9).resolve_left ne)
   have hy:y∈xs:=((z7.mp<|(h y).mpr A9).resolve_left λz=>ne z.symm)
   exact ne<|qz (py'.1 x hx)<|px'.1 y hy
  subst e;rw[sV nx'.2 ny'.2 (λz=>?_) px'.2 py'.2];have hz:=h z;rw[z7,z7]at hz;constructor;intro q;exact(hz.mp<|.inr q).resolve_left λe=>nx'.1<|e ▸ q;intro q;exact(hz.mpr<|.inr q).resolve_left λe=>ny'.1<|e ▸ q
def mS{M:t7}{xs:List c8}(h:rJ M (xs.map .str)):xs.Pairwise (λa b=>aA b a=c5):=by unfold rJ at h;exact K0.mp h
def Es{xs:List D}{k:Nat}:cutD xs a8 (a7 (k:Int))=xs.take k:=by unfold cutD;rw[HT.sIx_none,HT.sIx_nat,List.drop_zero,Nat.sub_zero];by_cases h:k<=xs.length;rw[Nat.min_eq_left h];rw[Nat.min_eq_right b7,Mw,Qv<|by lia]
def jK{xs:List c8}(h:xs.Pairwise (λa b=>aA b a=c5))(X:xs.Nodup):xs.Pairwise λa b=>aA a b=a9:=by
 rw[L5]at X;refine(h.and X).imp λ{a b} ⟨h1,h2⟩=>?_;cases e:aA a b with
 |true=>rfl
 |false=>exact p5 (qz e h1) h2
def xb(h:y::xs=(kY 0 n).drop i):y=.int (i:Int)/\i<n/\xs=(kY 0 n).drop (i+1):=by
 have g:i<(kY 0 n).length:=by refine MD λz=>?_;rw[List.drop_eq_nil_of_le<|by lia]at h;cases h
 rw[List.drop_eq_getElem_cons g]at h;injection h with h1 h2;rw[bb]at g;obtain⟨_,e⟩:=bx.mp (A1<|show i<(kY 0 n).length by rw[bb];exact g);rw[NZ]at e;exact⟨h1.trans e,g,h2⟩
def wv{ms ns:List c8}{i:Nat}(hi:i<ns.length)(h:ms.Sublist (ns.take i)):(ms++[ns[i]]).Sublist (ns.take<|i+1):=by rw[List.take_add_one,A1 hi];exact h.append<|List.Sublist.refl _
def ww{ms ns:List c8}{i:Nat}(h:ms.Sublist (ns.take i)):ms.Sublist (ns.take<|i+1):=by rw[List.take_add_one];exact h.trans<|List.sublist_append_left _ _
def FE(d:c∈(x9 "abcdefghijklmnopqrstuvwxyz").cps.toList):K8 ⟨#[c]⟩:=by
 have g:(x9 "abcdefghijklmnopqrstuvwxyz").cps.toList=(B7 26).map (· + 97):=by decide +kernel
 rw[g]at d;obtain⟨k,h,rfl⟩:=w9.mp d;have:=G1.mp h;show (BC (k+97)&&a9)=a9;unfold BC;rw[Bool.and_true,A2,p6,p6];lia
noncomputable def yD(i:Int):Nat:=97+(i % 26).toNat
noncomputable def qh:c8:=x9 "abcdefghijklmnopqrstuvwxyz"
def xp(i:Int):atI qh.cps.toList (i % 26)=a7 (yD i):=by
 have g:qh.cps.toList=(B7 26).map (· + 97):=by decide +kernel
 have a:=KH i (show (26:Int)≠0 by decide);have h1:=K1 i (show (0:Int)<26 by decide);have e:i % 26=(((i % 26).toNat:Nat):Int):=by lia
 rw[e];refine aY ?_;rw[g,F5,Qn<|by lia];simp[yD,Nat.add_comm]
noncomputable def Cc(c:Int)(t:Int)(k j:Nat):Nat:=yD<|c / (49+5*(j:Int))+(j:Int)*(c / 49 % 3)+if (j:Int)=t then 3*(k:Int)else 0
noncomputable def iS(c t:Int)(k j:Nat):List Nat:=(B7 j).map<|Cc c t k
noncomputable def dj(c t:Int)(g k:Nat):c8:=⟨(iS c t k g).toArray⟩
noncomputable def cR(c t:Int)(g m:Nat):List c8:=(B7 m).map<|dj c t g
def eT:(dj c spot long k).length=long:=by rw[jr];simp[dj,iS]
def CN(h:yD i=yD j):i % 26=j % 26:=by have a:=KH i (show (26:Int)≠0 by decide);have h1:=KH j (show (26:Int)≠0 by decide);unfold yD at h;lia
def yL{c:Int}{t g:Nat}{k H:Nat}(hs:t<g)(h:k<6)(d:H < 6)(e:dj c t g k=dj c t g H):k=H:=by
 have a:(iS c t k g)[t]?=(iS c t H g)[t]?:=by
  have:(dj c t g k).cps.toList=(dj c t g H).cps.toList:=by rw[e]
  have h1:(dj c t g k).cps.toList=iS c t k g:=by simp[dj]
  have h2:(dj c t g H).cps.toList=iS c t H g:=by simp[dj]
  rw[h1,h2]at this;rw[this]
 unfold iS at a;rw[F5,F5,Qn hs]at a;have l:=CN<|C1 a;simp only[↓reduceIte]at l;lia
def zX(i:Int):BC (yD i)=a9:=by have a:=KH i (show (26:Int)≠0 by decide);have h1:=K1 i (show (0:Int)<26 by decide);unfold BC yD;rw[A2,p6,p6];lia
def jz:K8 (dj c spot long k):=by show ((B7 long).map<|Cc c spot k).toArray.toList.all BC=a9;rw[z5];intro x a;have h:x∈(B7 long).map (Cc c spot k):=a;obtain⟨j,_,rfl⟩:=w9.mp h;exact zX _
def Ko(s:List c8):Prop:=s.length=6/\s.Nodup/\(∀x∈s,1<=x.length/\x.length<=8)/\∀x∈s,K8 x
def mf{c:Int}{t g:Nat}(hs:t<g):(cR c t g 6).Nodup:=by unfold cR;rw[L5,K0];have:=ON (n:=6);rw[L5]at this;refine this.imp_of_mem λ{a b} ha hb hne e=>hne<|yL hs (G1.mp ha) (G1.mp hb) e
def lY:A7:=λds M R=>∃c:Int,ds=[.int c,.int 6]/\∀s,Ko s->R (.ref M.length) (M++[.lst<|s.map .str])
def Ab:fu lY uU:=by rintro ds M R ⟨c,rfl,_⟩;rfl
def ki:t9:=be<|ac 5
def rZ:t9:=aC (A6 (ar<|t6 G5 (t6 dR (t6 ck (ac 0)<|dC<|.int 49)<|dC<|.int 4)<|dC<|.int 1) (BE (t6 aF (t6 v9 (ac 5)<|dC<|.int 0)<|t6 v9 (ac 2)<|t6 dR (t6 ck (ac 0)<|dC<|.int 196)<|dC<|.int 26)<|Dw (ac 5)<|dC<|.int 1) aK)<|ki
def sd:t9:=nZ<|Mm eS (ac 5)<|aa (ac 7) af
def mi:t9:=bD (t6 aF (ac 7)<|t6 v9 (ac 2)<|t6 dR (ac 9)<|dC<|.int 26) 7
def se:t9:=aC (A6 (ar<|t6 G5 (ac 8)<|ac 4) (bD (t6 aF (ac 9)<|t6 mT (dC<|.int 3)<|ac 6) 9) aK)<|mi
def sf:t9:=aC (nY (bJ<|aa (ac 3) af) (al 8)<|aC (bD (t6 aF (t6 ck (ac 0)<|t6 aF (dC<|.int 49)<|t6 mT (dC<|.int 5)<|ac 8)<|t6 mT (ac 8)<|t6 dR (t6 ck (ac 0)<|dC<|.int 49)<|dC<|.int 3) 9)<|se)<|sd
def sg:t9:=aC (nY (bJ<|aa (ac 1) af) (al 6)<|aC (bD (dC<|.str "") 7)<|sf)<|rZ
def sh:t9:=aC (bD (cq af) 5)<|sg
def sj:t9:=aC (bD (t6 dR (t6 ck (ac 0)<|dC<|.int 7)<|ac 3) 4)<|sh
def sk:t9:=aC (bD (t6 aF (dC<|.int 1)<|t6 dR (ac 0)<|dC<|.int 7) 3)<|sj
def yZ:t9:=aC (bD (dC<|.str "abcdefghijklmnopqrstuvwxyz") 2)<|sk
def BJ:D7 lY 10 yZ:=by
 rintro ds M R ⟨c,rfl,h⟩;simp only[yZ,sk,sj,sh,sg];walk_at"dl";have c0:=KH c (show (7:Int)≠0 by decide);have c1:=K1 c (show (0:Int)<7 by decide);obtain⟨g,o⟩:∃l:Nat,(l:Int)=1+c % 7:=⟨(1+c % 7).toNat,b7⟩
 rw[<-o];have T:1<=g:=by lia
 have U:g<=7:=by lia
 have d0:=KH (c / 7) (show (g:Int)≠0 by lia);have d1:=K1 (c / 7) (show (0:Int)<(g:Int) by lia);obtain⟨t,p⟩:∃l:Nat,(l:Int)=c / 7 % (g:Int):=⟨(c / 7 % (g:Int)).toNat,b7⟩
 rw[<-p];have u:t<g:=by lia
 have I:qh.length<=sizeLine:=by decide +kernel
 refine⟨b0,⟨b0,b0⟩,b7,B0 _,⟨b0,b0⟩,?_⟩;refine bj (λi S m=>∃a b d e,m=M++.lst ((cR c t g i).map .str)::[]/\S=[a7<|.int c,a7<|.int 6,a7<|.str qh,a7<|.int g,a7<|.int t,a7<|.ref M.length,a,b,d,e]) ?_ ?_ ⟨_,_,_,_,rfl,rfl⟩;rintro S m ⟨a,b,d,e,rfl,rfl⟩;refine⟨trivial,?_⟩;rw[bb];simp only[rZ];walk_at"dl";refine⟨⟨b0,b0⟩,b0,⟨rfl,rfl⟩,?_⟩;have w:∀x∈cR c t g 6,1<=x.length/\x.length<=7:=λx f=>by unfold cR at f;obtain⟨k,_,rfl⟩:=w9.mp f;rw[eT];exact⟨T,U⟩
 have Y:(cR c t g 6).length=6:=by simp[cR]
 by_cases H:u8 (M++[MO.lst<|List.map D.str<|cR c (↑t) g<|Int.toNat 6]) v3 (.int<|c / 49 % 4) (.int 1)=a9;rw[H];refine eG ?_;have X:=mf (c:=c) u;have F:cR c t g 6=dj c t g 0::dj c t g 1::(List.range' 2 4).map (dj c t g):=rfl;have K:(Int.toNat 6)=6:=rfl;rw[K,F];refine⟨_,.inl bw,?_⟩;rw[B9,B9,QH];refine⟨⟨b0,b0⟩,b0,I,?_⟩;rw[xp];refine⟨by rw[nB,eT];exact ag b7,_,1,bw,?_,?_⟩;have:∀n:Nat,2<=n->LL n 1=a7 1:=λn hn=>by unfold LL;rw[o8 b0,o8<|by lia];rfl
 exact this _ b9;rw[fA];simp only[ki];walk_at"dl";refine aE.lst (h (dj c t g 0::(dj c t g 0++⟨#[yD<|c / 196]⟩)::(List.range' 2 4).map (dj c t g)) ?_) (v7 _) bw<|lP<|dj c t g 0::(dj c t g 0++⟨#[yD<|c / 196]⟩)::(List.range' 2 4).map (dj c t g);rw[F,KN,KN]at X;obtain⟨V,n2,W⟩:=X;have J:(dj c t g 0++⟨#[yD<|c / 196]⟩).length=g+1:=by rw[oo,nB,eT]
 have r:∀x∈(List.range' 2 4).map (dj c t g),x.length=g:=λx f=>by obtain⟨k,_,rfl⟩:=w9.mp f;exact eT
 refine⟨rfl,?_,λx f=>?_,λx f=>?_⟩;rw[KN,KN];refine⟨λz=>?_,λz=>?_,W⟩;rcases z7.mp z with z|z;have:=q9 Str.length z;rw[J,eT]at this;lia;exact V<|C4 _ z;have:=r _ z;lia;rcases z7.mp f with rfl|f;rw[eT];lia;rcases z7.mp f with rfl|f;rw[J];lia;rw[r x f];lia;rcases z7.mp f with rfl|f;exact jz;rcases z7.mp f with rfl|f;exact zY jz (by show (BC _&&a9)=a9;rw[zX];rfl);obtain⟨k,_,rfl⟩:=w9.mp f;exact jz;rw[Mi.mpr H];refine fP ?_;simp only[ki];walk_at"dl";exact aE.lst (h _ ⟨Y,mf u,λx f=>⟨(w x f).1,by have:=(w x f).2;lia⟩,λx f=>by obtain⟨k,_,rfl⟩:=w9.mp f;exact jz⟩) (v7 _) bw<|lP _;rintro k y S m O ⟨a,b,d,e,rfl,rfl⟩ G L;obtain⟨P,rfl⟩:=bx.mp O;have Q:k<6:=P;refine⟨trivial,?_⟩;simp only[sf];walk_at"dl";refine⟨⟨b7,b7⟩,?_⟩;refine bj (λj S m=>∃a b,m=M++.lst ((cR c t g k).map .str)::[]/\S=[a7<|.int c,a7<|.int 6,a7<|.str qh,a7<|.int g,a7<|.int t,a7<|.ref M.length,a7<|.int<|0+(k:Int),a7<|.str ⟨(iS c t k j).toArray⟩,a,b]) ?_ ?_ ⟨_,_,rfl,rfl⟩;rintro S m ⟨a,b,rfl,rfl⟩;refine⟨trivial,?_⟩;rw[bb];simp only[sd];walk_at"dl";refine⟨⟨_,.inl bw⟩,_,bw,?_,E7.now<|L _ _ ⟨_,_,_,_,?_,rfl⟩⟩;rw[v5,cR,v5,Ob];exact ag b7;rw[fA];simp[cR,List.range_succ,dj];rintro j y S m O ⟨a,b,rfl,rfl⟩ C A;obtain⟨hj,rfl⟩:=bx.mp O;have N:j<7:=by lia
 refine⟨trivial,?_⟩;walk_at"dl";refine⟨.inl ⟨b0,b0⟩,⟨b7,b7⟩,⟨b0,b0⟩,b0,.inl ⟨b7,b7⟩,?_⟩;have q:∀(E:SD->t7->Prop) (z:Int),z=c / (49+5*(j:Int))+(j:Int)*(c / 49 % 3)+(if (j:Int)=(t:Int)then 3*(k:Int)else 0) -> mi ⟨E7 (M++[MO.lst<|List.map D.str<|cR c (↑t) g k]) C,aE M R,E,E7 (M++[MO.lst<|List.map D.str<|cR c (↑t) g k]) C⟩ [a7<|.int c,a7<|.int 6,a7<|.str qh,a7<|.int g,a7<|.int t,a7<|.ref M.length,a7<|.int<|0+(k:Int),a7<|.str ⟨(iS c t k j).toArray⟩,a7<|.int<|0+(j:Int),a7<|.int z] (M++.lst ((cR c t g k).map .str)::[]):=by
  intro E z B;simp only[mi];walk_at"dl";refine⟨b0,I,?_⟩;rw[xp];have Z:(⟨(iS c t k j).toArray⟩:c8).length=j:=by rw[jr];simp[iS]
  refine⟨by rw[nB,Z];exact ag b7,E7.now<|A _ _ ⟨a7<|.int<|0+(j:Int),a7<|.int z,rfl,?_⟩⟩;have:(⟨(iS c t k<|j+1).toArray⟩:c8)=⟨(iS c t k j).toArray⟩++⟨#[yD z]⟩:=by refine uO ?_;rw[B];show (iS c t k<|j+1).toArray.toList=((iS c t k j).toArray ++ #[_]).toList;simp[iS,List.range_succ,Cc]
  rw[this]
 simp only[se];walk_at"dl";refine⟨⟨rfl,rfl⟩,?_⟩;have v:(0:Int)+(j:Int)=(j:Int):=by lia
 have z1:(0:Int)+(k:Int)=(k:Int):=by lia
 by_cases s:(j:Int)=(t:Int)
 rw[show u8 (M++[MO.lst<|List.map D.str<|cR c (↑t) g k]) v3 (D.int<|0 + ↑j) (D.int ↑t)=a9 by simp[u8,v,s]];refine eG ⟨.inl ⟨b0,b0⟩,q _ _ ?_⟩;rw[o8 s,v,z1];rw[show u8 (M++[MO.lst<|List.map D.str<|cR c (↑t) g k]) v3 (D.int<|0 + ↑j) (D.int ↑t)=c5 by simp[u8,v,s]];refine fP<|q _ _ ?_;rw[p0 s,v,Int.add_zero]
def Cy(T:Tops P w K mg base):w4 P w K mg base 1 "_law_words" uU lY:=w4.byD (N:=["_law_cell","_law_many","_law_letters","_law_long","_law_spot","_law_words_here","_law_k","_law_word","_law_j","_law_sign"]) T.b T.f_words dz Ab d4 BJ
def fi:A7:=λds M R=>∃(c:Int),ds=[.int c]/\∀(x:c8) (r:Int),1<=x.length->x.length<=8->K8 x->R (.tup [.str x,.int r]) M
def vA:fu fi nj:=by rintro ds M R ⟨c,rfl,_⟩;rfl
def mw:t9:=be<|bc<|aa (ac 3)<|aa (ac 0) af
def mx:t9:=bD (t6 ck (ac 0)<|dC<|.int 26) 0
def my:t9:=aC (nY (bJ<|aa (ac 2) af) (al 4)<|aC (bD (t6 aF (ac 3)<|t6 v9 (ac 1)<|t6 dR (ac 0)<|dC<|.int 26) 3)<|mx)<|mw
def mz:t9:=aC (bD (dC<|.str "") 3)<|my
def mB:t9:=aC (bD (t6 ck (ac 0)<|dC<|.int 8) 0)<|mz
def mC:t9:=aC (bD (t6 aF (dC<|.int 1)<|t6 dR (ac 0)<|dC<|.int 8) 2)<|mB
def sw:t9:=aC (bD (dC<|.str "abcdefghijklmnopqrstuvwxyz") 1)<|mC
def xu:D7 fi 5 sw:=by
 rintro ds M R ⟨c,rfl,h⟩;simp only[sw,mC,mB,mz,my];walk_at"dl";have k:=KH c (show (8:Int)≠0 by decide);have Y:=K1 c (show (0:Int)<8 by decide);have z:(x9 "abcdefghijklmnopqrstuvwxyz").length<=sizeLine:=by decide +kernel
 have l:(x9 "abcdefghijklmnopqrstuvwxyz").cps.toList.length=26:=by decide +kernel
 refine⟨b0,⟨b0,b0⟩,⟨b7,b7⟩,?_⟩;refine bj (λi S b=>b=M/\∃(x:c8) (r:Int) (a:Option D),x.length=i/\K8 x/\S=[a7<|.int r,a7<|.str<|x9 "abcdefghijklmnopqrstuvwxyz",a7<|.int<|1+c % 8,a7<|.str x,a]) ?_ ?_ ⟨rfl,_,_,_,dO,by unfold K8;decide +kernel,rfl⟩;rintro S b ⟨rfl,x,r,a,d,w,rfl⟩;rw[bb]at d;refine⟨trivial,?_⟩;simp only[mw];walk_at"dl";exact⟨ag b7,aE.now<|h x r b7 b7 w⟩;rintro i y S b O ⟨rfl,x,r,a,d,w,rfl⟩ G g;obtain⟨hi,rfl⟩:=bx.mp O;refine⟨trivial,?_⟩;obtain⟨j,L,e,_⟩:=kG (xs:=(x9 "abcdefghijklmnopqrstuvwxyz").cps.toList) (r:=r) b7;rw[l]at e;simp only[mx];walk_at"dl";refine⟨b0,z,?_⟩;have f:atI (x9 "abcdefghijklmnopqrstuvwxyz").cps.toList (r % 26)=a7 _:=e;rw[f];exact⟨by rw[nB];exact ag b7,⟨b0,b0⟩,E7.now<|g _ _ ⟨rfl,_,_,_,by rw[oo,nB,d],zY w<|FE<|KI L,rfl⟩⟩
def xL(T:Tops P w K mg base):w4 P w K mg base 1 "_law_name_in" nj fi:=w4.byD (N:=["_law_rest","_law_letters","_law_many","_law_name","_law_k"]) T.b T.f_name_in dz vA d4 xu
structure HouseOk(ps:List (c8×Int))(rs:List (c8×List c8)):Prop where
 nd:(ps.map (·.1)).Nodup
 len:1<=ps.length/\ps.length<=4
 many:∀p∈ps,1<=p.2/\p.2<=3
 nm:∀p∈ps,1<=p.1.length/\p.1.length<=8
 rl:1<=rs.length/\rs.length<=4
 rn:∀r∈rs,1<=r.1.length/\r.1.length<=8
 low:∀p∈ps,K8 p.1
 up:(ps.map (·.1)).Pairwise λa b=>aA a b=a9
 rlow:∀r∈rs,K8 r.1
 rup:(rs.map (·.1)).Pairwise λa b=>aA a b=a9
 mem:∀r∈rs,r.2≠[]/\r.2.Sublist (ps.map (·.1))
def bI:A7:=λds M R=>∃c:Int,ds=[.int c]/\∀ps a,HouseOk ps a->R (ay ps a) M
def jq:fu bI cF:=by rintro ds M R ⟨c,rfl,_⟩;rfl
def tZ:D5 k (ay ps rs):=by refine .tup<|.cons (.tup<|Bels.of λd h=>?_)<|.cons (.tup<|Bels.of λd h=>?_) .nil;obtain⟨p,_,rfl⟩:=w9.mp h;exact .tup<|.cons (.str _)<|.cons (.int _) .nil;obtain⟨p,_,rfl⟩:=w9.mp h;exact .tup<|.cons (.str _)<|.cons (.tup<|lP _) .nil
structure PplOk(kvs:List (c8×D)):Prop where
 nd:(kvs.map (·.1)).Nodup
 ok:∀p∈kvs,((1<=p.1.length/\p.1.length<=8)/\K8 p.1)/\∃v:Int,p.2=.int v/\1<=v/\v<=3
structure RmsOk(ns:List c8)(kvs:List (c8×D)):Prop where
 nd:(kvs.map (·.1)).Nodup
 ok:∀p∈kvs,((1<=p.1.length/\p.1.length<=8)/\K8 p.1)/\∃v:List c8,p.2=.tup (v.map .str)/\v≠[]/\v.Sublist ns
def bQ:t9:=be<|bc<|aa (u0 bX<|aa (E4 1 [1] (bK<|ac 5) (al 0) kg<|bc<|aa (ac 0)<|aa (Bi (ac 1)<|ac 0) af) af)<|aa (u0 bX<|aa (E4 1 [6] (bK<|u0 bN<|aa (ac 6) af) (al 0) kg<|bc<|aa (ac 0)<|aa (Bi (ac 1)<|ac 0) af) af) af
def db:t9:=bD (t6 ck (ac 0)<|dC<|.int 16) 0
def bR:t9:=aC (Bh (ac 6) (ac 7)<|u0 bX<|aa (ac 8) af)<|db
def dc:t9:=aC (A6 (ar<|t6 G5 (ac 8)<|cq af) (bD (J1 (ac 5) aX<|cA<|dC<|.int 1) 8) aK)<|bR
def de:t9:=aC (lr 1 [5,0] (bJ<|aa (u0 jR<|aa (ac 5) af) af) (al 0) (ar<|t6 G5 (t6 dR (t6 ck (ac 2)<|t6 v9 (cq<|aa (dC<|.int 1)<|aa (dC<|.int 2)<|aa (dC<|.int 4)<|aa (dC<|.int 8) af)<|ac 0)<|dC<|.int 2)<|dC<|.int 1) (t6 v9 (ac 1)<|ac 0) 8)<|dc
def df:t9:=aC (nY (bJ<|aa (ac 2) af) (al 3)<|aC (BE (u0 fi<|aa (ac 0) af)<|gI 2<|aQ (al 7)<|aQ (al 0) gJ)<|de)<|bQ
def dw:t9:=aC (bD (t6 ck (ac 0)<|dC<|.int 4) 0)<|df
def dy:t9:=aC (bD (t6 aF (dC<|.int 1)<|t6 dR (ac 0)<|dC<|.int 4) 2)<|dw
def dA:t9:=aC (bD (Bg) 6)<|dy
def dB:t9:=aC (bD (u0 bN<|aa (ac 1) af) 5)<|dA
def dD:t9:=bD (t6 ck (ac 0)<|dC<|.int 3) 0
def dF:t9:=aC (Bh (ac 1) (ac 4)<|t6 aF (dC<|.int 1)<|t6 dR (ac 0)<|dC<|.int 3)<|dD
def dG:t9:=aC (nY (bJ<|aa (ac 2) af) (al 3)<|aC (BE (u0 fi<|aa (ac 0) af)<|gI 2<|aQ (al 4)<|aQ (al 0) gJ)<|dF)<|dB
def dH:t9:=aC (bD (t6 ck (ac 0)<|dC<|.int 4) 0)<|dG
def dI:t9:=aC (bD (t6 aF (dC<|.int 1)<|t6 dR (ac 0)<|dC<|.int 4) 2)<|dH
def eU:t9:=aC (bD (Bg) 1)<|dI
theorem AE{M L:t7}{R:DK}{kvs s:List (c8×D)}{ns:List c8}{S:SD}{E:DEnds}(F:E.rt=aE M R)(h:∀ps rs,HouseOk ps rs->R (ay ps rs) M)(k:PplOk kvs)(V:1<=kvs.length/\kvs.length<=4)(n:ns.Perm (kvs.map (·.1)))(u:ns.Pairwise λa b=>aA b a=c5)(r:RmsOk ns s)(G:1<=s.length/\s.length<=4){K N P Q T U:Option D} (m:S=[K,a7<|.ref M.length,N,P,Q,a7<|.ref<|M.length+1,a7<|.ref<|M.length+2,T,U]):bQ E S (M++.dct kvs::.lst (ns.map .str)::.dct s::L):=by
 subst m;simp only[bQ];walk_at"dl";have X:ns.length=kvs.length:=by rw[n.length_eq,v5]
 have l:∀(q:List (c8×D)) (z:t7) (x:c8),x∈q.map (·.1)->∃d,(x,d)∈q/\rH q x=a7 d:=λq z x f=>by obtain⟨d,h1,h2⟩:=BP f;exact⟨d,h2,h1⟩
 refine⟨ns.map .str,.inl jX,λ_=>?_⟩;refine aN (λd=>.tup [d,((rH kvs<|KP d).getD .non)]) (λS=>∃a,S=[a,a7<|.ref M.length]) (.inl jX) _ _ _ (λd t S m=>?_) ⟨_,rfl⟩ ?_ ?_;obtain⟨a,rfl⟩:=m;obtain⟨x,f,rfl⟩:=w9.mp t;obtain⟨d,h1,h2⟩:=l kvs [] x<|n.mem_iff.mp f;refine⟨[a7<|.str x,a7<|.ref M.length],⟨_,rfl⟩,λY o=>?_⟩;walk_at"dl";refine⟨kvs,d,bw,h2,ag b7,?_⟩;rw[show KP (.str x)=x from rfl,h2]at o;exact o;simp only[Ix,v5];exact ag b7;refine⟨_,.inl ak,?_⟩;unfold bN;refine⟨(s.map (·.1)).map .str,.inr ⟨s,?_,by rw[B8];rfl⟩,kq el,λys w j=>?_⟩;rw[G4<|by simp];exact qY;obtain⟨ms,rfl,g⟩:=dS w;walk_at"dl";refine⟨_,.inl ak,λ_=>?_⟩;have W:ms.length=s.length:=by rw[g.length_eq,v5]
 refine aN (λd=>.tup [d,((rH s<|KP d).getD .non)]) (λS=>∃a,S=[a,a7<|.ref<|M.length+2]) (.inl ak) _ _ _ (λd t S m=>?_) ⟨_,rfl⟩ ?_ ?_;obtain⟨a,rfl⟩:=m;obtain⟨x,f,rfl⟩:=w9.mp t;obtain⟨d,h1,h2⟩:=l s [] x<|g.mem_iff.mp f;refine⟨[a7<|.str x,a7<|.ref<|M.length+2],⟨_,rfl⟩,λY o=>?_⟩;walk_at"dl";refine⟨s,d,?_,h2,ag b7,?_⟩;rw[G4 b9,G4<|by simp];exact qY;rw[show KP (.str x)=x from rfl,h2]at o;exact o;simp only[Ix,v5];exact ag b7;refine⟨_,.inl ak,ag b7,?_⟩;rw[F];simp only[E9,B8];have A:ns.map ((λd=>D.tup [d,(rH kvs<|KP d).getD .non]) ∘ D.str)=(ns.map λx=>(x,match rH kvs x with|some (.int v)=>v|_=>0)).map aG:=by rw[B8];refine LU λx f=>?_;obtain⟨d,h1,h2⟩:=l kvs [] x<|n.mem_iff.mp f;obtain⟨_,v,e,_⟩:=k.ok _ h1;simp only[Function.comp,KP,h2,OM,aG];have i:d=.int v:=e;rw[i]
 have B:ms.map ((λd=>D.tup [d,(rH s<|KP d).getD .non]) ∘ D.str)=(ms.map λx=>(x,match rH s x with|some (.tup v)=>v.map KP|_=>[])).map aJ:=by rw[B8];refine LU λx f=>?_;obtain⟨d,h1,h2⟩:=l s [] x<|g.mem_iff.mp f;obtain⟨_,v,e,_⟩:=r.ok _ h1;have i:d=.tup (v.map .str):=e;simp only[Function.comp,KP,h2,OM,aJ];rw[i];simp only[B8];congr 2
 rw[A,B];have y:(ns.map λx=>(x,match rH kvs x with|some (.int v)=>v|_=>0)).map (·.1)=ns:=by rw[B8];exact KU ns
 have J:(ms.map λx=>(x,match rH s x with|some (.tup v)=>v.map KP|_=>[])).map (·.1)=ms:=by rw[B8];exact KU ms
 refine aE.keep (h _ _ ⟨?_,?_,?_,?_,?_,?_,?_,?_,?_,?_,?_⟩) tZ ?_;rw[B8];have:((λx:c8×Int=>x.1) ∘ λx=>(x,match rH kvs x with|some (.int v)=>v|_=>0))=id:=rfl;rw[this,KU];exact(n.nodup_iff).mpr k.nd;rw[v5];lia;intro p c;obtain⟨x,f,rfl⟩:=w9.mp c;obtain⟨d,h1,h2⟩:=l kvs [] x<|n.mem_iff.mp f;obtain⟨_,v,e,H,O⟩:=k.ok _ h1;have i:d=.int v:=e;simp only[h2,i];exact⟨H,O⟩;intro p c;obtain⟨x,f,rfl⟩:=w9.mp c;obtain⟨d,h1,h2⟩:=l kvs [] x<|n.mem_iff.mp f;exact(k.ok _ h1).1.1;rw[v5];lia;intro p c;obtain⟨x,f,rfl⟩:=w9.mp c;obtain⟨d,h1,h2⟩:=l s [] x<|g.mem_iff.mp f;exact(r.ok _ h1).1.1;intro p c;obtain⟨x,f,rfl⟩:=w9.mp c;obtain⟨d,h1,h2⟩:=l kvs [] x<|n.mem_iff.mp f;exact(k.ok _ h1).1.2;rw[y];exact jK u<|n.nodup_iff.mpr k.nd;intro p c;obtain⟨x,f,rfl⟩:=w9.mp c;obtain⟨d,h1,h2⟩:=l s [] x<|g.mem_iff.mp f;exact(r.ok _ h1).1.2;rw[J];exact jK (mS j)<|g.nodup_iff.mpr r.nd;intro p c;rw[y];obtain⟨x,f,rfl⟩:=w9.mp c;obtain⟨d,h1,h2⟩:=l s [] x<|g.mem_iff.mp f;obtain⟨_,v,e,I,vs⟩:=r.ok _ h1;have i:d=.tup (v.map .str):=e;simp only[h2,i];have C:(v.map D.str).map KP=v:=by rw[B8];exact KU v
 rw[C];exact⟨I,vs⟩;simp only[F0];exact Kv _ _
def jy:D7 bI 9 eU:=by
 rintro ds M R ⟨c,rfl,h⟩;simp only[eU,dI,dH,dG];walk_at"dl";have c0:=KH c (show (4:Int)≠0 by decide);have c1:=K1 c (show (0:Int)<4 by decide);obtain⟨m,A⟩:∃l:Nat,(l:Int)=1+c % 4:=⟨(1+c % 4).toNat,b7⟩
 rw[<-A];refine⟨b0,⟨b0,b0⟩,⟨b7,b7⟩,?_⟩;refine bj (λi S g=>∃kvs r a b,PplOk kvs/\kvs.length<=i/\(1<=i->1<=kvs.length)/\g=M++.dct kvs::[]/\S=[a7<|.int r,a7<|.ref M.length,a7<|.int m,a,b,a8,a8,a8,a8]) ?_ ?_ ⟨[],_,_,_,⟨OH,λ_ z=>nomatch z⟩,v7 _,λz=>p5 z b0,rfl,rfl⟩;rintro S g ⟨kvs,r,a,b,T,hl,u,rfl,rfl⟩;rw[bb]at hl u;refine⟨trivial,?_⟩;have aj:kvs.length<=4:=by simp at hl;lia
 have ab:1<=kvs.length:=u c4;simp only[dB,dA,dy,dw,df];walk_at"dl";unfold bN;refine⟨(kvs.map (·.1)).map .str,.inr ⟨kvs,bw,by rw[B8];rfl⟩,kq el,λys ap C=>?_⟩;obtain⟨ns,rfl,N⟩:=dS ap;simp only[F0,LH,E9,E2,D4,Ix,Nat.add_assoc,Nat.reduceAdd];have d0:=KH r (show (4:Int)≠0 by decide);have d1:=K1 r (show (0:Int)<4 by decide);obtain⟨m2,ai⟩:∃l:Nat,(l:Int)=1+r % 4:=⟨(1+r % 4).toNat,b7⟩
 rw[<-ai];refine⟨b0,⟨b0,b0⟩,⟨b7,b7⟩,?_⟩;have nl:ns.length=kvs.length:=by rw[N.length_eq,v5]
 refine bj (λi S g=>∃s r P Q x7 U L,RmsOk ns s/\s.length<=i/\(1<=i->1<=s.length)/\g=M++.dct kvs::.lst (ns.map .str)::.dct s::L/\S=[a7<|.int r,a7<|.ref M.length,a7<|.int m2,P,Q,a7<|.ref<|M.length+1,a7<|.ref<|M.length+2,x7,U]) ?_ ?_ ⟨[],_,_,_,_,_,[],⟨OH,λ_ z=>nomatch z⟩,v7 _,λz=>p5 z b0,rfl,rfl⟩;rintro S g ⟨s,r,P,Q,x7,U,L,V,F,o,rfl,rfl⟩;rw[bb]at F o;refine⟨trivial,AE rfl h T ⟨ab,aj⟩ N (mS C) V ⟨o c4,by simp at F;lia⟩ rfl⟩;rintro i y S g O ⟨s,r,P,Q,x7,U,L,V,F,o,rfl,rfl⟩ G W;obtain⟨hi,rfl⟩:=bx.mp O;have Y:i<m2:=by simpa using hi
 refine⟨trivial,?_⟩;walk_at"dl";refine⟨r,rfl,λx r' x1 U p=>⟨rfl,?_⟩⟩;have I:∀(E:DEnds) (L:t7) (S:SD) (ms:List c8) (n:Nat) (P Q:Option D),ms≠[]->ms.Sublist ns->E.nx=E7 (M++[MO.dct kvs,MO.lst<|ns.map .str,MO.dct []]) G->ah (M++.dct kvs::.lst (ns.map .str)::.dct s::L) n (ms.map .str) -> S=[a7<|.int r',a7<|.ref M.length,a7<|.int m2,P,Q,a7<|.ref<|M.length+1,a7<|.ref<|M.length+2,a7<|.str x,a7<|.ref n]->bR E S (M++.dct kvs::.lst (ns.map .str)::.dct s::L):=by rintro E L S ms n P Q as ax hE hL rfl;simp only[bR,db];walk_at"dl";refine⟨_,hL,s,qY,bA b7,⟨b0,b0⟩,?_⟩;rw[hE,Cd];refine E7.now<|W _ _ ⟨xH s x<|.tup<|ms.map .str,_,_,_,_,_,L,⟨sX V.nd,wE V.ok ⟨⟨⟨x1,U⟩,p⟩,ms,rfl,as,ax⟩⟩,?_,λ_=>lS.2,rfl,rfl⟩;have:=(lS (kvs:=s) (k:=x) (d:=.tup<|ms.map .str)).1;lia
 simp only[de];walk_at"dl";refine⟨ns.map .str,.inl jX,⟨b7,el⟩,?_⟩;refine iO (λxs acc S g=>∃i,xs=(kY 0 ns.length).drop i/\∃(ms:List c8) (e:t7) (a:Option D),acc=ms.map .str/\ms.Sublist (ns.take i)/\ms.length+xs.length<=4/\g=M++.dct kvs::.lst (ns.map .str)::.dct s::e/\S=[a,a7<|.ref<|M.length+1,a7<|.int r']) ?_ ?_ _ _ _ _ ⟨0,?_,[],L,a8,rfl,List.nil_sublist _,?_,rfl,rfl⟩;rintro acc S g ⟨_,_,ms,e,a,rfl,H,_,rfl,rfl⟩;have f:ms.Sublist ns:=H.trans<|Of _ _;refine⟨trivial,?_⟩;simp only[dc];walk_at"dl";have B:∀X:t7,(M++MO.dct kvs::MO.lst (ns.map .str)::MO.dct s::e)++X=M++MO.dct kvs::MO.lst (ns.map .str)::MO.dct s::(e++X):=λX=>by simp
 have A:ah ((M++MO.dct kvs::MO.lst (ns.map .str)::MO.dct s::e)++[MO.lst<|ms.map .str]++[MO.lst []]) (M++MO.dct kvs::MO.lst (ns.map .str)::MO.dct s::e).length (ms.map .str):=ae.more _;have he:ah ((M++MO.dct kvs::MO.lst (ns.map .str)::MO.dct s::e)++[MO.lst<|ms.map .str]++[MO.lst []]) ((M++MO.dct kvs::MO.lst (ns.map .str)::MO.dct s::e)++[MO.lst<|ms.map .str]).length []:=ae;refine⟨B0 _,⟨ef (n:=29) A (λx hx=>by obtain⟨z,_,rfl⟩:=w9.mp hx;exact da),ef (n:=29) he<|λ_ z=>nomatch z⟩,?_⟩;rw[show u8 _ v3 (.ref (M++MO.dct kvs::MO.lst (ns.map .str)::MO.dct s::e).length) (.ref ((M++MO.dct kvs::MO.lst (ns.map .str)::MO.dct s::e)++[MO.lst<|ms.map .str]).length)=(ms.map D.str).isEmpty from(iN (n:=29) A he).trans rp];cases t:(ms.map D.str).isEmpty with
 |true =>
  refine eG ⟨ns.map .str,?_,?_⟩;rw[F0,B];exact .inl jX;have Z:cutD (ns.map D.str) a8 (a7 1)=(ns.take 1).map D.str:=by rw[List.map_take];exact Es (k:=1)
  rw[Z];have kn:ns.take 1≠[]:=λz=>by have:=q9 Lq z;rw[Li,Ix]at this;lia
  have J:(ns.take 1).Sublist ns:=Of _ _;generalize ns.take 1=ks at kn J;have q:ah ((M++MO.dct kvs::MO.lst (ns.map .str)::MO.dct s::e)++[MO.lst<|ms.map .str]++[MO.lst []]++[MO.lst<|ks.map .str]) ((M++MO.dct kvs::MO.lst (ns.map .str)::MO.dct s::e)++[MO.lst<|ms.map .str]++[MO.lst []]).length (ks.map .str):=ae;generalize ((M++MO.dct kvs::MO.lst (ns.map .str)::MO.dct s::e)++[MO.lst<|ms.map .str]++[MO.lst []]).length=nn at q;rw[F0,F0,B]at q ⊢;exact I _ _ _ ks nn _ _ kn J rfl q rfl
 |false=>refine fP ?_;generalize (M++MO.dct kvs::MO.lst (ns.map .str)::MO.dct s::e).length=nn at A;rw[F0,B]at A ⊢;exact I _ _ _ ms nn _ _ (λz=>by rw[z]at t;cases t) f rfl A rfl
 rintro y xs acc S g ⟨j,O,ms,e,a,rfl,f,an,rfl,rfl⟩ K hK;obtain⟨rfl,hj,aO⟩:=xb O;refine⟨trivial,?_⟩;walk_at"dl";refine⟨ag b7,_,ae,?_⟩;have B:∀X:t7,(M++MO.dct kvs::MO.lst (ns.map .str)::MO.dct s::e)++X=M++MO.dct kvs::MO.lst (ns.map .str)::MO.dct s::(e++X):=λX=>by simp
 obtain⟨w,hw,w0,w8⟩:∃w:Int,atI [D.int 1,D.int 2,D.int 4,D.int 8] (j:Int)=a7 (.int w)/\0<w/\w<=8:=by
  have:j=0\/j=1\/j=2\/j=3:=by lia
  rcases this with rfl|rfl|rfl|rfl;exact⟨1,aY (j:=0) rfl,b0,b0⟩;exact⟨2,aY (j:=1) rfl,b0,b0⟩;exact⟨4,aY (j:=2) rfl,b0,b0⟩;exact⟨8,aY (j:=3) rfl,b0,b0⟩
 rw[hw];refine⟨⟨w0,b7⟩,b0,⟨rfl,rfl⟩,?_⟩;rw[D4]at an;cases u8 ((M++MO.dct kvs::MO.lst (ns.map .str)::MO.dct s::e)++[MO.lst [D.int 1,D.int 2,D.int 4,D.int 8]]) v3 (.int<|r' / w % 2) (.int 1) with
 |true=>refine eG ⟨ns.map .str,by rw[B];exact .inl jX,?_⟩;rw[aY (j:=j) (v:=.str ns[j])<|by rw[F5,A1 hj];rfl];refine⟨by rw[v5];exact bA b7,hK _ _ _ ⟨j+1,aO,ms++[ns[j]],_,_,b9,wv hj f,?_,B _,rfl⟩⟩;rw[E2,Oj];lia
 |false=>exact fP<|hK _ _ _ ⟨j+1,aO,ms,_,_,rfl,ww f,b7,B _,rfl⟩
 rw[List.drop_zero,v5];congr 1;rw[bb];simp;lia;rintro i y S g O ⟨kvs,r,a,b,T,hl,u,rfl,rfl⟩ G W;obtain⟨hi,rfl⟩:=bx.mp O;have Y:i<m:=by simpa using hi
 refine⟨trivial,?_⟩;walk_at"dl";refine⟨r,rfl,λx r' x1 U p=>⟨rfl,?_⟩⟩;simp only[dF,dD];walk_at"dl";refine⟨b0,kvs,bw,bA b7,⟨b0,b0⟩,E7.now<|W _ _ ⟨xH kvs x<|.int<|1+r' % 3,_,_,_,⟨sX T.nd,wE T.ok ⟨⟨⟨x1,U⟩,p⟩,_,rfl,?_,?_⟩⟩,?_,λ_=>lS.2,fA,rfl⟩⟩;have:=KH r' (show (3:Int)≠0 by decide);lia;have:=K1 r' (show (0:Int)<3 by decide);lia;have:=(lS (kvs:=kvs) (k:=x) (d:=.int<|1+r' % 3)).1;lia
def jU(T:Tops P w K mg base):w4 P w K mg base 2 "_law_house_by_digits" cF bI:=w4.byD (N:=["_law_rest","_law_people","_law_many","_law_k","_law_name","_law_names","_law_rooms","_law_room","_law_members"]) T.b T.f_house_by_digits dz jq (by have:=xL T;walk_at"dv") jy
def md:A7:=λds M R=>∃c:Int,ds=[.int c]/\∀ps a,HouseOk ps a->R (ay ps a) M
def Ae:fu md uX:=by rintro ds M R ⟨c,rfl,_⟩;rfl
noncomputable def vY:D->c8×Int
 |.tup [.str x,.int v]=>(x,v)
 |_=>(M8,0)
noncomputable def DP:D->c8×List c8
 |.tup [.str x,.tup ms]=>(x,ms.map KP)
 |_=>(M8,[])
def yR(p:c8×Int):vY (aG p)=p:=rfl
theorem yQ(p:c8×List c8):DP (aJ p)=p:=by show (p.1,(p.2.map D.str).map KP)=p;rw[B8];have:KP ∘ D.str=id:=rfl;rw[this,KU]
def sQ{M:t7}{ps:List (c8×Int)}(h:ps.length<64):SrtOk M (ps.map aG):=by refine⟨by rw[v5];exact h,λx a=>?_,λx a y O=>?_,.inr<|.inr<|.inl λx a=>?_⟩;obtain⟨z,_,rfl⟩:=w9.mp a;rfl;obtain⟨z,_,rfl⟩:=w9.mp a;obtain⟨F,_,rfl⟩:=w9.mp O;show (if u8 M 29 (.str z.1) (.str F.1)=a9 then(if u8 M 29 (.int z.2) (.int F.2)=a9 then a9 else a9)else a9)=a9;split;split<;>rfl;rfl;obtain⟨z,_,rfl⟩:=w9.mp a;exact⟨_,_,rfl⟩
def zn{M:t7}{ps:List (c8×List c8)}(h:ps.length<64):SrtOk M (ps.map aJ):=by refine⟨by rw[v5];exact h,λx a=>?_,λx a y O=>?_,.inr<|.inr<|.inl λx a=>?_⟩;obtain⟨z,_,rfl⟩:=w9.mp a;show (a9&&((z.2.map D.str).all (D6 28)&&a9))=a9;rw[Nf,Bool.and_true,z5];intro d b;obtain⟨w,_,rfl⟩:=w9.mp b;rfl;obtain⟨z,_,rfl⟩:=w9.mp a;obtain⟨F,_,rfl⟩:=w9.mp O;show (if u8 M 29 (.str z.1) (.str F.1)=a9 then(if u8 M 29 (.tup<|z.2.map D.str) (.tup<|F.2.map D.str)=a9 then a9 else yi (u8 M 28) (kh M 28) (z.2.map D.str) (F.2.map D.str))else a9)=a9;split;split;rfl;exact xg _ _;rfl;obtain⟨z,_,rfl⟩:=w9.mp a;exact⟨_,_,rfl⟩
def AR{M:t7}{ps:List (c8×Int)}(X:(ps.map (·.1)).Nodup)(h:rJ M (ps.map aG)):(ps.map (·.1)).Pairwise λa b=>aA b a=c5:=by
 unfold rJ at h;rw[K0]at h ⊢;rw[L5,K0]at X;refine(h.and X).imp λ{a b} ⟨h1,h2⟩=>?_;have c:(if (b.1==a.1)=a9 then(if (b.2==a.2)=a9 then c5 else decide (b.2<a.2))else aA b.1 a.1)=c5:=h1
 rwa [p0<|by simpa using λz=>h2 z.symm]at c
def Ch{M:t7}{s:List (c8×List c8)}(X:(s.map (·.1)).Nodup)(h:rJ M (s.map aJ)):(s.map (·.1)).Pairwise λa b=>aA b a=c5:=by
 unfold rJ at h;rw[K0]at h ⊢;rw[L5,K0]at X;refine(h.and X).imp λ{a b} ⟨h1,h2⟩=>?_;have c:(if (b.1==a.1)=a9 then uw (u8 M 29) (C9 M 29) [.tup<|b.2.map .str] [.tup<|a.2.map .str]else aA b.1 a.1)=c5:=h1
 rwa [p0<|by simpa using λz=>h2 z.symm]at c
def pJ:t9:=be<|bc<|aa (u0 bX<|aa (u0 bN<|aa (ac 3) af) af)<|aa (u0 bX<|aa (u0 bN<|aa (ac 5) af) af) af
def jE:t9:=nZ<|Mm eS (ac 5)<|aa (bc<|aa (t6 v9 (ac 2)<|t6 BB (dC<|.int 5)<|ac 6)<|aa (u0 bX<|aa (ac 8) af) af) af
def sE:t9:=aC (A6 (ar<|t6 G5 (ac 8)<|cq af) (bD (cq<|aa (t6 v9 (ac 4)<|t6 dR (t6 ck (ac 7)<|dC<|.int 16)<|u0 jR<|aa (ac 4) af) af) 8) aK)<|jE
def sF:t9:=aC (lr 1 [4,7] (bJ<|aa (u0 jR<|aa (ac 4) af) af) (al 0) (ar<|t6 G5 (t6 dR (t6 ck (ac 2)<|t6 v9 (cq<|aa (dC<|.int 1)<|aa (dC<|.int 2)<|aa (dC<|.int 4)<|aa (dC<|.int 8) af)<|ac 0)<|dC<|.int 2)<|dC<|.int 1) (t6 v9 (ac 1)<|ac 0) 8)<|sE
def sG:t9:=aC (nY (bJ<|aa (t6 aF (dC<|.int 1)<|t6 dR (t6 ck (t6 v9 (ac 1)<|dC<|.int 1)<|dC<|.int 4)<|dC<|.int 4) af) (al 6)<|aC (bD (t6 v9 (ac 1)<|t6 aF (dC<|.int 6)<|ac 6) 7)<|sF)<|pJ
def sH:t9:=aC (bD (cq af) 5)<|sG
def sI:t9:=aC (bD (u0 bN<|aa (E4 2 [] (bK<|ac 3) (gI 2<|aQ (al 0)<|aQ (al 1) gJ) kg<|ac 0) af) 4)<|sH
def sJ:t9:=aC (lr 1 [2,1] (bJ<|aa (t6 aF (dC<|.int 1)<|t6 dR (t6 v9 (ac 1)<|dC<|.int 1)<|dC<|.int 4) af) (al 0) kg (bc<|aa (t6 v9 (ac 1)<|ac 0)<|aa (t6 aF (dC<|.int 1)<|t6 dR (t6 v9 (ac 2)<|t6 aF (dC<|.int 2)<|ac 0)<|dC<|.int 3) af) 3)<|sI
def sK:t9:=aC (bD (u0 lY<|aa (t6 v9 (ac 1)<|dC<|.int 0)<|aa (dC<|.int 6) af) 2)<|sJ
def sL:t9:=aC (bD (u0 iE<|aa (ac 0)<|aa (dC<|.int 12) af) 1)<|sK
def zd:t9:=aC (A6 (ar<|t6 G5 (t6 dR (ac 0)<|dC<|.int 2)<|dC<|.int 0) (be<|u0 bI<|aa (t6 ck (ac 0)<|dC<|.int 2) af) aK)<|sL
def tI{B:t7}{N:Nat}{ns:List c8}{r':Int}{Q:DK}(d:ah B N (ns.map .str))(m:ns.length<=4)(e:∀(ms:List c8) (L:t7),ms.length<=4->ms.Sublist ns->Q (.ref (B++L).length) ((B++L)++[.lst<|ms.map .str])):fX (λ_=>True) (al 0) (ar<|t6 G5 (t6 dR (t6 ck (ac 2)<|t6 v9 (cq<|aa (dC<|.int 1)<|aa (dC<|.int 2)<|aa (dC<|.int 4)<|aa (dC<|.int 8) af)<|ac 0)<|dC<|.int 2)<|dC<|.int 1) (t6 v9 (ac 1)<|ac 0) Q (kY 0 ns.length) [] [a8,a7<|.ref N,a7<|.int r'] B:=by
 refine iO (λxs acc S M=>∃i,xs=(kY 0 ns.length).drop i/\∃(ms:List c8) (b:t7) (a:Option D),acc=ms.map .str/\ms.Sublist (ns.take i)/\ms.length+xs.length<=4/\M=B++b/\S=[a,a7<|.ref N,a7<|.int r']) ?_ ?_ _ _ _ _ ⟨0,rfl,[],[],a8,rfl,List.nil_sublist _,?_,b9,rfl⟩;rintro acc S M ⟨_,_,ms,b,a,rfl,c,l,rfl,rfl⟩;exact⟨trivial,e ms b (by simpa using l)<|c.trans<|Of _ _⟩;rintro y xs acc S M ⟨j,O,ms,b,a,rfl,c,g,rfl,rfl⟩ K A;obtain⟨rfl,h,aO⟩:=xb O;refine⟨trivial,?_⟩;walk_at"dl";refine⟨ag b7,_,ae,?_⟩;obtain⟨w,f,k,n⟩:∃w:Int,atI [D.int 1,D.int 2,D.int 4,D.int 8] (j:Int)=a7 (.int w)/\0<w/\w<=8:=by
  have:j=0\/j=1\/j=2\/j=3:=by lia
  rcases this with rfl|rfl|rfl|rfl;exact⟨1,aY (j:=0) rfl,b0,b0⟩;exact⟨2,aY (j:=1) rfl,b0,b0⟩;exact⟨4,aY (j:=2) rfl,b0,b0⟩;exact⟨8,aY (j:=3) rfl,b0,b0⟩
 rw[f];refine⟨⟨k,b7⟩,b0,⟨rfl,rfl⟩,?_⟩;rw[D4]at g;cases u8 ((B++b)++[MO.lst [D.int 1,D.int 2,D.int 4,D.int 8]]) v3 (.int<|r' / w % 2) (.int 1) with
 |true=>refine eG ⟨ns.map .str,(d.more _).more _,?_⟩;rw[fZ h];refine⟨by rw[v5];exact bA b7,A _ _ _ ⟨j+1,aO,ms++[ns[j]],b++[MO.lst [D.int 1,D.int 2,D.int 4,D.int 8]],_,b9,wv h c,?_,by rw[F0],rfl⟩⟩;rw[E2,Oj];lia
 |false=>exact fP<|A _ _ _ ⟨j+1,aO,ms,b++[MO.lst [D.int 1,D.int 2,D.int 4,D.int 8]],_,rfl,ww c,b7,by rw[F0],rfl⟩
 rw[bb];simp;lia
def BN:D7 md 9 zd:=by
 rintro ds M R ⟨c,rfl,h⟩;simp only[zd,sL];walk_at"dl";refine⟨b0,⟨rfl,rfl⟩,?_⟩;cases u8 M v3 (.int<|c % 2) (.int 0) with
 |true=>exact eG ⟨⟨b0,b0⟩,c / 2,rfl,λps rs ok=>aE.now<|h ps rs ok⟩
 |false =>
  refine fP ⟨c,12,rfl,b0,λxs hx=>?_⟩;have ax:∀(j:Nat) (i:Int) (hj:j<12),i=(j:Int)->atI (xs.map D.int) i=a7 (.int<|xs[j]'(by lia)):=λj i hj e=>by subst e;exact fZ<|by lia
  simp only[sK];walk_at"dl";refine⟨_,ae,?_⟩;rw[ax 0 0 b0 rfl];refine⟨_,rfl,λw cd=>?_⟩;obtain⟨w6,bd,wl,V⟩:=cd;have hX:∀L:t7,ah (M++[MO.lst<|xs.map D.int]++[MO.lst<|w.map D.str]++L) M.length (xs.map D.int):=λL=>(ae.more _).more _;have hW:∀L:t7,ah (M++[MO.lst<|xs.map D.int]++[MO.lst<|w.map D.str]++L) (M++[MO.lst<|xs.map D.int]).length (w.map D.str):=λL=>ae.more _;have C:=hX [];have A:=hW [];rw[Lh]at C A;generalize (M++[MO.lst<|xs.map D.int]).length=nw at hW A;have T:M <+: M++[MO.lst<|xs.map D.int]++[MO.lst<|w.map D.str]:=by rw[F0];exact Kv _ _
  generalize M++[MO.lst<|xs.map D.int]++[MO.lst<|w.map D.str]=B at hX hW C A T;simp only[sJ];walk_at"dl";refine⟨_,C,?_⟩;obtain⟨W,e1⟩:∃v:Int,atI (xs.map D.int) 1=a7 (.int v):=⟨_,ax 1 1 b0 rfl⟩
  rw[e1];have n0:=KH W (show (4:Int)≠0 by decide);have n1:=K1 W (show (0:Int)<4 by decide);obtain⟨np,bl⟩:∃l:Nat,(l:Int)=1+W % 4:=⟨(1+W % 4).toNat,b7⟩
  dsimp only;rw[<-bl];refine⟨b0,⟨b7,b7⟩,?_⟩;obtain⟨f,o⟩:∃l:List (c8×Int),l=(B7 np).map λk=>(w.getD k M8,1+xs.getD (2+k) 0 % 3):=⟨_,rfl⟩
  have pl:f.length=np:=by rw[o];simp
  have pn:f.map (·.1)=w.take np:=by rw[o,B8];refine List.ext_getElem c4 λi h1 h2=>?_;simp only[v5,Ob]at h1;simp[G8,A1<|show i<w.length by lia]
  have an:(f.map (·.1)).Nodup:=by rw[pn];exact bd.sublist<|Of _ _
  have aP:∀p∈f,K8 p.1:=λp H=>V _ (Py<|by rw[<-pn];exact Ql H);have aS:∀p∈f,(1<=p.1.length/\p.1.length<=8)/\1<=p.2/\p.2<=3:=λp H=>by have hm:p.1∈w:=Py (by rw[<-pn];exact Ql H);refine⟨wl _ hm,?_⟩;rw[o]at H;obtain⟨k,_,rfl⟩:=w9.mp H;have:=KH (xs.getD (2+k) 0) (show (3:Int)≠0 by decide);have:=K1 (xs.getD (2+k) 0) (show (0:Int)<3 by decide);dsimp only;lia
  refine aN (λd=>match d with|.int k=>aG (w.getD k.toNat M8,1+xs.getD (2+k.toNat) 0 % 3)|_=>.non) (λS=>∃a,S=[a,a7<|.ref nw,a7<|.ref M.length]) trivial _ _ _ (λd hd S hS=>?_) ⟨_,rfl⟩ ?_ ?_;obtain⟨a,rfl⟩:=hS;obtain⟨k,hk⟩:=LV hd;obtain⟨k1,rfl⟩:=bx.mp hk;have k2:k<np:=by simpa using k1
  refine⟨[a7<|.int<|0+(k:Int),a7<|.ref nw,a7<|.ref M.length],⟨_,rfl⟩,λY hY=>?_⟩;walk_at"dl";refine⟨_,A,?_⟩;rw[show (0:Int)+(k:Int)=(k:Int) by lia,fZ<|show k<w.length by lia];refine⟨_,C,?_⟩;rw[ax (2+k) (2+(k:Int)) b7<|by lia];refine⟨b0,ag b7,?_⟩;rw[show (0:Int)+(k:Int)=(k:Int) by lia]at hY;simp only[LJ,aG,G8,A1 (show k<w.length by lia),A1 (show 2+k<xs.length by lia),OM]at hY;exact hY;simp only[Ix,bb];exact ag b7;have em:(kY 0 ((np:Int)).toNat).map (λd=>match d with|.int k=>aG (w.getD k.toNat M8,1+xs.getD (2+k.toNat) 0 % 3)|_=>.non)=f.map aG:=by rw[o];unfold kY;rw[B8,B8,LJ];refine LU λk _=>?_;simp[Function.comp]
  rw[E9,em];simp only[sI];walk_at"dl";refine⟨_,ae,λ_=>?_⟩;refine aN (λd=>.str (vY d).1) (λS=>∃a b,S=[a,b]) ae _ _ _ (λd hd S hS=>?_) ⟨_,_,rfl⟩ ?_ ?_;obtain⟨a,b,rfl⟩:=hS;obtain⟨q,hq,rfl⟩:=w9.mp hd;refine⟨[a7<|.str q.1,a7<|.int q.2],⟨_,_,rfl⟩,λY hY=>?_⟩;unfold aG;walk_at"dl";exact⟨trivial,hY⟩;simp only[Ix,v5];exact ag b7;have en:(f.map aG).map (λd=>D.str (vY d).1)=(f.map (·.1)).map .str:=by rw[B8,B8];rfl
  rw[E9,en];unfold bN;refine⟨_,.inl ae,kq el,λys aj I=>?_⟩;obtain⟨ns,rfl,ab⟩:=dS aj;have cl:=mS I;clear I;have nl:ns.length=np:=by rw[ab.length_eq,v5,pl]
  have gP:∀L:t7,ah (B++[MO.lst<|f.map aG]++[MO.lst ((f.map (·.1)).map D.str)]++[MO.lst<|ns.map D.str]++L) B.length (f.map aG):=λL=>((ae.more _).more _).more _;have gN:∀L:t7,ah (B++[MO.lst<|f.map aG]++[MO.lst ((f.map (·.1)).map D.str)]++[MO.lst<|ns.map D.str]++L) (B++[MO.lst<|f.map aG]++[MO.lst ((f.map (·.1)).map D.str)]).length (ns.map D.str):=λL=>ae.more _;have gX:∀L:t7,ah (B++[MO.lst<|f.map aG]++[MO.lst ((f.map (·.1)).map D.str)]++[MO.lst<|ns.map D.str]++L) M.length (xs.map D.int):=λL=>(((C.more _).more _).more _).more _;have gW:∀L:t7,ah (B++[MO.lst<|f.map aG]++[MO.lst ((f.map (·.1)).map D.str)]++[MO.lst<|ns.map D.str]++L) nw (w.map D.str):=λL=>(((A.more _).more _).more _).more _;have P:M <+: B++[MO.lst<|f.map aG]++[MO.lst ((f.map (·.1)).map D.str)]++[MO.lst<|ns.map D.str]:=by rw[F0,F0];exact T.trans<|Kv _ _
  generalize (B++[MO.lst<|f.map aG]++[MO.lst ((f.map (·.1)).map D.str)]).length=nN at gN;generalize B++[MO.lst<|f.map aG]++[MO.lst ((f.map (·.1)).map D.str)]++[MO.lst<|ns.map D.str]=F at gP gN gX gW P;generalize B.length=nP at gP;simp only[sH,sG];walk_at"dl";have bk:=gX [MO.lst []];refine⟨B0 _,_,bk,?_⟩;rw[e1];have m0:=KH (W / 4) (show (4:Int)≠0 by decide);have m1:=K1 (W / 4) (show (0:Int)<4 by decide);obtain⟨nr,bm⟩:∃l:Nat,(l:Int)=1+W / 4 % 4:=⟨(1+W / 4 % 4).toNat,b7⟩
  dsimp only;rw[<-bm];refine⟨⟨b0,b0⟩,b0,⟨b7,b7⟩,?_⟩;refine bj (λi S M'=>∃(s:List (c8×List c8)) (L:t7) (a b d:Option D),s.length=i/\(∀r∈s,1<=r.1.length/\r.1.length<=8)/\((∀r∈s,K8 r.1/\r.2≠[]/\r.2.Sublist ns)/\s.map (·.1)=(B7 i).map λj=>w.getD (5-j) M8)/\M'=F++.lst (s.map aJ)::L/\S=[a7<|.int c,a7<|.ref M.length,a7<|.ref nw,a7<|.ref nP,a7<|.ref nN,a7<|.ref F.length,a,b,d]) ?_ ?_ ⟨[],[],_,_,_,rfl,(λ_ z=>nomatch z),⟨(λ_ z=>nomatch z),rfl⟩,rfl,rfl⟩;rintro S M' ⟨s,L,a,b,d,hl,ai,⟨t,u⟩,rfl,rfl⟩;rw[bb,LJ]at hl;refine⟨trivial,?_⟩;simp only[pJ];walk_at"dl";unfold bN;refine⟨_,.inl<|gP _,sQ b7,λys aj bS=>?_⟩;obtain⟨ps,rfl,m⟩:=wF aG vY yR aj
  try walk_at"dl"
  refine⟨_,ae,_,.inl<|ah.more (.inl bw) _,zn b7,λzs ce ca=>?_⟩;obtain⟨rs,rfl,J⟩:=wF aJ DP yQ ce
  try walk_at"dl"
  have K:(ps.map (·.1)).Nodup:=((m.map _).nodup_iff).mpr an;have aT:(ps.map (·.1)).Pairwise λa b=>aA b a=c5:=AR K bS;have cm:(s.map (·.1)).Nodup:=by rw[bb,LJ]at u;rw[u];rw[L5,K0];have:=ON (n:=nr);rw[L5]at this;refine this.imp_of_mem λ{a b} ha hb hne e=>hne ?_;have ha:=G1.mp ha;have hb:=G1.mp hb;rw[G8,G8,A1 (show 5-a<w.length by lia),A1<|show 5-b<w.length by lia]at e;have e2:w[5-a]'(by lia)=w[5-b]'(by lia):=e;have pw:=PL.mp<|L5.mp bd;rcases Oc (5-a) (5-b)with q|q|q;exact p5 e2<|pw _ _ b7 b7 q;lia;exact p5 e2.symm<|pw _ _ b7 b7 q
  have U:(rs.map (·.1)).Nodup:=((J.map _).nodup_iff).mpr cm;have cn:(rs.map (·.1)).Pairwise λa b=>aA b a=c5:=Ch U ca;have bi:ps.map (·.1)=ns:=sV K (ab.nodup_iff.mpr an) (λx=>by rw[ab.mem_iff];exact(m.map _).mem_iff) aT cl;refine⟨_,ae,ag b7,aE.keep (h ps rs ⟨?_,?_,λp H=>(aS p<|m.mem_iff.mp H).2,λp H=>(aS p<|m.mem_iff.mp H).1,?_,λr g=>ai r<|J.mem_iff.mp g,λp H=>aP p<|m.mem_iff.mp H,jK aT K,λr g=>(t r<|J.mem_iff.mp g).1,jK cn U,λr g=>by rw[bi];exact(t r<|J.mem_iff.mp g).2⟩) tZ ?_⟩;exact((m.map _).nodup_iff).mpr an;rw[m.length_eq];lia;rw[J.length_eq];lia;simp only[F0];exact P.trans<|Kv _ _;rintro i y S M' hy ⟨s,L,a,b,d,hl,ai,⟨t,u⟩,rfl,rfl⟩ G hG;obtain⟨hi,rfl⟩:=bx.mp hy;have co:i<nr:=by simpa using hi
  refine⟨trivial,?_⟩;walk_at"dl";refine⟨_,gX _,?_⟩;obtain⟨O,eb⟩:∃v:Int,atI (xs.map D.int) (6+(0+(i:Int)))=a7 (.int v):=⟨_,ax (6+i) _ b7<|by lia⟩
  rw[eb];simp only[sF];walk_at"dl";refine⟨_,gN _,⟨b7,el⟩,?_⟩;rw[v5,LJ];refine tI (gN _) b7 λms L2 cp aD=>?_;have as:∀(E:DEnds) (L:t7) (ms:List c8) (n:Nat),ms≠[]->ms.Sublist ns->E.nx=E7 (F++[MO.lst []]) G->ah (F++.lst (s.map aJ)::L) n (ms.map .str)->jE E [a7<|.int c,a7<|.ref M.length,a7<|.ref nw,a7<|.ref nP,a7<|.ref nN,a7<|.ref F.length,a7<|.int<|0+(i:Int),a7<|.int O,a7<|.ref n] (F++.lst (s.map aJ)::L):=by
   intro E L ms n cg ch hE hL;simp only[jE];walk_at"dl";refine⟨⟨_,.inl bw⟩,_,gW _,?_⟩;have h5:5-i<w.length:=by lia
   rw[show (5:Int)-(0+(i:Int))=((5-i:Nat):Int) by lia,fZ h5];refine⟨_,hL,ag b7,s.map aJ,bw,by rw[v5];exact bA b7,?_⟩;rw[hE,fA];refine E7.now<|hG _ _ ⟨s++[(w[5-i],ms)],L,_,_,_,by simp[hl],λr g=>?_,⟨λr g=>?_,?_⟩,by simp[aJ],rfl⟩;rcases J7.mp g with g|g;exact ai r g;rw[Ky.mp g];exact wl _<|KI h5;rcases J7.mp g with g|g;exact t r g;rw[Ky.mp g];exact⟨V _<|KI h5,cg,ch⟩;rw[Mv,u,List.range_succ,Mv];simp[G8,A1 h5]
  have bf:∀X:t7,(F++MO.lst (s.map aJ)::L)++X=F++MO.lst (s.map aJ)::(L++X):=λX=>by simp
  simp only[sE];walk_at"dl";have hm:ah ((F++MO.lst (s.map aJ)::L)++L2++[MO.lst<|ms.map .str]++[MO.lst []]) ((F++MO.lst (s.map aJ)::L)++L2).length (ms.map .str):=ae.more _;have he:ah ((F++MO.lst (s.map aJ)::L)++L2++[MO.lst<|ms.map .str]++[MO.lst []]) ((F++MO.lst (s.map aJ)::L)++L2++[MO.lst<|ms.map .str]).length []:=ae;refine⟨B0 _,⟨ef (n:=29) hm (λx hx=>by obtain⟨z,_,rfl⟩:=w9.mp hx;exact da),ef (n:=29) he<|λ_ z=>nomatch z⟩,?_⟩;rw[show u8 _ v3 (.ref ((F++MO.lst (s.map aJ)::L)++L2).length) (.ref ((F++MO.lst (s.map aJ)::L)++L2++[MO.lst<|ms.map .str]).length)=(ms.map D.str).isEmpty from(iN (n:=29) hm he).trans rp];cases Q:(ms.map D.str).isEmpty with
  |true =>
   refine eG ?_;have q1:ah ((F++MO.lst (s.map aJ)::L)++L2++[MO.lst<|ms.map .str]++[MO.lst []]) nN (ns.map D.str):=by rw[F0,F0,bf];exact gN _
   refine⟨⟨b0,b0⟩,_,q1,el,_,q1,?_⟩;rw[v5];obtain⟨j,hj,ej,_⟩:=kG (xs:=ns.map D.str) (r:=O / 16) el;rw[v5]at ej;rw[ej,OP];refine⟨ag b7,?_⟩;rw[v5]at hj;have q:ah ((F++MO.lst (s.map aJ)::L)++L2++[MO.lst<|ms.map .str]++[MO.lst []]++[MO.lst<|[ns[j]].map .str]) ((F++MO.lst (s.map aJ)::L)++L2++[MO.lst<|ms.map .str]++[MO.lst []]).length ([ns[j]].map .str):=ae;generalize ((F++MO.lst (s.map aJ)::L)++L2++[MO.lst<|ms.map .str]++[MO.lst []]).length=nn at q;have N:∀Z X2 X3:t7,(F++MO.lst (s.map aJ)::L)++L2++Z++X2++X3=F++MO.lst (s.map aJ)::(L++(L2++(Z++(X2++X3)))):=λZ X2 X3=>by simp
   rw[N]at q;show jE _ _ ((F++MO.lst (s.map aJ)::L)++L2++[MO.lst<|ms.map .str]++[MO.lst []]++[MO.lst<|[ns[j]].map .str]);rw[N];exact as _ _ [ns[j]] nn b9 (List.singleton_sublist.mpr<|KI hj) rfl q
  |false =>
   refine fP ?_;generalize ((F++MO.lst (s.map aJ)::L)++L2).length=nn at hm;have ap:∀Z X2:t7,(F++MO.lst (s.map aJ)::L)++L2++Z++X2=F++MO.lst (s.map aJ)::(L++(L2++(Z++X2))):=λZ X2=>by simp
   rw[ap]at hm ⊢;exact as _ _ ms nn (λz=>by rw[z]at Q;cases Q) aD rfl hm
def CB(T:Tops P w K mg base):w4 P w K mg base 3 "_law_house" uX md:=w4.byD (N:=["_law_cell","_law_numbers","_law_words_here","_law_people","_law_names","_law_rooms","_law_k","_law_bits","_law_members"]) T.b T.f_house dz Ae (by have:=sZ T;have:=Cy T;have:=jU T;walk_at"dv") BN
noncomputable def NS:Nat->D->Bool
 | 0,_=>c5
 |_+1,.non=>a9
 |_+1,.int _=>a9
 |_+1,.str _=>a9
 |n+1,.tup xs=>xs.all<|NS n
 |_,_=>c5
def iF:Nat->A7:=λn ds M R=>∃a,ds=[a,a]/\NS n a=a9/\R (.bl a9) M
def CO:∀n,fu (iF n) wH:=by rintro n ds M R ⟨a,rfl,_⟩;rfl
def CI:∀ds M R,¬iF 0 ds M R:=by rintro ds M R ⟨a,rfl,h,_⟩;cases a<;>cases h
def wd(n:Nat):t9:=be<|dC<|.bl a9
def we(n:Nat):t9:=aC (nY (dZip<|aa (ac 0)<|aa (ac 1) af) (gI 2<|aQ (al 2)<|aQ (al 3) gJ)<|A6 (cM<|ar<|u0 (iF n)<|aa (ac 2)<|aa (ac 3) af) (be<|dC<|.bl c5) aK)<|wd n
def wf(n:Nat):t9:=aC (A6 (ar<|t6 Lw (u0 jR<|aa (ac 0) af)<|u0 jR<|aa (ac 1) af) (be<|dC<|.bl c5) aK)<|we n
def wg(n:Nat):t9:=aC (A6 (Ke (ar<|u0 fF<|aa (ac 1)<|aa (dC<|.ty "tuple") af)<|cM<|ar<|u0 fF<|aa (ac 0)<|aa (dC<|.ty "tuple") af) (be<|dC<|.bl c5) aK)<|wf n
def wj(n:Nat):t9:=aC (A6 (Ke (ar<|u0 fF<|aa (ac 1)<|aa (dC<|.ty "list") af)<|cM<|ar<|u0 fF<|aa (ac 0)<|aa (dC<|.ty "list") af) (be<|dC<|.bl c5) aK)<|wg n
def qp(n:Nat):t9:=aC (A6 (ar<|u0 fF<|aa (ac 1)<|aa (dC<|.ty "int") af) (be<|eu (u0 fF<|aa (ac 0)<|aa (dC<|.ty "int") af)<|eu (Bf<|u0 fF<|aa (ac 0)<|aa (dC<|.ty "bool") af)<|t6 G5 (ac 0)<|ac 1) aK)<|wj n
def lK(n:Nat):t9:=aC (A6 (ar<|u0 fF<|aa (ac 1)<|aa (dC<|.ty "str") af) (be<|eu (u0 fF<|aa (ac 0)<|aa (dC<|.ty "str") af)<|t6 G5 (ac 0)<|ac 1) aK)<|qp n
def lL(n:Nat):t9:=aC (A6 (ar<|u0 fF<|aa (ac 1)<|aa (dC<|.ty "bool") af) (be<|eu (u0 fF<|aa (ac 0)<|aa (dC<|.ty "bool") af)<|t6 G5 (ac 0)<|ac 1) aK)<|lK n
def pE(n:Nat):t9:=aC (A6 (ar<|t6 Nr (ac 1)<|dC .non) (be<|t6 Nr (ac 0)<|dC .non) aK)<|lL n
def EB:∀n,D7 (iF<|n+1) 4 (pE n):=by
 rintro n ds M R ⟨a,rfl,ok,h⟩;cases a with
 |non=>simp only[pE];walk_at"dl";exact aE.now h
 |int k=>simp only[pE,lL,lK,qp];walk_at"dl";simp(config:={ decide:=a9 }) only[and_self,true_and,↓reduceIte,u8,u9,r9];exact⟨rfl,aE.now h⟩
 |str k=>simp only[pE,lL,lK];walk_at"dl";simp(config:={ decide:=a9 }) only[and_self,true_and,↓reduceIte,u8,u9,r9];exact⟨rfl,aE.now h⟩
 |tup xs =>
  simp only[pE,lL,lK,qp,wj,wg,wf];walk_at"dl";simp(config:={ decide:=a9 }) only[and_self,true_and,↓reduceIte,u9,r9,show ∀k:Int,u8 M v3 (.int k) (.int k)=a9 from λk=>by simp[u8],Mg,C8];refine⟨rfl,?_⟩;simp only[we];walk_at"dl";refine⟨xs,xs,_,_,⟨rfl,rfl⟩,⟨rfl,rfl⟩,?_⟩;refine bj (λi S b=>b=M/\∃c d,S=[a7<|.tup xs,a7<|.tup xs,c,d]) ?_ ?_ ⟨rfl,_,_,rfl⟩;rintro S b ⟨rfl,c,d,rfl⟩;refine⟨⟨trivial,trivial⟩,?_⟩;simp only[wd];walk_at"dl";exact aE.now h;rintro i y S b O ⟨rfl,c,d,rfl⟩ G g;refine⟨⟨trivial,trivial⟩,?_⟩;obtain⟨x,j,rfl⟩:∃x,x∈xs/\y=.tup [x,x]:=by
   unfold L2.zipD at O;rw[F5]at O;cases e:(xs.zip xs)[i]? with
   |none=>rw[e]at O;cases O
   |some p=>rw[e]at O;obtain⟨t,l⟩:=List.getElem?_zip_eq_some.mp e;have f:p.1=p.2:=C1<|t.symm.trans l;refine⟨p.1,Kw t,?_⟩;rw[<-C1 O];show D.tup [p.1,p.2]=_;rw[<-f]
  walk_at"dl";refine⟨trivial,x,rfl,z5.mp ok x j,?_⟩;simp only[Mg,C8,↓reduceIte];exact E7.now<|g _ _ ⟨rfl,_,_,rfl⟩
 |_=>cases ok
def Dx(T:Tops P w K mg base)(n:Nat)(C:w4 P w K mg base (0+n) "_law_same" wH (iF n)):TopB mg B_ C_->List.Nodup (["_law_found","_law_due_here","_law_one","_law_other"]:List c8)->DerT P w K mg base (0+n) "_law_same" ["_law_found","_law_due_here","_law_one","_law_other"] (top 46) (pE n):=by walk_at"dv"
def uZ(T:Tops P w K mg base):∀n,w4 P w K mg base (0+n) "_law_same" wH (iF n)
 | 0=>w4.never T.f_same CI
 |n+1=>w4.byD (N:=["_law_found","_law_due_here","_law_one","_law_other"]) T.b T.f_same dz (CO<|n+1) (Dx T n<|uZ T n)<|EB n
noncomputable def kindN:List c8:=["NoHouse","NoRoom","NoMessage","NotYours","NoSaying","NoName","NoWhat","NoDeed","Strange","NoRow","Clash","Gap"]
noncomputable def CY(bs:List Bool):List Int:=((B7 12).filter λk=>bs.getD k c5).map λk:Nat=>(k:Int)
noncomputable def FX(bs:List Bool):D->Bool
 |.int k=>bs.getD k.toNat c5
 |_=>c5
def lZ:A7:=λds M R=>∃(q:Nat) (x:c8) (a:d6) (bs:List Bool),ds=[.ref q]/\M[q]?=a7 (.exc x a)/\kindN.map (wx T_ x)=bs.map a7/\R (.ref M.length) (M++[.lst<|(CY bs).map .int])
def Ad:fu lZ uW:=by rintro ds M R ⟨q,x,a,bs,rfl,_⟩;rfl
def apart:∀{bs:List Bool},(y::ys).map f=bs.map a7->∃b cs,bs=b::cs/\f y=a7 b/\ys.map f=cs.map a7
 | [],h=>nomatch h
 |b::cs,h=>by rw[B9,B9]at h;injection h with h1 h2;exact⟨b,cs,rfl,h1,h2⟩
def sA:t9:=be<|dLCH 1 [1] (aa (dC<|.int 12) af) (al 0) (ar<|t6 v9 (ac 1)<|ac 0)<|ac 0
def sB:t9:=aC (bD (t6 aF (ac 1)<|cq<|aa (xf T_ "Strange"<|ac 0)<|aa (xf T_ "NoRow"<|ac 0)<|aa (xf T_ "Clash"<|ac 0)<|aa (xf T_ "Gap"<|ac 0) af) 1)<|sA
def sC:t9:=aC (bD (t6 aF (ac 1)<|cq<|aa (xf T_ "NoSaying"<|ac 0)<|aa (xf T_ "NoName"<|ac 0)<|aa (xf T_ "NoWhat"<|ac 0)<|aa (xf T_ "NoDeed"<|ac 0) af) 1)<|sB
def zc:t9:=aC (bD (cq<|aa (xf T_ "NoHouse"<|ac 0)<|aa (xf T_ "NoRoom"<|ac 0)<|aa (xf T_ "NoMessage"<|ac 0)<|aa (xf T_ "NotYours"<|ac 0) af) 1)<|sC
def BL:D7 lZ 2 zc:=by
 rintro ds M R ⟨q,x,a,bs,rfl,g,b,h⟩;obtain⟨j,bs,rfl,Q,b⟩:=apart b;obtain⟨l,bs,rfl,t,b⟩:=apart b;obtain⟨m,bs,rfl,G,b⟩:=apart b;obtain⟨u,bs,rfl,T,b⟩:=apart b;obtain⟨v,bs,rfl,U,b⟩:=apart b;obtain⟨w,bs,rfl,V,b⟩:=apart b;obtain⟨n,bs,rfl,W,b⟩:=apart b;obtain⟨o,bs,rfl,X,b⟩:=apart b;obtain⟨p,bs,rfl,e8,b⟩:=apart b;obtain⟨r,bs,rfl,e9,b⟩:=apart b;obtain⟨e,bs,rfl,E,b⟩:=apart b;obtain⟨f,bs,rfl,F,b⟩:=apart b;simp only[zc];walk_at"dl";simp only[g,Q,t,G,T];refine⟨ag b0,?_⟩;have H:=aq (a:=MO.lst [.bl j,.bl l,.bl m,.bl u]) g;have J:(M++[MO.lst [.bl j,.bl l,.bl m,.bl u]])[M.length]?=a7 (.lst [.bl j,.bl l,.bl m,.bl u]):=ak;have N:M <+: M++[MO.lst [.bl j,.bl l,.bl m,.bl u]]:=aL;generalize M++[MO.lst [.bl j,.bl l,.bl m,.bl u]]=B at H J N;generalize M.length=q2 at J;simp only[sC];walk_at"dl";simp only[H,U,V,W,X];refine⟨ag b0,_,_,aq J,ak,ag b9,?_⟩;simp only[LH,E9];have g3:=aq (a:=MO.lst [.bl j,.bl l,.bl m,.bl u,.bl v,.bl w,.bl n,.bl o])<|aq (a:=MO.lst [.bl v,.bl w,.bl n,.bl o]) H;have K:=ak (M:=B++[MO.lst [.bl v,.bl w,.bl n,.bl o]]) (mo:=MO.lst [.bl j,.bl l,.bl m,.bl u,.bl v,.bl w,.bl n,.bl o]);have O:=(N.trans<|aL (mo:=MO.lst [.bl v,.bl w,.bl n,.bl o])).trans<|aL (mo:=MO.lst [.bl j,.bl l,.bl m,.bl u,.bl v,.bl w,.bl n,.bl o]);generalize B++[MO.lst [.bl v,.bl w,.bl n,.bl o]]++[MO.lst [.bl j,.bl l,.bl m,.bl u,.bl v,.bl w,.bl n,.bl o]]=C at g3 K O;generalize (B++[MO.lst [.bl v,.bl w,.bl n,.bl o]]).length=q3 at K;simp only[sB];walk_at"dl";simp only[g3,e8,e9,E,F];refine⟨ag b0,_,_,aq K,ak,ag b9,?_⟩;simp only[LH,E9];have A:=ak (M:=C++[MO.lst [.bl p,.bl r,.bl e,.bl f]]) (mo:=MO.lst [.bl j,.bl l,.bl m,.bl u,.bl v,.bl w,.bl n,.bl o,.bl p,.bl r,.bl e,.bl f]);have L:=(O.trans<|aL (mo:=MO.lst [.bl p,.bl r,.bl e,.bl f])).trans<|aL (mo:=MO.lst [.bl j,.bl l,.bl m,.bl u,.bl v,.bl w,.bl n,.bl o,.bl p,.bl r,.bl e,.bl f]);generalize C++[MO.lst [.bl p,.bl r,.bl e,.bl f]]++[MO.lst [.bl j,.bl l,.bl m,.bl u,.bl v,.bl w,.bl n,.bl o,.bl p,.bl r,.bl e,.bl f]]=B4 at A L;generalize (C++[MO.lst [.bl p,.bl r,.bl e,.bl f]]).length=P at A;simp only[sA];walk_at"dl";refine⟨⟨b0,b0⟩,?_⟩;obtain rfl:bs=[]:=by cases bs with|nil=>rfl|cons _ _=>cases b
 generalize z:[j,l,m,u,v,w,n,o,p,r,e,f]=bs at h;have eb:[D.bl j,.bl l,.bl m,.bl u,.bl v,.bl w,.bl n,.bl o,.bl p,.bl r,.bl e,.bl f]=bs.map .bl:=by rw[<-z];rfl
 have lb:bs.length=12:=by rw[<-z];rfl
 rw[eb]at A;refine bF (FX bs) (λd=>d) (λS=>∃c,S=[c,a7<|.ref P]) trivial _ _ _ ?_ ⟨_,rfl⟩ (by rw[Ix,bb];exact ag<|by decide) ?_;rintro d I S ⟨c,rfl⟩;obtain⟨i,hi⟩:=LV I;obtain⟨s,rfl⟩:=bx.mp hi;have s:i<12:=s;refine⟨[a7<|.int<|0+(i:Int),a7<|.ref P],⟨_,rfl⟩,λY Z y=>?_⟩;walk_at"dl";have ei:atI (bs.map D.bl) (0+(i:Int))=a7 (.bl<|bs.getD i c5):=by rw[NZ];refine aY ?_;rw[F5,G8,A1<|by lia];rfl
 refine⟨_,.inl A,?_⟩;rw[ei];have ek:FX bs (.int<|0+(i:Int))=bs.getD i c5:=by show bs.getD (0+(i:Int)).toNat c5=_;rw[NZ,LJ]
 rw[ek]at y;exact y;rw[E9,List.map_id'];refine aE.chgL (xs:=(CY bs).map .int) .refl h L.length_le ?_ (L.trans aL)<|Bels.of λd I=>?_;rw[ak];congr 2;unfold CY kY;rw[List.filter_map,B8];have t:(λi:Nat=>D.int<|0+(i:Int))=D.int ∘ λk:Nat=>(k:Int):=by funext k;show D.int (0+(k:Int))=.int (k:Int);rw[NZ]
 have G:(FX bs ∘ λi:Nat=>D.int<|0+(i:Int))=λk:Nat=>bs.getD k c5:=by funext k;show bs.getD ((0:Int)+(k:Int)).toNat c5=_;rw[NZ,LJ]
 rw[t,<-t,G,t];rfl;obtain⟨k,_,rfl⟩:=w9.mp I;exact .int _
def CA(T:Tops P w K mg base):Kt P w K mg base 1 "_law_kinds" uW lZ:=Kt.by (N:=["_law_e","_law_some"]) T.b T.f_kinds dz Ad (by have:=T.cl;walk_at"dvh") BL
def bL:A7:=λds M R=>∃(i:Nat) (m:Int) (xs:List D),ds=[.ref i,.int m]/\ah M i xs/\xs.length<=60/\(∀x∈xs,D5 M.length x)/\∀ys,ys.Perm xs->R (.tup ys) M/\R (.ref M.length) (M++[.lst ys])
def xS:fu bL qE:=by rintro ds M R ⟨i,m,xs,rfl,_⟩;rfl
def oV:t9:=be<|ac 2
def oW:t9:=aC (A6 (ar<|t6 G5 (t6 dR (ac 1)<|dC<|.int 3)<|dC<|.int 1) (be<|u0 bX<|aa (ac 2) af) aK)<|oV
def oX:t9:=aC (nY (bJ<|aa (u0 jR<|aa (ac 0) af) af) (al 3)<|nZ<|Mm mU (ac 2)<|aa (t6 dR (t6 ck (ac 1)<|t6 aF (ac 3)<|dC<|.int 1)<|t6 aF (ac 3)<|dC<|.int 1)<|aa (t6 v9 (ac 0)<|ac 3) af)<|oW
def wb:t9:=aC (bD (cq af) 2)<|oX
def yG:D7 bL 4 wb:=by
 rintro ds M R ⟨i,m,xs,rfl,L,r,q,h⟩;have u:=L.lt;simp only[wb,oX];walk_at"dl";refine⟨B0 _,xs,L.more _,⟨b7,b7⟩,?_⟩;refine bj (λk S N=>∃s a,N=M++[.lst s]/\s.Perm (xs.take k)/\S=[a7<|.ref i,a7<|.int m,a7<|.ref M.length,a]) ?_ ?_ ⟨[],_,rfl,.refl _,rfl⟩;rintro S N ⟨s,a,rfl,f,rfl⟩;refine⟨trivial,?_⟩;rw[bb,LJ,Mw]at f;obtain⟨h1,h2⟩:=h s f;have n:Bels M.length s:=Bels.of λx c=>q x<|f.mem_iff.mp c;simp only[oW];walk_at"dl";have l:(M++[MO.lst s])[M.length]?=a7 (.lst s):=ak;refine⟨b0,⟨aM,aM⟩,?_⟩;cases e:u8 (M++[MO.lst s]) v3 (.int<|m % 3) (.int 1) with
 |true=>exact eG ⟨s,.inl l,aE.chg .refl h1 (.tup n) aL⟩
 |false=>refine fP ?_;simp only[oV];walk_at"dl";exact .inl h2
 rintro k y S N O ⟨s,a,rfl,f,rfl⟩ G p;refine⟨trivial,?_⟩;obtain⟨d,rfl⟩:=bx.mp O;have d:k<xs.length:=by simpa using d
 have c:xs[k]?=a7 xs[k]:=A1 d;walk_at"dl";have l:(M++[MO.lst s])[M.length]?=a7 (.lst s):=ak;have A:s.length=k:=by rw[f.length_eq,Li];lia
 refine⟨⟨s,.inl l⟩,⟨b7,b7⟩,b7,xs,L.more _,?_⟩;have o:atI xs (0+(k:Int))=a7 xs[k]:=by rw[NZ,aY];exact c
 rw[o];obtain⟨j,g⟩:=Int.eq_ofNat_of_zero_le (KH (m / (0+(k:Int)+1)) (b:=0+(k:Int)+1)<|by lia);have t:=K1 (m / (0+(k:Int)+1)) (b:=0+(k:Int)+1) b7;rw[g]at t;refine⟨s,j,l,g,b7,b7,E7.now<|p _ _ ⟨s.take j++xs[k]::s.drop j,_,?_,?_,rfl⟩⟩;exact fA;rw[List.take_succ,c];refine(List.perm_middle.trans ?_).trans<|List.perm_append_comm (l₁:=[xs[k]]) (l₂:=xs.take k);rw[Qr];exact f.cons _
def zS(T:Tops P w K mg base):w4 P w K mg base 1 "_law_turned" qE bL:=w4.byD (N:=["_law_some","_law_number","_law_found","_law_k"]) T.b T.f_turned dz xS d4 yG
def lH(P:D->D->Prop):List D->List D->Prop
 | [],[]=>True
 |x::xs,y::ys=>P x y/\lH P xs ys
 |_,_=>False
def KB(M:t7):Nat->D->D->Prop
 |n+1,.tup xs,.tup ys=>lH (KB M n) xs ys
 |n+1,.ref i,.ref j=>∃xs ys,ah M i xs/\ah M j ys/\lH (KB M n) xs ys
 |_,.tup _,_=>False
 |_,.ref _,_=>False
 |_,.ty _,_=>False
 |_,a,b=>a=b
def lH.imp{P Q:D->D->Prop}(h:∀a b,P a b->Q a b):∀{xs ys:List D},lH P xs ys->lH Q xs ys
 | [],[],_=>trivial
 |_::_,_::_,⟨h1,h2⟩=>⟨h _ _ h1,lH.imp h h2⟩
def lH.snoc{P:D->D->Prop}{x y:D}(h:P x y):∀{xs ys:List D},lH P xs ys->lH P (xs++[x]) (ys++[y])
 | [],[],_=>⟨h,trivial⟩
 |_::_,_::_,⟨h1,h2⟩=>⟨h1,lH.snoc h h2⟩
def KB.pre(p:∀i xs,ah M i xs->ah B i xs):∀(n:Nat) (a b:D),KB M n a b->KB B n a b:=by
 intro n;induction n with
 |zero=>intro a b h;cases a<;>exact h
 |succ n c =>
  intro a b h;cases a with
  |tup xs =>
   cases b with
   |tup ys=>exact lH.imp (c) h
   |_=>exact h
  |ref i =>
   cases b with
   |ref j=>obtain⟨xs,ys,h1,h2,d⟩:=h;exact⟨xs,ys,p i xs h1,p j ys h2,lH.imp c d⟩
   |_=>exact h
  |_=>exact h
def lH.eq:∀{xs ys:List D},lH (λa b=>(g a=a9/\g b=a9)/\f a b=a9) xs ys->(xs.all g=a9/\ys.all g=a9)/\D9 f xs ys=a9
 | [],[],_=>⟨⟨rfl,rfl⟩,rfl⟩
 |x::xs,y::ys,⟨⟨⟨h1,h2⟩,h3⟩,h4⟩=>by obtain⟨⟨a,b⟩,c⟩:=lH.eq h4;refine⟨⟨?_,?_⟩,?_⟩;rw[KL,h1,a];rfl;rw[KL,h2,b];rfl;show (f x y&&D9 f xs ys)=a9;rw[h3,c];rfl
def KB.eq:∀(n m:Nat) (a b:D),n<=m->KB M n a b->(u9 M m a=a9/\u9 M m b=a9)/\u8 M m a b=a9:=by
 intro n;induction n with
 |zero =>
  intro m a b _ h;cases a with
  |tup xs=>exact h.elim
  |ref i=>exact h.elim
  |ty t=>exact h.elim
  |non=>obtain rfl:=h;exact⟨⟨kA,kA⟩,by cases m<;>rfl⟩
  |bl c=>obtain rfl:=h;exact⟨⟨nC,nC⟩,by rw[AV];exact r9 c⟩
  |int i=>obtain rfl:=h;exact⟨⟨aM,aM⟩,by rw[cG];exact r9 i⟩
  |str x=>obtain rfl:=h;exact⟨⟨da,da⟩,by rw[AU];exact r9 x⟩
 |succ n l =>
  intro m a b p h;cases m with
  |zero=>lia
  |succ m =>
   cases a with
   |tup xs =>
    cases b with
    |tup ys=>obtain⟨⟨q,d⟩,e⟩:=lH.eq (f:=u8 M m) (g:=u9 M m)<|lH.imp (λa b k=>l m a b b7 k) h;exact⟨⟨q,d⟩,e⟩
    |_=>exact h.elim
   |ref i =>
    cases b with
    |ref j=>obtain⟨xs,ys,h1,h2,o⟩:=h;obtain⟨⟨q,d⟩,e⟩:=lH.eq (f:=u8 M m) (g:=u9 M m)<|lH.imp (λa b k=>l m a b b7 k) o;exact⟨⟨ef h1<|z5.mp q,ef h2<|z5.mp d⟩,by rw[iN h1 h2];exact e⟩
    |_=>exact h.elim
   |ty t=>exact h.elim
   |non=>obtain rfl:=h;exact⟨⟨kA,kA⟩,rfl⟩
   |bl c=>obtain rfl:=h;exact⟨⟨nC,nC⟩,by rw[AV];exact r9 c⟩
   |int i=>obtain rfl:=h;exact⟨⟨aM,aM⟩,by rw[cG];exact r9 i⟩
   |str x=>obtain rfl:=h;exact⟨⟨da,da⟩,by rw[AU];exact r9 x⟩
def bZ:Nat->A7:=λn ds M R=>∃(m:Nat) (d:D),n=m+1/\ds=[d]/\u4 M m d/\∀b B,M <+: B->KB B m d b->R b B
def xW:∀n,fu (bZ n) lV:=by rintro n ds M R ⟨m,d,_,rfl,_⟩;rfl
def xO:∀ds M R,¬bZ 0 ds M R:=by rintro ds M R ⟨m,d,e,_⟩;lia
def pK(n:Nat):t9:=be<|ac 0
def km(n:Nat):t9:=aC (A6 (ar<|u0 fF<|aa (ac 0)<|aa (dC<|.ty "tuple") af) (be<|u0 bX<|aa (E4 1 [] (bK<|ac 0) (al 0) kg<|u0 (bZ n)<|aa (ac 0) af) af) aK)<|pK n
def jI(n:Nat):t9:=aC (A6 (ar<|u0 fF<|aa (ac 0)<|aa (dC<|.ty "list") af) (be<|E4 1 [] (bK<|ac 0) (al 0) kg<|u0 (bZ n)<|aa (ac 0) af) aK)<|km n
def yK:∀n,D7 (bZ<|n+1) 1 (jI n):=by
 rintro n ds M R ⟨m,d,J,rfl,g,h⟩;obtain rfl:n=m:=by lia
 have l:∀{A B:t7},A <+: B->∀i xs,ah A i xs->ah B i xs:=λp i xs f=>by obtain⟨L,rfl⟩:=p;exact f.more L
 have o:∀{k:Nat}{xs:List D}{ok:t7->Prop}{Q:DK},n=k+1->(∀x∈xs,u4 M k x)->xs.length<=sizeLine->(∀B,M <+: B->ok B)->(∀ys B,M <+: B->lH (KB (B++[.lst ys]) k) xs ys->Q (.ref B.length) (B++[.lst ys])) -> fX ok (al 0) kg (u0 (bZ n)<|aa (ac 0) af) Q xs [] [a8] M:=λ{k xs ok Q} en q z hok hQ=>by refine iO (λaO acc S N=>∃done a,xs=done++aO/\M <+: N/\lH (KB N k) done acc/\acc.length=done.length/\S=[a]) ?_ ?_ _ _ _ _ ⟨[],_,rfl,Lc,trivial,rfl,rfl⟩;rintro acc S N ⟨done,a,e,j,b,_,rfl⟩;rw[Lh]at e;subst e;exact⟨hok N j,hQ acc N j<|lH.imp (KB.pre (l aL) k) b⟩;rintro y aO acc S N ⟨done,a,e,j,b,w,rfl⟩ K u;refine⟨hok N j,?_⟩;have le:=q9 Lq e;rw[E2,D4]at le;refine⟨k,y,en,rfl,(q y<|by rw[e];simp).grow j,λC B r c=>⟨b7,u _ _ _ ⟨done++[y],_,by rw[e,F0];rfl,j.trans r,lH.snoc c<|lH.imp (KB.pre (l r) k) b,by rw[E2,E2,w];rfl,rfl⟩⟩⟩
 rcases kW g with⟨xs,v,k,Y,q⟩|⟨e,ty⟩
 rcases bW v with⟨i,rfl,f⟩|rfl;simp only[jI];walk_at"dl";have ty:=f.ty;simp only[A0]at ty;rw[ty];refine⟨⟨b0,b0⟩,eG ⟨xs,f,λz=>o Y q z (λB p=>l p i xs f) λys B r b=>.inl<|h _ _ (r.trans aL) ?_⟩⟩;subst Y;exact⟨xs,ys,l (r.trans aL) i xs f,ae,b⟩;simp only[jI,km];walk_at"dl";refine⟨⟨b0,b0⟩,fP ⟨⟨b0,b0⟩,eG λz=>o Y q z (λ_ _=>trivial) λys B r b=>⟨ys,ae,.inl<|h _ _ (r.trans aL) ?_⟩⟩⟩;subst Y;exact b;simp only[jI,km,pK];rw[Bool.or_eq_false_iff]at ty;have s:=g.thing.1;have b:KB M n d d:=by
  cases d with
  |tup xs=>cases e
  |ref i=>rw[cS s]at ty;exact p5 ty.1<|by decide
  |ty t=>obtain⟨_,g⟩:=g;cases n<;>cases g
  |_=>cases n<;>rfl
 simp only[EE,aC,A6,ar,u0,aa,ac,dC,af,be,fF,aK,Op,B9,Me,LH,E9,LY,LR,D4,Ix,Nat.reduceAdd,LD,Nm];refine⟨⟨s,b0⟩,?_⟩;rw[ty.1];refine fP ⟨⟨s,b0⟩,?_⟩;rw[ty.2];exact fP<|.inl<|h d M Lc b
def yf(T:Tops P w K mg base)(n:Nat)(C:w4 P w K mg base (0+n) "_law_copied" lV (bZ n)):TopB mg B_ C_->List.Nodup (["_law_some"]:List c8)->DerT P w K mg base (0+n) "_law_copied" ["_law_some"] (top 49) (jI n):=by walk_at"dv"
def tE(T:Tops P w K mg base):∀n,w4 P w K mg base (0+n) "_law_copied" lV (bZ n)
 | 0=>w4.never T.f_copied xO
 |n+1=>w4.byD (N:=["_law_some"]) T.b T.f_copied dz (xW<|n+1) (yf T n<|tE T n)<|yK n
def bO:A7:=λds M R=>∃p r:D,ds=[p,r]/\GH M p/\GH M r/\Tabs M/\(∀ps a,¬HouseFor M p r ps a)/\∀B,TM M B->R (.bl a9) B
def vt:fu bO nh:=by rintro ds M R ⟨p,r,rfl,_⟩;rfl
def wZ:∀{xs:List D},(∀x∈xs,f x x=a9)->D9 f xs xs=a9
 | [],_=>rfl
 |x::xs,h=>by show (f x x&&D9 f xs xs)=a9;rw[h x b9,wZ λy hy=>h y<|C4 _ hy];rfl
def BU(hi:ah M i xs)(hj:ah M j xs)(h:∀x∈xs,u9 M 28 x=a9/\u8 M 28 x x=a9):(u9 M v3 (.tup [.ref i,.bl b])=a9/\u9 M v3 (.tup [.ref j,.bl b])=a9)/\u8 M v3 (.tup [.ref i,.bl b]) (.tup [.ref j,.bl b])=a9:=by
 have o:∀{i:Nat},ah M i xs->u9 M v3 (.tup [.ref i,.bl b])=a9:=λhi=>zU (n:=29) λx a=>by rcases z7.mp a with rfl|a;exact ef (n:=28) hi λx a=>(h x a).1;rw[Ky.mp a];exact nC
 refine⟨⟨o hi,o hj⟩,?_⟩;show (u8 M 29 (.ref i) (.ref j)&&(u8 M 29 (.bl b) (.bl b)&&a9))=a9;rw[iN (n:=28) hi hj,wZ λx a=>(h x a).2,AV,r9];rfl
def mj:t9:=be<|t6 G5 (ac 2)<|bc<|aa (cq<|aa (dC<|.int 0) af)<|aa (dC<|.bl a9) af
def mq:t9:=aC (dTry T_ "TalkError" 3 (Ez<|NQ cJ<|aa (ac 0)<|aa (ac 1) af)<|λa=>bD (bc<|aa (dCBH a lZ<|aa (ac 3) af)<|aa (dIsV T_<|ac 3) af) 2)<|mj
def su:t9:=aC (bD (dC .non) 2)<|mq
def xt:D7 bO 4 su:=by
 rintro ds M R ⟨p,r,rfl,d,u,t,n,h⟩;simp only[su,mq];walk_at"dl";refine⟨p,r,rfl,d,u,t,λ_ N P=>⟨show wx T_ (x9 "NoHouse") (x9 "TalkError")=a7 a9 by decide +kernel,λa=>?_⟩,λps s _ f=>p5 f<|n ps s⟩;have g:(N++[MO.exc L7 a])[N.length]?=a7 (.exc L7 a):=ak;have c:N <+: N++[MO.exc L7 a]:=aL;generalize N++[MO.exc L7 a]=B at g c;generalize N.length=q at g;refine⟨⟨_,_,g⟩,q,x9 "NoHouse",a,[a9,c5,c5,c5,c5,c5,c5,c5,c5,c5,c5,c5],rfl,g,dO,?_⟩;have l:(List.lookup (x9 "NoHouse") T_).isSome=a9:=by decide +kernel
 have Y:CY [a9,c5,c5,c5,c5,c5,c5,c5,c5,c5,c5,c5]=[0]:=by decide
 rw[Y];simp only[aq g,L7,l];refine⟨trivial,s9,?_⟩;simp only[mj];walk_at"dl";have k:(B++[MO.lst [.int 0]])[B.length]?=a7 (.lst [.int 0]):=ak;refine⟨s9,s9,?_⟩;have ts:=BU (M:=B++[MO.lst [.int 0]]++[MO.lst [.int 0]]) (i:=B.length) (j:=(B++[MO.lst [.int 0]]).length) (xs:=[.int 0]) (b:=a9) (.inl<|aq k) ae λx e=>by rw[Ky.mp e];exact⟨rfl,rfl⟩
 refine⟨ts.1,?_⟩;rw[ts.2];exact aE.chg P.chg (h N P) (.bl _)<|(c.trans aL).trans aL
def pT(T:Tops P w K mg base):w4 P w K mg base 9 "_law_refused" nh bO:=w4.byD (N:=["_law_people","_law_rooms","_law_kinds_here","_law_e"]) T.b T.f_refused dz vt (by have:=jp T;have:=CA T;have:=T.cl;walk_at"dv") xt
structure Fits(B:t7)(xs ys:List D):Prop where
 xl:1<=xs.length
 yl:1<=ys.length/\ys.length<=4
 xn:(xs.map au).Nodup
 yn:(ys.map au).Nodup
 xo:∀a k,D.tup [.str a,.int k]∈xs->aH (.str a)=a9/\1<=k/\k<=3
 yo:∀a b ss,D.tup [.str a,b]∈ys->bv B b=a7 (ss.map .str)->ss≠[]/\ss.Nodup/\∀x∈ss,x∈xs.map au
def Fits.less(p:A <+: B)(f:Fits B xs ys):Fits A xs ys:=⟨f.xl,f.yl,f.xn,f.yn,f.xo,λa b ss h d=>f.yo a b ss h<|cZ p d⟩
def HouseFor.fits{M:t7}{p r:D}{ps:List (c8×Int)}{w:List (c8×List c8)}{xs ys:List D}(h:HouseFor M p r ps w)(j:bv M p=a7 xs)(O:bv M r=a7 ys):Fits M xs ys:=by
 obtain⟨f,⟨B,l,n⟩,⟨C,F,m,o,u⟩⟩:=h;obtain rfl:xs=B:=C1<|j.symm.trans l;obtain rfl:ys=C:=C1<|O.symm.trans m;have s:(ps.map aG).map au=ps.map (·.1):=by rw[B8];rfl
 have U:=n.map au;rw[s]at U;have y:=o.map au;rw[u.fst]at y;refine⟨?_,?_,U.nodup_iff.mpr<|jV f.pu,y.nodup_iff.mpr<|jV f.ru,λa k d=>?_,λa b ss d t=>?_⟩;rw[n.length_eq,v5];exact f.pl.1;rw[o.length_eq,u.len];exact f.rl;obtain⟨q,i,e⟩:=w9.mp<|n.mem_iff.mp d;simp only[aG,D.tup.injEq,NE,D.str.injEq,D.int.injEq,and_true]at e;obtain⟨rfl,rfl⟩:=e;exact f.pn q i;obtain⟨q,i,E,A,e,c,g⟩:=u.at<|o.mem_iff.mp d
 simp only[D.tup.injEq,NE,and_true]at e;obtain⟨_,rfl⟩:=e;rw[t]at c;obtain rfl:=qy<|C1 c;obtain⟨v,V,W⟩:=f.mm q i;exact⟨λz=>v (by subst z;exact List.nil_perm.mp g |>.symm ▸ rfl),g.nodup_iff.mpr<|jV W,λx j=>U.mem_iff.mpr<|V x<|g.mem_iff.mp j⟩
def lI(B:t7)(d:D):Prop:=∃i j xs ys,d=.tup [.ref i,.ref j]/\(ah B i xs/\ah B j ys)/\(u4 B 5 (.ref i)/\u4 B 5 (.ref j))/\¬Fits B xs ys
def lI.grow(h:lI A d)(p:A <+: B):lI B d:=by obtain⟨i,j,xs,ys,rfl,⟨h1,h2⟩,⟨g1,g⟩,n⟩:=h;have q:=p;obtain⟨L,rfl⟩:=q;exact⟨i,j,xs,ys,rfl,⟨h1.more L,h2.more L⟩,⟨g1.grow p,g.grow p⟩,λf=>n<|f.less p⟩
structure HIn(M:t7)(i j:Nat)(xs ys:List D)(ps:List (c8×Int))(rs:List (c8×List c8)):Prop where
 f:HF ps rs
 x:M[i]?=a7 (.lst xs)
 y:M[j]?=a7 (.lst ys)
 px:xs.Perm (ps.map aG)
 ry:∃zs,ys.Perm zs/\RmAs M zs rs
 gx:∀x∈xs,u4 M 4 x
 gy:∀y∈ys,u4 M 4 y
def oq:A7:=λds M R=>∃(i j:Nat) (m:Int) (xs ys:List D) (ps:List (c8×Int)) (a:List (c8×List c8)),ds=[.ref i,.ref j,.int m]/\HIn M i j xs ys ps a/\∀d B,M <+: B->lI B d->R d B
def CP:fu oq zQ:=by rintro ds M R ⟨i,j,m,xs,ys,ps,a,rfl,_⟩;rfl
def mL:t9:=be<|t6 v9 (ac 11)<|t6 dR (ac 2)<|dC<|.int 12
def mM:t9:=aC (bD (t6 aF (ac 11)<|cq<|aa (bc<|aa (ac 0)<|aa (t6 aF (ac 1)<|cq<|aa (bc<|aa (dC<|.str "zzzzzzzz")<|aa (cq<|aa (ac 10) af) af) af) af)<|aa (bc<|aa (cq af)<|aa (ac 1) af)<|aa (bc<|aa (ac 0)<|aa (cq af) af)<|aa (bc<|aa (ac 0)<|aa (t6 zC (ac 1)<|dC<|.int 5) af) af) 11)<|mL
def qu:t9:=aC (bD (t6 aF (ac 11)<|cq<|aa (bc<|aa (t6 aF (t6 aF (J1 (ac 0) aX<|cA<|ac 3)<|cq<|aa (bc<|aa (ac 5)<|aa (dC<|.int 4) af) af)<|J1 (ac 0) (cA<|t6 aF (ac 3)<|dC<|.int 1) aX)<|aa (ac 1) af)<|aa (bc<|aa (ac 0)<|aa (t6 aF (ac 1)<|cq<|aa (bc<|aa (dC<|.str "zzzzzzzz")<|aa (cq af) af) af) af) af) 11)<|mM
def qv:t9:=aC (bD (t6 aF (ac 11)<|cq<|aa (bc<|aa (t6 aF (t6 aF (J1 (ac 0) aX<|cA<|ac 3)<|cq<|aa (bc<|aa (ac 5)<|aa (dC<|.int 0) af) af)<|J1 (ac 0) (cA<|t6 aF (ac 3)<|dC<|.int 1) aX)<|aa (ac 1) af)<|aa (bc<|aa (t6 aF (ac 0)<|cq<|aa (bc<|aa (dC<|.str "Ab")<|aa (dC<|.int 2) af) af)<|aa (ac 1) af) af) 11)<|qu
def qw:t9:=aC (bD (t6 aF (ac 11)<|cq<|aa (bc<|aa (ac 0)<|aa (t6 aF (t6 aF (J1 (ac 1) aX<|cA<|ac 4)<|cq<|aa (bc<|aa (ac 7)<|aa (t6 aF (u0 eV<|aa (ac 8) af)<|cq<|aa (ac 5)<|aa (ac 5) af) af) af)<|J1 (ac 1) (cA<|t6 aF (ac 4)<|dC<|.int 1) aX) af) af) 11)<|qv
def lN:t9:=aC (bD (cq<|aa (bc<|aa (t6 aF (ac 0)<|cq<|aa (bc<|aa (ac 5)<|aa (dC<|.int 1) af) af)<|aa (ac 1) af)<|aa (bc<|aa (ac 0)<|aa (t6 aF (ac 1)<|cq<|aa (bc<|aa (ac 7)<|aa (ac 8) af) af) af)<|aa (bc<|aa (J1 (ac 0) aX<|cA<|ac 3)<|aa (J1 (ac 1) aX<|cA<|dC<|.int 0) af) af) 11)<|qw
def qx:t9:=aC (bD (t6 v9 (E4 1 [9] (bK<|cq<|aa (dC<|.str "nobody")<|aa (dC<|.str "noone")<|aa (dC<|.str "none")<|aa (dC<|.str "nowhere")<|aa (dC<|.str "nought") af) (al 0) (ar<|t6 pP (ac 0)<|ac 1)<|ac 0)<|dC<|.int 0) 10)<|lN
def wo:t9:=aC (bD (E4 2 [] (bK<|ac 0) (gI 2<|aQ (al 0)<|aQ (al 1) gJ) kg<|ac 0) 9)<|qx
def wq:t9:=aC (BE (t6 v9 (ac 1)<|ac 4)<|gI 2<|aQ (al 7)<|aQ (al 8) gJ)<|wo
def wt:t9:=aC (BE (t6 v9 (ac 0)<|ac 3)<|gI 2<|aQ (al 5)<|aQ (al 6) gJ)<|wq
def wu:t9:=aC (bD (t6 dR (t6 ck (ac 2)<|dC<|.int 48)<|u0 jR<|aa (ac 1) af) 4)<|wt
def DR:t9:=aC (bD (t6 dR (t6 ck (ac 2)<|dC<|.int 12)<|u0 jR<|aa (ac 0) af) 3)<|wu
def fh(h:ah B i xs)(O:ah B j ys)(z:xs.length<=60)(A:ys.length<=60)(g:∀x∈xs,u4 B 4 x)(a:∀y∈ys,u4 B 4 y)(n:Fits B xs ys->False):lI B (.tup [.ref i,.ref j]):=⟨i,j,xs,ys,rfl,⟨h,O⟩,⟨u4.mkr h b0 g z,u4.mkr O b0 a A⟩,n⟩
structure Mb(B:t7)(i j:Nat)(xs ys:List D)(k l:Nat)(nm rm st:c8)(mn:Int)(mb:D)(ss:List c8):Prop where
 x:B[i]?=a7 (.lst xs)
 y:B[j]?=a7 (.lst ys)
 xl:1<=xs.length/\xs.length<=4
 yl:1<=ys.length/\ys.length<=4
 gx:∀x∈xs,u4 B 4 x
 gy:∀y∈ys,u4 B 4 y
 xk:xs[k]?=a7 (aG (nm,mn))
 yk:ys[l]?=a7 (.tup [.str rm,mb])
 mr:bv B mb=a7 (ss.map .str)
 ml:ss.length<=4
 nl:nm.length<=8
 rl:rm.length<=8
 no:st∉xs.map au
 sl:st.length<=8
def Mb.grow(h:Mb A i j xs ys k l nm rm st mn mb ss)(p:A <+: B):Mb B i j xs ys k l nm rm st mn mb ss:=by have q:=p;obtain⟨L,rfl⟩:=q;exact { h with x:=by rw[G4 (B5.mp h.x).1];exact h.x,y:=by rw[G4 (B5.mp h.y).1];exact h.y,gx:=aw h.gx p,gy:=aw h.gy p,mr:=jO h.mr L }
local macro_rules | `(tactic| walk_at"gm")=>`(tactic| repeat' (first|assumption|exact ak|refine aq ?_))
local macro_rules | `(tactic| walk_at"pp")=>`(tactic| repeat' (first|assumption|exact Lc|refine List.IsPrefix.trans ?_ aL))
def cH(h:lI B d)(t:∀y∈ds,lI B y):∀y∈d::ds,lI B y:=λy O=>by rcases z7.mp O with rfl|O;exact h;exact t y O
def oj{A B:t7}{xs ys:List D}(h:∀y∈xs,lI A y)(p:A <+: B)(t:∀y∈ys,lI B y):∀y∈xs++ys,lI B y:=λy O=>(J7.mp O).elim (λz=>(h y z).grow p)<|t y
def iP:∀y∈([]:List D),lI B y:=λ_ z=>nomatch z
def xa(h:au d∈xs.map au)(n:((xs++[d]).map au).Nodup):False:=by rw[Mv,Pq]at n;exact n.2.2 _ h _ b9 rfl
def rC:cutD xs a8 (a7 0)=[]:=by have:=Es (xs:=xs) (k:=0);simpa using this
def wV:d∈xs++[d]++zs:=NK _<|E3 _ A9
noncomputable def cu:List c8:=["nobody","noone","none","nowhere","nought"]
section
variable{M B:t7}{R:DK}{i j k l q:Nat}{num:Int}{xs ys its:List D}{nm rm st:c8}{mn:Int}{mb:D}{ss:List c8}{y6 y9 y11:Option D}
def bt_11(b:M <+: B)(c:Mb B i j xs ys k l nm rm st mn mb ss)(a:B[q]?=a7 (.lst its))(g:its.length=12)(hi:∀d∈its,lI B d)(h:∀d B,M <+: B->lI B d->R d B):mL (EE M R) [a7<|.ref i,a7<|.ref j,a7<|.int num,a7<|.int k,a7<|.int l,a7<|.str nm,y6,a7<|.str rm,a7 mb,y9,a7<|.str st,a7<|.ref q] B:=by simp only[mL];walk_at"dl";obtain⟨m,f,e,_⟩:=qg (xs:=its) (i:=num % 12) (KH _<|by decide) (by rw[g];exact K1 _<|by decide);refine⟨b0,its,.inl a,?_⟩;rw[e];exact .inl<|h _ _ b<|hi _<|KI _
def bt_10(s:M <+: B)(b:Mb B i j xs ys k l nm rm st mn mb ss)(t:B[q]?=a7 (.lst its))(g:its.length=8)(hi:∀d∈its,lI B d)(h:∀d B,M <+: B->lI B d->R d B):mM (EE M R) [a7<|.ref i,a7<|.ref j,a7<|.int num,a7<|.int k,a7<|.int l,a7<|.str nm,y6,a7<|.str rm,a7 mb,y9,a7<|.str st,a7<|.ref q] B:=by
 obtain⟨u,O⟩:=Nx b.x b.y;obtain⟨e,m⟩:=b.xl;obtain⟨o,r⟩:=b.yl;simp only[mM];walk_at"dl";refine⟨s9,s9,s9,ys,_,cP,cP,ag c4,s9,s9,s9,s9,s9,ys,cP,b0,ag (by have:Int.toNat 5=5:=rfl;rw[this];lia),s9,s9,its,_,cP,cP,ag (by simp[g]),?_⟩;refine bt_11 ee (b.grow<|by walk_at"pp") ak (by simp[g]) (oj hi ee ?_) h;have p:B <+: B++[MO.lst [D.str st]]:=aL;refine cH ?_<|cH ?_<|cH ?_<|cH ?_ iP;refine fh (.inl<|by walk_at"gm") (.inl<|by walk_at"gm") b7 c4 (aw b.gx<|by walk_at"pp") (bC (aw b.gy<|by walk_at"pp")<|av (bh b0 (aU dO<|by decide)<|u4.mkr (n:=2) (xs:=[.str st]) (.inl<|by walk_at"gm") b0 (av (aU (by have:=b.sl;lia)<|by decide) aB)<|by simp) aB) λf=>?_;exact b.no ((f.yo _ _ [st] (E3 _ A9)<|gB<|.inl ⟨_,rfl,.inl<|by walk_at"gm"⟩).2.2 st<|by simp);refine fh (xs:=[]) (.inl<|by walk_at"gm") (.inl<|by walk_at"gm") b9 b7 aB (aw b.gy<|by walk_at"pp") λf=>?_;have:=f.xl;simp at this;refine fh (ys:=[]) (.inl<|by walk_at"gm") (.inl<|by walk_at"gm") b7 b9 (aw b.gx<|by walk_at"pp") aB λf=>?_;have:=f.yl.1;simp at this;have V:(J0 (Int.toNat 5) ys).flatten.length=5*ys.length:=by rw[List.length_flatten,show Int.toNat 5=5 from rfl];simp[J0];lia
 refine fh (.inl<|by walk_at"gm") (.inl<|by walk_at"gm") b7 (by rw[V];lia) (aw b.gx<|by walk_at"pp") (λy a=>?_) λf=>?_;obtain⟨l,c,a⟩:=List.mem_flatten.mp a;rw[List.eq_of_mem_replicate c]at a;exact(b.gy y a).grow ee;have:=f.yl.2;lia
def bt_9(s:M <+: B)(b:Mb B i j xs ys k l nm rm st mn mb ss)(t:B[q]?=a7 (.lst its))(g:its.length=6)(hi:∀d∈its,lI B d)(h:∀d B,M <+: B->lI B d->R d B):qu (EE M R) [a7<|.ref i,a7<|.ref j,a7<|.int num,a7<|.int k,a7<|.int l,a7<|.str nm,y6,a7<|.str rm,a7 mb,y9,a7<|.str st,a7<|.ref q] B:=by obtain⟨u,O⟩:=Nx b.x b.y;obtain⟨e,m⟩:=b.xl;obtain⟨o,r⟩:=b.yl;have c:=bU (xs:=xs) (lo:=a8) (hi:=a7 (k:Int));have p:=bU (xs:=xs) (lo:=a7<|(k:Int)+1) (hi:=a8);simp only[qu];walk_at"dl";refine⟨xs,.inl cP,s9,s9,_,_,cP,cP,ag c4,xs,.inl cP,_,_,cP,cP,ag c4,s9,s9,s9,s9,ys,_,cP,cP,ag c4,s9,s9,its,_,cP,cP,ag (by simp[g]),?_⟩;refine bt_10 ee (b.grow<|by walk_at"pp") ak (by simp[g]) (oj hi ee ?_) h;refine cH ?_<|cH ?_ iP;refine fh (.inl<|by walk_at"gm") (.inl<|by walk_at"gm") c4 b7 (bC (bC (λx a=>(b.gx x<|bH a).grow<|by walk_at"pp")<|av (bh b0 (aU (by have:=b.nl;lia)<|by decide)<|iC<|by decide) aB) λx a=>(b.gx x<|bH a).grow<|by walk_at"pp") (aw b.gy<|by walk_at"pp") λf=>?_;have:=(f.xo nm 4 wV).2.2;lia;refine fh (.inl<|by walk_at"gm") (.inl<|by walk_at"gm") b7 c4 (aw b.gx<|by walk_at"pp") (bC (aw b.gy<|by walk_at"pp")<|av (bh b0 (aU dO<|by decide)<|u4.mkr (n:=2) (xs:=[]) (.inl<|by walk_at"gm") b0 aB<|by simp) aB) λf=>?_;exact(f.yo _ _ [] (E3 _ A9)<|gB<|.inl ⟨_,rfl,.inl<|by walk_at"gm"⟩).1 rfl
def bt_8(p:M <+: B)(b:Mb B i j xs ys k l nm rm st mn mb ss)(s:B[q]?=a7 (.lst its))(g:its.length=4)(hi:∀d∈its,lI B d)(h:∀d B,M <+: B->lI B d->R d B):qv (EE M R) [a7<|.ref i,a7<|.ref j,a7<|.int num,a7<|.int k,a7<|.int l,a7<|.str nm,y6,a7<|.str rm,a7 mb,y9,a7<|.str st,a7<|.ref q] B:=by obtain⟨t,O⟩:=Nx b.x b.y;obtain⟨e,m⟩:=b.xl;obtain⟨o,r⟩:=b.yl;have c:=bU (xs:=xs) (lo:=a8) (hi:=a7 (k:Int));have n:=bU (xs:=xs) (lo:=a7<|(k:Int)+1) (hi:=a8);simp only[qv];walk_at"dl";refine⟨xs,.inl cP,s9,s9,_,_,cP,cP,ag c4,xs,.inl cP,_,_,cP,cP,ag c4,s9,s9,s9,xs,_,cP,cP,ag c4,s9,s9,its,_,cP,cP,ag (by simp[g]),?_⟩;refine bt_9 ee (b.grow<|by walk_at"pp") ak (by simp[g]) (oj hi ee ?_) h;refine cH ?_<|cH ?_ iP;refine fh (.inl<|by walk_at"gm") (.inl<|by walk_at"gm") c4 b7 (bC (bC (λx a=>(b.gx x<|bH a).grow<|by walk_at"pp")<|av (bh b0 (aU (by have:=b.nl;lia)<|by decide)<|iC<|by decide) aB) λx a=>(b.gx x<|bH a).grow<|by walk_at"pp") (aw b.gy<|by walk_at"pp") λf=>?_;have:=(f.xo nm 0 wV).2.1;lia;refine fh (.inl<|by walk_at"gm") (.inl<|by walk_at"gm") c4 b7 (bC (aw b.gx<|by walk_at"pp")<|av (bh b0 (aU dO<|by decide)<|iC<|by decide) aB) (aw b.gy<|by walk_at"pp") λf=>?_;exact p5 (f.xo (x9 "Ab") 2<|by simp).1<|by decide +kernel
def bt_7(v:M <+: B)(b:Mb B i j xs ys k l nm rm st mn mb ss)(w:B[q]?=a7 (.lst its))(g:its.length=3)(hi:∀d∈its,lI B d)(h:∀d B,M <+: B->lI B d->R d B):qw (EE M R) [a7<|.ref i,a7<|.ref j,a7<|.int num,a7<|.int k,a7<|.int l,a7<|.str nm,y6,a7<|.str rm,a7 mb,y9,a7<|.str st,a7<|.ref q] B:=by
 obtain⟨z,O⟩:=Nx b.x b.y;obtain⟨e,c⟩:=b.xl;obtain⟨o,r⟩:=b.yl;have p:=bU (xs:=ys) (lo:=a8) (hi:=a7 (l:Int));have t:=bU (xs:=ys) (lo:=a7<|(l:Int)+1) (hi:=a8);have W:=b.ml;have C:u4 B 4 (.tup [.str rm,mb]):=b.gy _<|Kw b.yk;obtain⟨_,m,u,C⟩:=C.tup;obtain rfl:m=3:=by lia
 have s:∀x∈ss.map D.str,u4 B 2 x:=bq (C mb<|by simp) b.mr;simp only[qw];walk_at"dl";rcases bW b.mr with⟨n,rfl,L⟩|rfl;refine⟨ys,.inl cP,_,L.more _,s9,_,_,cP,cP,ag c4,s9,s9,_,_,cP,cP,ag c4,ys,.inl cP,_,_,cP,cP,ag c4,s9,s9,its,_,cP,cP,ag (by simp[g]),?_⟩;refine bt_8 ee (b.grow<|by walk_at"pp") ak (by simp[g]) (oj hi ee<|cH ?_ iP) h;refine fh (.inl<|by walk_at"gm") (.inl<|by walk_at"gm") b7 c4 (aw b.gx<|by walk_at"pp") (bC (bC (λx a=>(b.gy x<|bH a).grow<|by walk_at"pp")<|av (bh b0 (aU (by have:=b.rl;lia)<|by decide)<|u4.mkr (n:=2) (.inl<|by walk_at"gm") b0 (bC (aw s<|by walk_at"pp")<|av (aU (by have:=b.nl;lia)<|by decide)<|av (aU (by have:=b.nl;lia)<|by decide) aB)<|by simp;lia) aB) λx a=>(b.gy x<|bH a).grow<|by walk_at"pp") λf=>?_;have:=(f.yo _ _ (ss++[nm,nm]) wV<|gB<|.inl ⟨_,rfl,.inl<|by rw[Mv];walk_at"gm"⟩).2.1;rw[Pq]at this;simp at this;refine⟨ys,.inl cP,s9,_,_,cP,cP,ag c4,s9,s9,_,_,cP,cP,ag c4,ys,.inl cP,_,_,cP,cP,ag c4,s9,s9,its,_,cP,cP,ag (by simp[g]),?_⟩;refine bt_8 ee (b.grow<|by walk_at"pp") ak (by simp[g]) (oj hi ee<|cH ?_ iP) h;refine fh (.inl<|by walk_at"gm") (.inl<|by walk_at"gm") b7 c4 (aw b.gx<|by walk_at"pp") (bC (bC (λx a=>(b.gy x<|bH a).grow<|by walk_at"pp")<|av (bh b0 (aU (by have:=b.rl;lia)<|by decide)<|u4.mkr (n:=2) (.inl<|by walk_at"gm") b0 (bC (aw s<|by walk_at"pp")<|av (aU (by have:=b.nl;lia)<|by decide)<|av (aU (by have:=b.nl;lia)<|by decide) aB)<|by simp;lia) aB) λx a=>(b.gy x<|bH a).grow<|by walk_at"pp") λf=>?_;have:=(f.yo _ _ (ss++[nm,nm]) wV<|gB<|.inl ⟨_,rfl,.inl<|by rw[Mv];walk_at"gm"⟩).2.1;rw[Pq]at this;simp at this
def bt_6(g:M <+: B)(b:Mb B i j xs ys k l nm rm st mn mb ss)(h:∀d B,M <+: B->lI B d->R d B):lN (EE M R) [a7<|.ref i,a7<|.ref j,a7<|.int num,a7<|.int k,a7<|.int l,a7<|.str nm,y6,a7<|.str rm,a7 mb,y9,a7<|.str st,y11] B:=by obtain⟨n,O⟩:=Nx b.x b.y;obtain⟨e,m⟩:=b.xl;obtain⟨o,r⟩:=b.yl;have c:=bU (xs:=xs) (lo:=a8) (hi:=a7 (k:Int));simp only[lN];walk_at"dl";refine⟨s9,s9,xs,_,cP,cP,ag c4,s9,s9,s9,ys,_,cP,cP,ag c4,s9,xs,.inl cP,ys,.inl cP,s9,s9,?_⟩;refine bt_7 ee (b.grow<|by walk_at"pp") ak rfl (cH ?_<|cH ?_<|cH ?_ iP) h;refine fh (.inl<|by walk_at"gm") (.inl<|by walk_at"gm") c4 b7 (bC (aw b.gx<|by walk_at"pp")<|av (bh b0 (aU (by have:=b.nl;lia)<|by decide)<|iC<|by decide) aB) (aw b.gy<|by walk_at"pp") λf=>?_;exact xa (d:=.tup [.str nm,.int 1]) (w9.mpr ⟨_,Kw b.xk,rfl⟩) f.xn;refine fh (.inl<|by walk_at"gm") (.inl<|by walk_at"gm") b7 c4 (aw b.gx<|by walk_at"pp") (bC (aw b.gy<|by walk_at"pp")<|av ((b.gy _<|Kw b.yk).grow<|by walk_at"pp") aB) λf=>?_;exact xa (w9.mpr ⟨_,Kw b.yk,rfl⟩) f.yn;refine fh (.inl<|by walk_at"gm") (.inl<|by walk_at"gm") b7 (by rw[rC];simp) (λx a=>(b.gx x<|bH a).grow<|by walk_at"pp") (by rw[rC];exact aB) λf=>?_;have:=f.yl.1;rw[rC]at this;simp at this
theorem bt_5(t:M <+: B)(m:∀st,st.length<=8->st∉xs.map au->Mb B i j xs ys k l nm rm st mn mb ss)(u:xs.length<=4)(p:ah B n ((xs.map au).map .str))(h:∀d B,M <+: B->lI B d->R d B):qx (EE M R) [a7<|.ref i,a7<|.ref j,a7<|.int num,a7<|.int k,a7<|.int l,a7<|.str nm,y6,a7<|.str rm,a7 mb,a7<|.ref n,y10,y11] B:=by
 have q:∀x∈cu,x.length<=8:=by decide +kernel
 simp only[qx];walk_at"dl";refine⟨s9,_,ae,λ_=>?_⟩;refine bF (λd=>!KQ (xs.map au) d) id (λS=>∃a,S=[a,a7<|.ref n]) ae _ _ _ ?_ ⟨_,rfl⟩ (ag<|by simp) ?_;rintro y O S ⟨a,rfl⟩;obtain⟨x,b,rfl⟩:=w9.mp<|show y∈cu.map D.str from O;refine⟨[a7<|.str x,a7<|.ref n],⟨_,rfl⟩,λY Z c=>?_⟩;walk_at"dl";refine⟨_,p.more _,⟨da,?_⟩,?_⟩;rw[KD,z5];exact λ_ _=>da;show if (Ml _ (D.str x) ((xs.map au).map .str) != a9)=a9 then _ else _
 rw[qX,show (KQ (xs.map au) (.str x) != a9) = !KQ (xs.map au) (.str x) by cases KQ (xs.map au) (.str x)<;>rfl];exact c;rw[E9,KU];refine⟨_,ae,?_⟩;show match atI ((cu.map D.str).filter λd=>!KQ (xs.map au) d) 0 with
  |some d=>lN (EE M R) [a7<|.ref i,a7<|.ref j,a7<|.int num,a7<|.int k,a7<|.int l,a7<|.str nm,y6,a7<|.str rm,a7 mb,a7<|.ref n,a7 d,y11]<|B++[MO.lst<|cu.map D.str]++[MO.lst<|(cu.map D.str).filter λd=>!KQ (xs.map au) d]
  |none=>False
 cases e:(cu.map D.str).filter λd=>!KQ (xs.map au) d with
 |nil =>
  have:=nodup_le cu (xs.map au) dO λx b=>by have:=List.filter_eq_nil_iff.mp e (.str x)<|w9.mpr ⟨x,b,rfl⟩;rw[Bool.not_eq_true,Bool.not_eq_false']at this;obtain⟨z,g,f⟩:=qW.mp this;cases f;exact g
  rw[v5]at this;have:cu.length=5:=rfl;lia
 |cons d r =>
  have o:d∈(cu.map D.str).filter λd=>!KQ (xs.map au) d:=by rw[e];exact A9
  obtain⟨h1,h2⟩:=Nk.mp o;obtain⟨x,b,rfl⟩:=w9.mp h1;have s:x∉xs.map au:=λb=>by rw[qW.mpr ⟨x,b,rfl⟩]at h2;cases h2
  rw[show atI (D.str x::r) 0=a7 (.str x)from aY (j:=0) rfl];refine bt_6 ee ((m x (q x b) s).grow<|by walk_at"pp") h
end
def EC:D7 oq 12 DR:=by
 rintro ds M R ⟨i,j,m,xs,ys,ps,G,rfl,hi,h⟩;obtain⟨N,t,v⟩:=hi.ry;have K:xs.length=ps.length:=by rw[hi.px.length_eq,v5]
 have L:ys.length=G.length:=by rw[t.length_eq,v.len]
 have H:=hi.f.pl;have I:=hi.f.rl;obtain⟨k,n,z,A⟩:=kG (xs:=xs) (r:=m / 12) b7;obtain⟨l,o,B,J⟩:=kG (xs:=ys) (r:=m / 48) b7;obtain⟨p,F,c⟩:=w9.mp<|hi.px.mem_iff.mp<|KI n;obtain⟨r,s,b,ss,g,E,hs⟩:=v.at<|t.mem_iff.mp<|KI o
 simp only[DR];walk_at"dl";refine⟨⟨b0,b0⟩,xs,.inl hi.x,b7,?_⟩;simp only[wu];walk_at"dl";refine⟨⟨b0,b0⟩,ys,.inl hi.y,b7,?_⟩;simp only[wt];walk_at"dl";refine⟨xs,.inl hi.x,?_⟩;rw[z,<-c];simp only[wq,aG];walk_at"dl";refine⟨trivial,ys,.inl hi.y,?_⟩;rw[B,g];simp only[wo];walk_at"dl";refine⟨trivial,xs,.inl hi.x,λ_=>?_⟩;refine aN (λd=>.str<|au d) (λS=>∃a b,S=[a,b]) (.inl hi.x) _ _ _ ?_ ⟨_,_,rfl⟩ (ag<|by simp;lia) ?_;rintro y O S ⟨a,b,rfl⟩;obtain⟨q,_,rfl⟩:=w9.mp<|hi.px.mem_iff.mp O;refine⟨[a7<|.str q.1,a7<|.int q.2],⟨_,_,rfl⟩,λY C=>?_⟩;simp only[aG];walk_at"dl";exact⟨trivial,C⟩;rw[E9,<-A,<-J,show xs.map (λd=>D.str<|au d)=(xs.map au).map .str by rw[B8];rfl];have e:∀{x:c8},aH (.str x)=a9->x.length<=8:=λ{x} q=>by have u:(decide (1<=x.length)&&decide (x.length<=8)&&x.cps.toList.all bT)=a9:=q;simp only[A2,p6]at u;exact u.1.2
 have w:∀st,st.length<=8->st∉xs.map au->Mb M i j xs ys k l p.1 r.1 st p.2 b ss:=λst h1 h2=>⟨hi.x,hi.y,b7,b7,hi.gx,hi.gy,by rw[A1 n,<-c],by rw[A1 o,g],E,?_,e (hi.f.pn p F).1,e<|hi.f.rn r s,h2,h1⟩
 exact bt_5 aL (λst h1 h2=>(w st h1 h2).grow aL) b7 ae h;obtain⟨_,V,W⟩:=hi.f.mm r s;have:=nodup_le r.2 (ps.map (·.1)) (jV W) V;rw[v5]at this;rw[hs.length_eq];lia
def Fu(T:Tops P w K mg base):w4 P w K mg base 1 "_law_bent" zQ oq:=w4.byD (N:=["_law_people","_law_rooms","_law_number","_law_k","_law_j","_law_name","_law_many","_law_room","_law_members","_law_names","_law_strange","_law_some"]) T.b T.f_bent dz CP d4 EC
def yt:(x9 "abcdefghijklmnopqrstuvwxyz").cps.toList=(B7 26).map (· + 97):=by decide +kernel
def Bu(c:Nat):decide (c∈(x9 "abcdefghijklmnopqrstuvwxyz").cps.toList)=bT c:=by rw[yt,NF];unfold bT;simp only[List.mem_map,G1,p6,A2];constructor;rintro⟨a,ha,rfl⟩;lia;rintro⟨h1,h2⟩;exact⟨c-97,b7,b7⟩
def bn:A7:=λds M R=>∃d,ds=[d]/\rF M d/\R (.bl<|aH d) M
def qN:fu bn jg:=by rintro ds M R ⟨x,rfl,_⟩;rfl
def fU{α:Type}(p:α->Bool)(l:List α):(l.filter p).isEmpty=l.all λx=>!p x:=by
 induction l with
 |nil=>rfl
 |cons a l i =>
  rw[List.filter_cons,KL];cases e:p a with
  |true=>simp
  |false=>simpa using i
def AS(L:ah M n xs)(ok:∀x∈xs,u9 (M++[MO.lst []]) 29 x=a9)(q:Q (.bl xs.isEmpty) (M++[.lst []])):G5 (.ref n) (.ref M.length) (M++[.lst []]) Q:=by
 have h1:ah (M++[MO.lst []]) n xs:=by
  obtain⟨a⟩:=(⟨L⟩:Nonempty _)
  rcases L with h|h|h;exact .inl (by rw[G4 (B5.mp h).1];exact h);exact .inr (.inl<|by rw[G4 (B5.mp h).1];exact h);exact .inr<|.inr<|by rw[G4 (B5.mp h).1];exact h
 have h2:ah (M++[MO.lst []]) M.length []:=ae;refine⟨⟨ef h1 ok,ef h2 λ_ z=>nomatch z⟩,?_⟩;rw[show v3=29+1 from rfl,iN h1 h2,rp];exact q
def jC:t9:=be<|t6 G5 (E4 1 [] (bK<|ac 0) (al 0) (ar<|t6 pP (ac 0)<|dC<|.str "abcdefghijklmnopqrstuvwxyz")<|ac 0)<|cq af
def mD:t9:=aC (A6 (Fn (cM<|ar<|u0 fF<|aa (ac 0)<|aa (dC<|.ty "str") af)<|cM<|ar<|gF K7 K7 (dC<|.int 1) (u0 jR<|aa (ac 0) af)<|dC<|.int 8) (be<|dC<|.bl c5) aK)<|jC
theorem rK:D7 bn 1 mD:=by
 rintro ds M R ⟨d,rfl,⟨g,l⟩,h⟩;simp only[mD,jC];cases d with
 |str x =>
  have k:=l x rfl;walk_at"dl";refine⟨b0,?_⟩;rw[show fR "str" "str" = a9 from rfl];walk_at"ifs";refine⟨k,?_⟩;simp only[aH]at h;by_cases h1:1<=x.length;rw[dT_ h1]at h;rw[dT_<|show (1:Int)<=(x.length:Int) by lia];walk_at"ifs";by_cases j:x.length<=8;rw[dT_ j]at h;rw[dT_<|show (x.length:Int)<=8 by lia];walk_at"ifs";refine bF (λd=>!bT (P7 d)) id (λS=>∃a,S=[a]) trivial _ _ _ ?_ ⟨_,rfl⟩ ?_ ?_;rintro y O S ⟨a,rfl⟩;obtain⟨c,m,rfl⟩:=sU O;refine⟨[a7<|.str ⟨#[c]⟩],⟨_,rfl⟩,λY Z f=>?_⟩;have i:=StrLaws.found_one "abcdefghijklmnopqrstuvwxyz" c;rw[Bu]at i;rw[GQ]at f;show if ((!(Builtin.Str.occurrences "abcdefghijklmnopqrstuvwxyz" ⟨#[c]⟩ 0 (x9 "abcdefghijklmnopqrstuvwxyz").length 1).isEmpty) != a9)=a9 then Y (.str ⟨#[c]⟩) [a7<|.str ⟨#[c]⟩] M else Z [a7<|.str ⟨#[c]⟩] M
  rw[i];cases e:bT c with
  |true=>rw[e]at f;exact f
  |false=>rw[e]at f;exact f
  simp only[zu,Ix];exact ag b7;rw[E9,KU];refine⟨B0 _,AS (Q:=aE M R) ae (λy O=>?_) ?_⟩;obtain⟨c,_,rfl⟩:=sU (Nk.mp O).1;exact da;rw[fU];have e:(kr x).all (λd=>!!bT (P7 d))=x.cps.toList.all bT:=by unfold kr;rw[KD];congr 1;funext c;show (!!bT c)=bT c;rw[Bool.not_not]
  rw[e];refine aE.bl ?_ (by rw[F0];exact Kv _ _);simpa using h;rw[dF_ j]at h;rw[dF_<|show ¬(x.length:Int)<=8 by lia];walk_at"ifs";exact aE.now (by simpa using h);rw[dF_ h1]at h;rw[dF_<|show ¬(1:Int)<=(x.length:Int) by lia];walk_at"ifs";exact aE.now<|by simpa using h
 |non=>walk_at"dl";exact⟨b0,eG<|aE.now h⟩
 |bl b=>walk_at"dl";exact⟨b0,eG<|aE.now h⟩
 |int b=>walk_at"dl";exact⟨b0,eG<|aE.now h⟩
 |tup b=>walk_at"dl";exact⟨b0,eG<|aE.now h⟩
 |ty b=>exact p5 g<|by simp only[A0];decide
 |ref n=>have e:=cS g;simp only[A0]at e;walk_at"dl";rw[e];exact⟨b0,eG<|aE.now h⟩
def lc(T:Tops P w K mg base):w4 P w K mg base 1 "_law_is_name" jg bn:=w4.byD (N:=["_law_thing"]) T.b T.f_l_is_name dz qN d4 rK
def iG:A7:=λds M R=>∃(d:D) (xs:List c8),ds=[d]/\DJ M d xs/\xs.length<=1000/\R (.bl<|bB xs) M
def xU:fu iG qG:=by rintro ds M R ⟨d,xs,rfl,_⟩;rfl
noncomputable def upAt(xs:List c8):D->Bool
 |.int i=>aA (xs.getD (i-1).toNat default)<|xs.getD i.toNat default
 |_=>a9
def BR(xs:List c8):((kY 1<|xs.length-1).all λk=>!!upAt xs k)=bB xs:=by rw[<-qB];unfold kY;rw[KD,KD];congr 1;funext i;show (!!aA (xs.getD ((1:Int)+(i:Int)-1).toNat default) (xs.getD ((1:Int)+(i:Int)).toNat default))=aA _ _;rw[Bool.not_not,show ((1:Int)+(i:Int)-1).toNat=i by lia,show ((1:Int)+(i:Int)).toNat=i+1 by lia]
def wk:t9:=be<|t6 G5 (E4 1 [0] (jv<|aa (dC<|.int 1)<|aa (u0 jR<|aa (ac 0) af) af) (al 0) (ar<|t6 NR (t6 v9 (ac 1)<|t6 BB (ac 0)<|dC<|.int 1)<|t6 v9 (ac 1)<|ac 0)<|ac 0)<|cq af
theorem yI:D7 iG 1 wk:=by
 rintro ds M R ⟨d,xs,rfl,x,g,h⟩;simp only[wk,be,t6,u0,aa,af,E4,cq,jv,dC,ac,bp,Er,B9,Me,LH,E9,LY,MC,D4,Ix,Nm,Mz,LD,LR];refine yS x ⟨⟨b7,b7,b7,b7⟩,?_⟩;have c:(((xs.length:Int)-1).toNat)=xs.length-1:=by lia
 rw[c];refine bF (λk=>!upAt xs k) id (λS=>∃a,S=[a,a7 d]) trivial _ _ _ ?_ ⟨_,rfl⟩ ?_ ?_;rintro y O S ⟨a,rfl⟩;obtain⟨i,hi⟩:=LV O;obtain⟨h1,rfl⟩:=bx.mp hi;refine⟨[a7<|.int<|1+(i:Int),a7 d],⟨_,rfl⟩,λY Z b=>?_⟩;simp only[al,ar,t6,ac,dC,BB,List.set_cons_zero,LY,MC,LR];refine vZ x b7 b7<|vZ x b7 b7 ?_;exact b;simp only[Ix,bb];exact ag b7;rw[E9,KU];refine⟨B0 _,AS (Q:=aE M R) ae (λy O=>?_) ?_⟩;obtain⟨i,hi⟩:=LV (Nk.mp O).1;obtain⟨_,rfl⟩:=bx.mp hi;exact aM;rw[fU,BR];exact aE.bl h<|by rw[F0];exact Kv _ _
def tj(T:Tops P w K mg base):w4 P w K mg base 1 "_law_rising" qG iG:=w4.byD (N:=["_law_names"]) T.b T.f_rising dz xU d4 yI
noncomputable def gH:D->Bool
 |.tup [a,_]=>aH a
 |_=>c5
noncomputable def cX:D->Bool
 |.tup xs=>(decide (1<=xs.length)&&decide (xs.length<=4))&&(xs.all gH&&bB (xs.map au))
 |_=>c5
def ka:A7:=λds M R=>∃(n:Nat) (d:D),ds=[d]/\u4 M n d/\R (.bl<|cX d) M
def Ac:fu ka uV:=by rintro ds M R ⟨n,d,rfl,_⟩;rfl
def lT(h:gH d=a9):∃x b,d=.tup [.str x,b]:=by unfold gH at h;split at h;obtain⟨x,rfl⟩:=eY h;exact⟨_,_,rfl⟩;cases h
def lU(h:∀a b,d≠.tup [a,b]):gH d=c5:=by unfold gH;split;exact p5 rfl<|h _ _;rfl
def lX{xs:List D}{p:D->Bool}{i:Nat}{x:D}(h:xs[i]?=a7 x)(f:(xs.take i).all p=a9)(a:p x=a9):(xs.take<|i+1).all p=a9:=by rw[List.take_add_one,h,List.all_append,f];simp[a]
def Bx{xs:List D}{p:D->Bool}{i:Nat}{x:D}(h:xs[i]?=a7 x)(a:p x=c5):xs.all p=c5:=by rw[Bool.eq_false_iff];intro z;have:=z5.mp z x<|Kw h;rw[a]at this;cases this
def sv:t9:=be<|u0 iG<|aa (E4 1 [] (bK<|ac 0) (al 0) kg<|t6 v9 (ac 0)<|dC<|.int 0) af
def mv:t9:=aC (nY (bK<|ac 0) (al 1)<|A6 (Fn (cM<|ar<|u0 fF<|aa (ac 1)<|aa (dC<|.ty "tuple") af)<|Fn (ar<|t6 Lw (u0 jR<|aa (ac 1) af)<|dC<|.int 2)<|cM<|ar<|u0 bn<|aa (t6 v9 (ac 1)<|dC<|.int 0) af) (be<|dC<|.bl c5) aK)<|sv
def za:t9:=aC (A6 (Fn (cM<|ar<|u0 fF<|aa (ac 0)<|aa (dC<|.ty "tuple") af)<|cM<|ar<|gF K7 K7 (dC<|.int 1) (u0 jR<|aa (ac 0) af)<|dC<|.int 4) (be<|dC<|.bl c5) aK)<|mv
def BK:D7 ka 2 za:=by
 rintro ds M R ⟨n,d,rfl,g,h⟩;simp only[za];rcases kI M g with⟨xs,rfl⟩|⟨t,l⟩
 obtain⟨F,m,rfl,w⟩:=g.tup;simp only[cX]at h;have v:1<=xs.length->xs.length<=4->mv (EE M R) [a7<|.tup xs,a8] M:=λh1 f=>by
  rw[dT_ h1,dT_ f,Nf,Nf]at h;simp only[mv];simp only[aC,nY,bK,ac,LY,LR];intro E;refine bj (λi S c=>c=M/\(∃k,S=[a7<|.tup xs,k])/\(xs.take i).all gH=a9) ?_ ?_ ⟨rfl,⟨_,rfl⟩,b9⟩;rintro S c ⟨rfl,⟨k,rfl⟩,j⟩;refine⟨trivial,?_⟩;rw[Mw]at j;simp only[sv];walk_at"dl";intro _;have s:∀x∈xs,∃a r,x=.tup (.str a::r):=λx C=>by obtain⟨a,b,e⟩:=lT<|z5.mp j x C;exact⟨a,_,e⟩
  refine aN dh (λS=>∃a,S=[a]) trivial _ _ _ ?_ ⟨_,rfl⟩ (by simpa using E) ?_;rintro y O S ⟨a,rfl⟩;obtain⟨b,r,rfl⟩:=s y O;refine⟨[a7<|.tup<|.str b::r],⟨_,rfl⟩,λY B=>?_⟩;walk_at"dl";exact B;rw[E9,fe s];refine⟨_,xs.map au,rfl,.inl ⟨_,rfl,ae⟩,el,?_⟩;rw[j]at h;exact aE.bl h aL;rintro i y S c O ⟨rfl,⟨k,rfl⟩,j⟩ L A;have o:=w y<|Kw O;refine⟨trivial,?_⟩;have p:gH y=c5->R (.bl c5) c:=λe=>by rw[Bx O e]at h;exact h
  rcases kI c o with⟨ys,rfl⟩|⟨t,l⟩
  obtain⟨_,G,rfl,z⟩:=o.tup;walk_at"dl";refine⟨b0,?_⟩;rw[show fR "tuple" "tuple" = a9 from rfl];walk_at"ifs";refine⟨⟨aM,aM⟩,?_⟩;rw[cG];rcases gM (.tup ys)with⟨a,b,e⟩|⟨t,l⟩
  injection e with e;subst e;rw[show ((([a,b]:List D).length:Int)==2)=a9 from rfl];walk_at"ifs";refine⟨a,rfl,(z a<|by simp).thing,?_⟩;cases q:aH a with
  |true=>walk_at"ifs";exact E7.now<|A _ _ ⟨rfl,⟨_,rfl⟩,lX O j q⟩
  |false=>walk_at"ifs";exact aE.now<|p q
  have u:((ys.length:Int)==2)=c5:=t;rw[u];walk_at"ifs";exact aE.now<|p<|lU l;walk_at"dl";refine⟨⟨o.thing.1,b0⟩,?_⟩;simp only[A0]at t;rw[t];walk_at"ifs";exact aE.now<|p<|lU λa b=>l _
 walk_at"dl";refine⟨b0,?_⟩;rw[show fR "tuple" "tuple" = a9 from rfl];walk_at"ifs";rw[kD.1,kD.2];by_cases h1:1<=xs.length;rw[dT_ h1]at h ⊢;walk_at"ifs";by_cases f:xs.length<=4;rw[dT_ f];walk_at"ifs";exact v h1 f;rw[dF_ f]at h ⊢;walk_at"ifs";exact aE.now h;rw[dF_ h1]at h ⊢;walk_at"ifs";exact aE.now h;have e:cX d=c5:=by unfold cX;split;exact p5 rfl<|l _;rfl
 rw[e]at h;walk_at"dl";refine⟨⟨g.thing.1,b0⟩,?_⟩;simp only[A0]at t;rw[t];walk_at"ifs";exact aE.now h
def Cz(T:Tops P w K mg base):w4 P w K mg base 2 "_law_pairs" uV ka:=w4.byD (N:=["_law_thing","_law_pair"]) T.b T.f_pairs dz Ac (by have:=lc T;have:=tj T;walk_at"dv") BK
noncomputable def jW:D->List D
 |.tup xs=>xs
 |_=>[]
noncomputable def eX:D->Bool
 |.tup [_,.int k]=>decide (1<=k)&&decide (k<=3)
 |_=>c5
noncomputable def eD(ns:List c8):D->Bool
 |.tup [_,b]=>cb ns b
 |_=>c5
noncomputable def JI:D->Bool
 |.tup [p,r]=>cX p&&(cX r&&((jW p).all eX&&(jW r).all (eD<|pV p)))
 |_=>c5
def vK(h:∀a b,d≠.tup [a,b]):JI d=c5:=by unfold JI;split;exact p5 rfl<|h _ _;rfl
def xq:A7:=λds M R=>∃(n:Nat) (d:D),ds=[d]/\u4 M n d/\R (.bl<|JI d) M
def FJ:fu xq Fp:=by rintro ds M R ⟨n,d,rfl,_⟩;rfl
def wG(h:cX p=a9):∃xs,p=.tup xs/\xs.length<=4/\∀x∈xs,gH x=a9:=by unfold cX at h;split at h;simp only[A2,p6]at h;exact⟨_,rfl,h.1.2,z5.mp h.2.1⟩;cases h
def xJ(d:D):bg d=(gH d&&eX d):=by
 rcases gM d with⟨a,b,rfl⟩|⟨_,e⟩
 cases b with
 |int k=>rfl
 |_=>simp[bg,eX]
 rw[pS e,lU e];rfl
def uR(ns:List c8)(d:D):ba ns d=(gH d&&eD ns d):=by
 rcases gM d with⟨a,b,rfl⟩|⟨_,e⟩
 rfl;rw[mR e,lU e];rfl
def By{xs:List D}{p q:D->Bool}:xs.all (λx=>p x&&q x)=(xs.all p&&xs.all q):=by
 induction xs with
 |nil=>rfl
 |cons x xs i=>rw[KL,KL,KL,i];cases p x<;>cases q x<;>simp
def zK(p:D):dU p=(cX p&&(jW p).all eX):=by
 cases p with
 |tup xs =>
  show ((decide (1<=xs.length)&&decide (xs.length<=4))&&(xs.all bg&&bB (xs.map au)))=(((decide (1<=xs.length)&&decide (xs.length<=4))&&(xs.all gH&&bB (xs.map au)))&&xs.all eX)
  rw[show bg=λx=>gH x&&eX x from funext xJ,By];cases (decide (1<=xs.length)&&decide (xs.length<=4))<;>cases xs.all gH<;>cases xs.all eX<;>cases bB (xs.map au)<;>rfl
 |_=>rfl
def Ci(ns:List c8)(p:D):kX ns p=(cX p&&(jW p).all (eD ns)):=by
 cases p with
 |tup xs =>
  show ((decide (1<=xs.length)&&decide (xs.length<=4))&&(xs.all (ba ns)&&bB (xs.map au)))=(((decide (1<=xs.length)&&decide (xs.length<=4))&&(xs.all gH&&bB (xs.map au)))&&xs.all (eD ns))
  rw[show ba ns=λx=>gH x&&eD ns x from funext<|uR ns,By];cases (decide (1<=xs.length)&&decide (xs.length<=4))<;>cases xs.all gH<;>cases xs.all (eD ns)<;>cases bB (xs.map au)<;>rfl
 |_=>rfl
def JH(d:D):JI d=cy d:=by
 rcases gM d with⟨a,b,rfl⟩|⟨_,e⟩
 show (cX a&&(cX b&&((jW a).all eX&&(jW b).all (eD<|pV a))))=(dU a&&kX (pV a) b)
 rw[zK,Ci];cases cX a<;>cases cX b<;>cases (jW a).all eX<;>cases (jW b).all (eD<|pV a)<;>rfl;rw[vK e,nR e]
def Iz(k:Int)(M:t7):Ml M (.int k) [.int 1,.int 2,.int 3]=(decide (1<=k)&&decide (k<=3)):=by show ((u8 M v3 (.int 1)<|.int k)||((u8 M v3 (.int 2)<|.int k)||((u8 M v3 (.int 3)<|.int k)||false)))=_;rw[cG,cG,cG,NF];simp only[Pi,p7,A2,p6,Bool.or_false];lia
def nE(h:ah M n xs)(ok:∀x∈xs,u9 (M++[MO.lst []]) 29 x=a9):(u9 (M++[MO.lst []]) v3 (.ref n)=a9/\u9 (M++[MO.lst []]) v3 (.ref M.length)=a9)/\u8 (M++[MO.lst []]) v3 (.ref n) (.ref M.length)=xs.isEmpty:=by obtain⟨h1,h2⟩:=AS (Q:=λd _=>d=.bl xs.isEmpty) h ok rfl;exact⟨h1,by injection h2⟩
def ze:t9:=be<|dC<|.bl a9
def zf:t9:=A6 (cM<|ar<|u0 iG<|aa (ac 5) af) (be<|dC<|.bl c5) aK
def uK:t9:=aC (nY (bK<|t6 v9 (ac 0)<|dC<|.int 1) (gI 2<|aQ (al 4)<|aQ (al 5) gJ)<|aC (A6 (Fn (cM<|ar<|u0 fF<|aa (ac 5)<|aa (dC<|.ty "tuple") af)<|Fn (ar<|t6 G5 (ac 5)<|bc af)<|ar<|t6 Lw (E4 1 [3] (bK<|ac 5) (al 0) (ar<|t6 pP (ac 0)<|ac 1)<|ac 0)<|cq af) (be<|dC<|.bl c5) aK)<|zf)<|ze
def uL:t9:=aC (bD (E4 2 [] (bK<|t6 v9 (ac 0)<|dC<|.int 0) (gI 2<|aQ (al 0)<|aQ (al 1) gJ) kg<|ac 0) 3)<|uK
def uM:t9:=aC (nY (bK<|t6 v9 (ac 0)<|dC<|.int 0) (gI 2<|aQ (al 1)<|aQ (al 2) gJ)<|A6 (Fn (ar<|u0 fF<|aa (ac 2)<|aa (dC<|.ty "bool") af)<|Fn (cM<|ar<|u0 fF<|aa (ac 2)<|aa (dC<|.ty "int") af)<|ar<|t6 pP (ac 2)<|bc<|aa (dC<|.int 1)<|aa (dC<|.int 2)<|aa (dC<|.int 3) af) (be<|dC<|.bl c5) aK)<|uL
def Hq:t9:=aC (A6 (Fn (cM<|ar<|u0 fF<|aa (ac 0)<|aa (dC<|.ty "tuple") af)<|Fn (ar<|t6 Lw (u0 jR<|aa (ac 0) af)<|dC<|.int 2)<|Fn (cM<|ar<|u0 ka<|aa (t6 v9 (ac 0)<|dC<|.int 0) af)<|cM<|ar<|u0 ka<|aa (t6 v9 (ac 0)<|dC<|.int 1) af) (be<|dC<|.bl c5) aK)<|uM
theorem AX{M:t7}{R:DK}{m:Nat}{d:D}{s:List D}{ns:List c8}{C E:Option D}(J:∀x∈s,u4 M m x)(t:∀x∈s,gH x=a9)(V:∃p,d=.tup [p,.tup s])(h:R (.bl<|s.all<|eD ns) M):uK (EE M R) [a7 d,C,E,a7<|.ref M.length,a8,a8] (M++[.lst<|ns.map .str]):=by
 obtain⟨p,rfl⟩:=V;simp only[uK];walk_at"dl";intro hz;refine bj (λi S g=>(∃L,g=M++(.lst (ns.map .str)::L))/\(∃a b,S=[a7<|.tup [p,.tup s],C,E,a7<|.ref M.length,a,b])/\(s.take i).all (eD ns)=a9) ?_ ?_ ⟨⟨[],rfl⟩,⟨_,_,rfl⟩,b9⟩;rintro S g ⟨⟨L,rfl⟩,⟨a,b,rfl⟩,r⟩;refine⟨trivial,?_⟩;rw[Mw]at r;rw[r]at h;simp only[ze];walk_at"dl";exact aE.bl h<|Kv _ _;rintro i y S g O ⟨⟨L,rfl⟩,⟨a,b,rfl⟩,r⟩ G U;have N:ah (M++(MO.lst (ns.map .str)::L)) M.length (ns.map .str):=.inl bw;have k:M <+: M++(MO.lst (ns.map .str)::L):=Kv _ _;have K:=J y<|Kw O;obtain⟨x,c,rfl⟩:=lT<|t y<|Kw O;obtain⟨_,m',rfl,P⟩:=K.tup;have j:=(P c<|by simp).grow k;have o:eD ns (.tup [.str x,c])=c5->R (.bl c5) M:=λe=>by rw[Bx O e]at h;exact h
 refine⟨trivial,?_⟩;simp only[zf];rcases kI _ j with⟨xs,rfl⟩|⟨z,F⟩
 obtain⟨W,m2,rfl,w⟩:=j.tup;simp only[eD,cb]at o;generalize Q:M++(MO.lst (ns.map .str)::L)=B at N k j w;walk_at"dl";refine⟨trivial,b0,?_⟩;rw[show fR "tuple" "tuple" = a9 from rfl];walk_at"ifs";refine⟨B0 _,⟨j.ok,rfl⟩,?_⟩;rw[show u8 B v3 (.tup xs) (.tup [])=xs.isEmpty from rp];by_cases h1:1<=xs.length;rw[dT_ h1]at o;rw[show xs.isEmpty=c5 by cases xs<;>simp_all];walk_at"ifs";intro u;refine bF (λd=>!KQ ns d) id (λS=>∃a,S=[a,a7<|.ref M.length]) trivial _ _ _ ?_ ⟨_,rfl⟩ ?_ ?_;rintro y O S ⟨a,rfl⟩;refine⟨[a7 y,a7<|.ref M.length],⟨_,rfl⟩,λY Z f=>?_⟩;refine(show DV a9 y (.ref M.length) B (λx g=>match x with|.bl b=>(if b=a9 then Y y [a7 y,a7<|.ref M.length] g else Z [a7 y,a7<|.ref M.length] g)|_=>False)from⟨_,N,⟨(w y O).ok,zh⟩,?_⟩);rw[qX];cases e:KQ ns y with
 |true=>rw[e]at f;exact f
 |false=>rw[e]at f;exact f
 simpa using u;rw[E9,KU];refine⟨B0 _,?_⟩;have q:M <+: B++[MO.lst<|xs.filter λd=>!KQ ns d]++[MO.lst []]:=by rw[F0];exact k.trans<|Kv _ _
 have T:∃L2,B++[MO.lst<|xs.filter λd=>!KQ ns d]++[MO.lst []]=M++(MO.lst (ns.map .str)::L2):=⟨L++[MO.lst<|xs.filter λd=>!KQ ns d]++[MO.lst []],by rw[<-Q];simp⟩
 obtain⟨v,l⟩:=nE (M:=B++[MO.lst<|xs.filter λd=>!KQ ns d]) (n:=B.length) ae λy O=>Dj _ _ _ b7 (((w y (Nk.mp O).1).grow (show B <+: B++[MO.lst<|xs.filter λd=>!KQ ns d]++[MO.lst []] by rw[F0];exact Kv _ _)).mono (m:=29) (by have:=j.1;lia)<|by lia).2;refine⟨v,?_⟩;rw[l];rw[fU];have I:(xs.all λd=>!!KQ ns d)=xs.all (KQ ns):=by congr 1;funext d;rw[Bool.not_not]
 rw[I];cases e:xs.all (KQ ns) with
 |false=>rw[e]at o;walk_at"ifs";exact aE.bl (o rfl) q
 |true =>
  rw[e]at o;walk_at"ifs";have t:∀x∈xs,∃a,x=.str a:=λx X=>qV<|z5.mp e x X;refine⟨.tup xs,xs.map unT,rfl,.inr (by rw[mh t]),by rw[v5];exact W,?_⟩;cases A:bB (xs.map unT) with
  |false=>rw[A]at o;walk_at"ifs";exact aE.bl (o rfl) q
  |true=>walk_at"ifs";refine E7.now<|U _ _ ⟨T,⟨_,_,rfl⟩,lX O r ?_⟩;simp only[eD,cb];rw[dT_ h1,e,A];rfl
 rw[dF_ h1]at o;rw[show xs.isEmpty=a9 by cases xs<;>simp_all];walk_at"ifs";exact aE.bl (o rfl) k;walk_at"dl";refine⟨trivial,⟨j.thing.1,b0⟩,?_⟩;have H:eD ns (.tup [.str x,c])=c5:=by show cb ns c=c5;unfold cb;split;exact p5 rfl<|F _;rfl
 simp only[A0]at z;rw[z];walk_at"ifs";exact aE.bl (o H) k
def ye{M:t7}{m:Nat}{d:D}{ps:List D}{E:DEnds}(g:∀x∈ps,u4 M m x)(u:∀x∈ps,gH x=a9)(s:∃r,d=.tup [.tup ps,r])(p:ps.all eX=c5->E.rt (.bl c5) M)(h1:ps.all eX=a9->∀y1 y2,uL E [a7 d,y1,y2,a8,a8,a8] M):uM E [a7 d,a8,a8,a8,a8,a8] M:=by
 obtain⟨r,rfl⟩:=s;simp only[uM];simp only[aC,nY,bK,t6,ac,dC,LY,LR];show ps.length<=sizeLine->_;intro v;refine bj (λi S f=>f=M/\(∃a b,S=[a7<|.tup [.tup ps,r],a,b,a8,a8,a8])/\(ps.take i).all eX=a9) ?_ ?_ ⟨rfl,⟨_,_,rfl⟩,b9⟩;rintro S f ⟨rfl,⟨a,b,rfl⟩,h⟩;rw[Mw]at h;exact⟨trivial,h1 h _ _⟩;rintro i y S f O ⟨rfl,⟨a,b,rfl⟩,h⟩ G q;have l:=g y<|Kw O;obtain⟨x,c,rfl⟩:=lT<|u y<|Kw O;obtain⟨_,w,rfl,o⟩:=l.tup;have j:=o c b9;refine⟨trivial,?_⟩;have n:eX (.tup [.str x,c])=c5->E.rt (.bl c5) f:=λe=>p<|Bx O e;cases c with
 |int k =>
  walk_at"dl";refine⟨trivial,b0,?_⟩;rw[show fR "int" "bool" = c5 from rfl];walk_at"ifs";refine⟨b0,?_⟩;rw[show fR "int" "int" = a9 from rfl];walk_at"ifs";refine⟨ag b7,?_⟩;refine(show DV a9 (.int k) (.tup [.int 1,.int 2,.int 3]) f _ from⟨⟨aM,rfl⟩,?_⟩);rw[Iz];cases e:(decide (1<=k)&&decide (k<=3)) with
  |true=>exact E7.now<|q _ _ ⟨rfl,⟨_,_,rfl⟩,lX O h e⟩
  |false=>exact n e
 |bl b=>walk_at"dl";refine⟨trivial,b0,?_⟩;rw[show fR "bool" "bool" = a9 from rfl];walk_at"ifs";exact n rfl
 |ty t=>exact p5 j.thing.1<|by simp only[A0];decide
 |ref i=>have e:=cS j.thing.1;simp only[A0]at e;walk_at"dl";rw[e];refine⟨trivial,b0,?_⟩;rw[show fR "list" "bool" = c5 from rfl];walk_at"ifs";refine⟨b0,?_⟩;rw[show fR "list" "int" = c5 from rfl];walk_at"ifs";exact n rfl
 |non=>walk_at"dl";refine⟨trivial,b0,?_⟩;rw[show fR "NoneType" "bool" = c5 from rfl];walk_at"ifs";refine⟨b0,?_⟩;rw[show fR "NoneType" "int" = c5 from rfl];walk_at"ifs";exact n rfl
 |str z=>walk_at"dl";refine⟨trivial,b0,?_⟩;rw[show fR "str" "bool" = c5 from rfl];walk_at"ifs";refine⟨b0,?_⟩;rw[show fR "str" "int" = c5 from rfl];walk_at"ifs";exact n rfl
 |tup z=>walk_at"dl";refine⟨trivial,b0,?_⟩;rw[show fR "tuple" "bool" = c5 from rfl];walk_at"ifs";refine⟨b0,?_⟩;rw[show fR "tuple" "int" = c5 from rfl];walk_at"ifs";exact n rfl
def Hi:D7 xq 6 Hq:=by
 rintro ds M R ⟨n,d,rfl,g,h⟩;simp only[Hq];rcases kI M g with⟨xs,rfl⟩|⟨t,l⟩
 obtain⟨C,m,rfl,q⟩:=g.tup;walk_at"dl";refine⟨b0,?_⟩;rw[show fR "tuple" "tuple" = a9 from rfl];walk_at"ifs";refine⟨⟨aM,aM⟩,?_⟩;rw[cG];rcases gM (.tup xs)with⟨a,b,e⟩|⟨t,l⟩
 injection e with e;subst e;rw[show ((([a,b]:List D).length:Int)==2)=a9 from rfl];walk_at"ifs";have o:=q a b9;have p:=q b b9;refine⟨m,a,rfl,o,?_⟩;simp only[JI]at h;cases c:cX a with
 |false=>rw[c]at h;walk_at"ifs";exact aE.now h
 |true =>
  rw[c]at h;walk_at"ifs";refine⟨m,b,rfl,p,?_⟩;cases L:cX b with
  |false=>rw[L]at h;walk_at"ifs";exact aE.now h
  |true=>rw[L]at h;walk_at"ifs";obtain⟨ps,rfl,B,s⟩:=wG c;obtain⟨F,rfl,v,j⟩:=wG L;obtain⟨_,E,rfl,f⟩:=o.tup;obtain⟨_,mb,e,i⟩:=p.tup;simp only[jW,Nf]at h;refine ye f s ⟨_,rfl⟩ (λz=>aE.now ?_) λz G H=>?_;rw[z]at h;exact h;rw[z,Nf]at h;simp only[uL];walk_at"dl";intro A;have hs:∀x∈ps,∃a r,x=.tup [.str a,r]:=λx k=>lT<|s x k;refine aN dh (λS=>∃a b,S=[a,b]) trivial _ _ _ ?_ ⟨_,_,rfl⟩ (by simpa using A) ?_;rintro y O S ⟨a,b,rfl⟩;obtain⟨b,r,rfl⟩:=hs y O;refine⟨[a7<|.str b,a7 r],⟨_,_,rfl⟩,λY w=>?_⟩;walk_at"dl";exact⟨trivial,w⟩;rw[E9,fe λx k=>let ⟨a,r,e⟩:=hs x k;⟨a,_,e⟩];exact AX i j ⟨_,rfl⟩ h
 have u:((xs.length:Int)==2)=c5:=t;rw[u];walk_at"ifs";rw[vK l]at h;exact aE.now h;rw[vK λa b=>l _]at h;walk_at"dl";refine⟨⟨g.thing.1,b0⟩,?_⟩;simp only[A0]at t;rw[t];walk_at"ifs";exact aE.now h
def Ir(T:Tops P w K mg base):w4 P w K mg base 3 "_law_due" Fp xq:=w4.byD (N:=["_law_thing","_law_name","_law_many","_law_names","_law_room","_law_members"]) T.b T.f_due dz FJ (by have:=tj T;have:=Cz T;walk_at"dv") Hi
def cQ:A7:=λds M R=>∃(ps:List (c8×Int)) (m:Int) (j:c8),ds=[.tup<|ps.map aG,.int m,.str j]/\(1<=ps.length/\ps.length<=4)/\(∀p∈ps,p.1.length<=8)/\j.length<=100/\∀d B,M <+: B->Lk B d->R d B
def nO:fu cQ fL:=by rintro ds M R ⟨ps,m,j,rfl,_⟩;rfl
def nV(h:p.1.length<=8):u4 M 4 (aG p):=bh b0 (aU b7<|by decide)<|iC<|by decide
def FC(n:Int):0<=n % 20/\n % 20<20:=⟨KH _ b0,K1 _<|by decide⟩
def Cf{B:t7}{a b:MO}:(B++[a]).set B.length b=B++[b]:=fA
noncomputable def tH:List (c8×Int):=[("zzzzzzza",1),("zzzzzzzb",1),("zzzzzzzc",1),("zzzzzzzd",1),("zzzzzzze",1)]
def Au{ps:List (c8×Int)}:∀x∈ps.map aG,iL 1 x=a9/\nQ x=a9:=λx h=>by obtain⟨p,_,rfl⟩:=w9.mp h;exact⟨rfl,rfl⟩
def dJ:t9:=be<|t6 v9 (cq<|aa (bc af)<|aa (u0 eV<|aa (ac 0) af)<|aa (J1 (u0 bX<|aa (jZ<|t6 aF (u0 eV<|aa (ac 0) af)<|ac 7) af) aX<|cA<|dC<|.int 5) af)<|t6 BB (t6 dR (ac 1)<|dC<|.int 20)<|dC<|.int 17
def dL:t9:=aC (lr 1 [] (bK<|cq<|aa (dC<|.str "zzzzzzza")<|aa (dC<|.str "zzzzzzzb")<|aa (dC<|.str "zzzzzzzc")<|aa (dC<|.str "zzzzzzzd")<|aa (dC<|.str "zzzzzzze") af) (al 0) kg (bc<|aa (ac 0)<|aa (dC<|.int 1) af) 7)<|dJ
def hZ:t9:=aC (A6 (ar<|t6 G5 (t6 dR (ac 1)<|dC<|.int 20)<|dC<|.int 16) (be<|Hf (ac 0)<|cA<|MY Cl<|dC<|.int 1) aK)<|dL
def ic:t9:=aC (A6 (ar<|t6 G5 (t6 dR (ac 1)<|dC<|.int 20)<|dC<|.int 15) (be<|t6 aF (ac 0)<|J1 (ac 0) (cA<|MY Cl<|dC<|.int 1) aX) aK)<|hZ
def dN:t9:=aC (A6 (ar<|t6 MX (t6 dR (ac 1)<|dC<|.int 20)<|dC<|.int 15) (be<|t6 aF (t6 aF (J1 (ac 0) aX<|cA<|ac 3)<|bc<|aa (t6 v9 (ac 6)<|t6 dR (ac 1)<|dC<|.int 20) af)<|J1 (ac 0) (cA<|t6 aF (ac 3)<|dC<|.int 1) aX) aK)<|ic
def ie:t9:=aC (nZ<|Mm eS (ac 6)<|aa (bc<|aa (bc<|aa (ac 4) af)<|aa (ac 5) af) af)<|dN
def dP:t9:=aC (bD (t6 aF (ac 6)<|cq<|aa (bc<|aa (ac 4) af)<|aa (bc<|aa (ac 4)<|aa (ac 5)<|aa (dC<|.int 1) af)<|aa (cq<|aa (ac 4)<|aa (ac 5) af)<|aa (bc<|aa (ac 4)<|aa (dC<|.int 3) af)<|aa (bc<|aa (ac 2)<|aa (ac 5) af)<|aa (bc<|aa (cq<|aa (ac 4) af)<|aa (ac 5) af)<|aa (bc<|aa (dC .non)<|aa (ac 5) af) af) 6)<|ie
def ig:t9:=aC (bD (cq<|aa (bc<|aa (ac 4)<|aa (dC<|.int 0) af)<|aa (bc<|aa (ac 4)<|aa (dC<|.int 4) af)<|aa (bc<|aa (ac 4)<|aa (dC<|.bl a9) af)<|aa (bc<|aa (ac 4)<|aa (dC<|.str "1") af)<|aa (bc<|aa (dC<|.str "Ann")<|aa (ac 5) af)<|aa (bc<|aa (dC<|.str "")<|aa (ac 5) af)<|aa (bc<|aa (t6 aF (ac 4)<|dC<|.str "abcdefgh")<|aa (ac 5) af) af) 6)<|dP
def ii:t9:=aC (BE (t6 v9 (ac 0)<|ac 3)<|gI 2<|aQ (al 4)<|aQ (al 5) gJ)<|ig
def jJ:t9:=aC (bD (t6 dR (t6 ck (ac 1)<|dC<|.int 20)<|u0 jR<|aa (ac 0) af) 3)<|ii
def bp9{M B:t7}{R:DK}{ps:List (c8×Int)}{m:Int}{y t u v w:Option D}{q:Nat}(r:M <+: B)(F:1<=ps.length/\ps.length<=4)(g:∀p∈ps,p.1.length<=8)(n:17<=m % 20)(s:B[q]?=a7 (.lst<|tH.map aG))(h:∀d B,M <+: B->Lk B d->R d B):dJ (EE M R) [a7<|.tup<|ps.map aG,a7<|.int m,y,t,u,v,w,a7<|.ref q] B:=by
 have o:=FC m;have l:(ps.map aG).length=ps.length:=v5 ..;simp only[dJ];walk_at"dl";refine⟨B0 _,ps.map aG,tH.map aG,ak,aq<|aq s,ag (by rw[l];simp[tH];lia),1,(ps++tH).map aG,b0,.inl ⟨_,rfl,?_⟩,?_,Au,sQ ?_,λys X k G=>?_⟩;rw[Mv];exact ae;rw[v5,E2];simp[tH];lia;rw[E2];simp[tH];lia;have H:ys.length<=60:=by
  letI:DecidableEq D:=λa b=>Classical.propDecidable _
  have:=nodup_le ys _ X λx f=>(k x).mp f;rw[v5,E2]at this;simp[tH]at this;lia
 have z:∀(C:t7) x,x∈ys->u4 C 4 x:=λC x f=>by obtain⟨p,c,rfl⟩:=w9.mp<|(k x).mp f;rcases J7.mp c with c|c;exact nV<|g p c;refine nV ?_;simp only[tH,z7,Ls,or_false]at c;rcases c with rfl|rfl|rfl|rfl|rfl<;>decide +kernel
 refine⟨ys,ae,ag b7,b0,_,ae,?_⟩;obtain⟨j,L,e,E⟩:=qg (xs:=[D.tup [],D.ref<|Lq B,D.tup<|cutD ys a8<|a7 5]) (i:=m % 20-17) b7 c4;rw[e];refine .inl<|h _ _ ?_ ?_;exact r.trans<|((aL.trans aL).trans aL).trans aL |>.trans aL;have A:=bU (xs:=ys) (lo:=a8) (hi:=a7 5);have:j=0\/j=1\/j=2:=by simp at L;lia
 rcases this with rfl|rfl|rfl;exact jd b9 b0 aB;refine Gs (xs:=ps.map aG) (.inl<|aq<|aq<|aq<|aq ak) b0 (λx f=>?_) b7;obtain⟨p,c,rfl⟩:=w9.mp f;exact nV<|g p c;exact jd (xs:=cutD ys a8<|a7 5) b7 b0 λx f=>z _ x<|bH f
def bp8{M B:t7}{R:DK}{ps:List (c8×Int)}{m:Int}{e t u v w:Option D}(b:M <+: B)(g:1<=ps.length/\ps.length<=4)(i:∀p∈ps,p.1.length<=8)(n:17<=m % 20)(h:∀d B,M <+: B->Lk B d->R d B):dL (EE M R) [a7<|.tup<|ps.map aG,a7<|.int m,e,t,u,v,w,a8] B:=by simp only[dL];walk_at"dl";refine⟨ag b7,_,ae,λ_=>?_⟩;refine aN (λd=>.tup [d,.int 1]) (λS=>∃a,S=[a]) ae _ _ _ ?_ ⟨_,rfl⟩ (ag<|by simp) ?_;rintro y O S ⟨a,rfl⟩;refine⟨[a7 y],⟨_,rfl⟩,λY c=>?_⟩;walk_at"dl";exact⟨ag b7,c⟩;exact bp9 (b.trans<|aL.trans aL) g i n ak h
def bp5{M B:t7}{R:DK}{ps:List (c8×Int)}{m k:Int}{nm:c8}{y v:Option D}{q:Nat}{s:List D}(l:M <+: B)(r:1<=ps.length/\ps.length<=4)(n:∀p∈ps,p.1.length<=8)(u:ah B q s) (hi:s.length=15) (S:∀x∈s,u4 B 4 x) (h:∀d B,M <+: B->Lk B d->R d B):dN (EE M R) [a7<|.tup<|ps.map aG,a7<|.int m,a7<|.str nm,a7<|.int k,y,v,a7<|.ref q,a8] B:=by
 have o:=FC m;have b:∀x∈ps.map aG,u4 B 4 x:=λx a=>by obtain⟨p,b,rfl⟩:=w9.mp a;exact nV<|n p b
 have z:(ps.map aG).length<=4:=by rw[v5];exact r.2
 simp only[dN];walk_at"dl";refine⟨b0,?_⟩;by_cases g:m % 20<15;rw[dT_ g];walk_at"ifs";obtain⟨j,L,e,_⟩:=qg (xs:=s) (i:=m % 20) o.1 b7;have t:=bU (xs:=ps.map aG) (lo:=a8) (hi:=a7 k);have w:=bU (xs:=ps.map aG) (lo:=a7<|k+1) (hi:=a8);refine⟨b0,s,u,?_⟩;rw[e];refine⟨ag b7,ag c4,ag c4,?_⟩;refine .inl<|h _ _ l<|jd c4 b0 λx a=>?_;rcases J7.mp a with a|a;rcases J7.mp a with a|a;exact b x<|bH a;rw[Ky.mp a];exact S _<|KI L;exact b x<|bH a;rw[dF_ g];walk_at"ifs";simp only[ic];walk_at"dl";refine⟨b0,⟨aM,aM⟩,?_⟩;rw[cG];by_cases c:m % 20=15;rw[show (m % 20==15)=a9 by simpa using c];walk_at"ifs";have t:=bU (xs:=ps.map aG) (lo:=a7 (-1)) (hi:=a8);refine⟨ag b7,?_⟩;refine .inl<|h _ _ l<|jd (by simp at *;lia) b0 λx a=>?_;rcases J7.mp a with a|a;exact b x a;exact b x<|bH a;rw[show (m % 20==15)=c5 by simpa using c];walk_at"ifs";simp only[hZ];walk_at"dl";refine⟨b0,⟨aM,aM⟩,?_⟩;rw[cG];by_cases f:m % 20=16;rw[show (m % 20==16)=a9 by simpa using f];walk_at"ifs";refine⟨trivial,.inl<|h _ _ l<|jd (by simp at *;lia) b0 λx a=>?_⟩;exact b x<|List.mem_reverse.mp a;rw[show (m % 20==16)=c5 by simpa using f];walk_at"ifs";exact bp8 l r n b7 h
def bp3{M B:t7}{R:DK}{ps:List (c8×Int)}{m k e:Int}{nm t:c8}{q:Nat}{s:List D}(b:M <+: B)(g:1<=ps.length/\ps.length<=4)(a:∀p∈ps,p.1.length<=8)(l:t.length<=8)(j:nm.length<=100)(c:B[q]?=a7 (.lst s)) (hi:s.length=7) (S:∀x∈s,u4 B 4 x) (h:∀d B,M <+: B->Lk B d->R d B):dP (EE M R) [a7<|.tup<|ps.map aG,a7<|.int m,a7<|.str nm,a7<|.int k,a7<|.str t,a7<|.int e,a7<|.ref q,a8] B:=by simp only[dP];walk_at"dl";refine⟨ag b7,ag b7,ag b7,ag b7,ag b7,ag b7,ag b7,ag b7,ag b7,s,_,aq<|aq<|aq c,ak,ag c4,?_⟩;simp only[ie];walk_at"dl";refine⟨⟨_,ae⟩,ag b7,ag b7,_,ak,bA c4,?_⟩;rw[Cf];refine bp5 (b.trans<|((aL.trans aL).trans aL).trans aL) g a ae (by simp[hi]) ?_ h;have str:∀{C:t7}{n:Nat},n<=30->u4 C n (.str t):=λf=>aU b7 f;have int:∀{C:t7}{n:Nat}{i:Int},n<=30->u4 C n (.int i):=λf=>iC f;refine bC (bC (aw S<|((aL.trans aL).trans aL).trans aL) ?_)<|av (bh b0 (Di b0<|str<|by decide)<|int<|by decide) aB;refine av (Di b0<|str<|by decide)<|av (Jt b0 (str<|by decide) (int<|by decide)<|int<|by decide)<|av ?_<|av (bh b0 (str<|by decide)<|int<|by decide)<|av (bh b0 (aU b7<|by decide)<|int<|by decide)<|av (bh b0 ?_<|int<|by decide)<|av (bh b0 (wX<|by decide)<|int<|by decide) aB;exact u4.mkr (.inl<|aq<|aq<|aq ak) b0<|av (str<|by decide)<|av (int<|by decide) aB;exact u4.mkr (.inl<|aq<|aq ak) b0<|av (str<|by decide) aB
def oE:D7 cQ 8 jJ:=by
 rintro ds M R ⟨ps,b,v,rfl,k,g,f,h⟩;simp only[jJ,ii];walk_at"dl";have l:(ps.map aG).length=ps.length:=v5 ..;obtain⟨j,L,e,z⟩:=kG (xs:=ps.map aG) (r:=b / 20) b7;refine⟨⟨b0,b0⟩,b7,?_⟩;rw[e];rw[l]at L;rw[OP];generalize p:ps[j]=c;have m:c∈ps:=p ▸ KI L;have a:=g c m;obtain⟨d,u⟩:=c;have a:d.length<=8:=a;have q:d.length+(x9 "abcdefgh").length<=16:=by
  have:(x9 "abcdefgh").length=8:=by decide +kernel
  lia
 simp only[aG];walk_at"dl";refine⟨trivial,?_⟩;simp only[ig];walk_at"dl";refine⟨ag b7,ag b7,ag b7,ag b7,ag b7,ag b7,ag b7,ag b7,ag b7,?_⟩;refine bp3 aL k g a f ak rfl ?_ h;have s:∀{C:t7}{n:Nat},n<=30->u4 C n (.str d):=λf=>aU b7 f;have t:∀{C:t7}{n:Nat}{i:Int},n<=30->u4 C n (.int i):=λf=>iC f;have I:∀{C:t7}{n:Nat}{x:c8},x.length<=1000->n<=30->u4 C n (.str x):=λo f=>aU o f;exact av (bh b0 (s<|by decide)<|t<|by decide)<|av (bh b0 (s<|by decide)<|t<|by decide)<|av (bh b0 (s<|by decide)<|Ju<|by decide)<|av (bh b0 (s<|by decide)<|I dO<|by decide)<|av (bh b0 (I dO<|by decide)<|t<|by decide)<|av (bh b0 (I dO<|by decide)<|t<|by decide)<|av (bh b0 (I (by rw[oo];lia)<|by decide)<|t<|by decide) aB
def oJ(T:Tops P w K mg base):w4 P w K mg base 1 "_law_bent_people" fL cQ:=w4.byD (N:=["_law_people","_law_number","_law_name","_law_k","_law_there","_law_many","_law_some","_law_more"]) T.b T.f_bent_people dz nO d4 oE
def Ha(r:c8×List c8):Prop:=r.1.length<=8/\r.2≠[]/\r.2.length<=4/\∀x∈r.2,x.length<=8
def dn:A7:=λds M R=>∃(a:List (c8×List c8)) (m:Int) (j:c8),ds=[.tup<|a.map aJ,.int m,.str j]/\(1<=a.length/\a.length<=4)/\(∀r∈a,Ha r)/\j.length<=100/\∀d B,M <+: B->Lk B d->R d B
def oO:fu dn iq:=by rintro ds M R ⟨ps,m,j,rfl,_⟩;rfl
structure Few4(xs:List D):Prop where
 gd:∀(B:t7) (n:Nat),n<=30->∀x∈xs,u4 B n x
 ne:1<=xs.length
 le:xs.length<=4
def wY(a:ms≠[])(d:ms.length<=4)(i:∀x∈ms,x.length<=8):Few4 (ms.map D.str):=⟨λB n f=>AK f λx h=>by have:=i x h;lia,by rw[v5];exact List.length_pos_iff.mpr a,by rw[v5];exact d⟩
def AL(h:Ha r):u4 B 4 (aJ r):=bh b0 (aU (by have:=h.1;lia)<|by decide)<|u4.mk (n:=2) (by rw[v5];have:=h.2.2.1;lia) b0<|(wY h.2.1 h.2.2.1 h.2.2.2).gd _ _<|by decide
def uc(h:n+1<=30)(f:Few4 xs):u4 B (n+1) (.tup xs):=u4.mk (by have:=f.le;lia) h<|f.gd _ _<|by lia
def iY:t9:=be<|t6 v9 (cq<|aa (bc af)<|aa (bc<|aa (bc<|aa (dC<|.str "a")<|aa (ac 5) af)<|aa (bc<|aa (dC<|.str "b")<|aa (ac 5) af)<|aa (bc<|aa (dC<|.str "c")<|aa (ac 5) af)<|aa (bc<|aa (dC<|.str "d")<|aa (ac 5) af)<|aa (bc<|aa (dC<|.str "e")<|aa (ac 5) af) af) af)<|t6 dR (t6 ck (ac 1)<|dC<|.int 20)<|dC<|.int 2
def iZ:t9:=aC (A6 (ar<|t6 G5 (t6 dR (ac 1)<|dC<|.int 20)<|dC<|.int 18) (be<|Hf (ac 0)<|cA<|MY Cl<|dC<|.int 1) aK)<|iY
def ja:t9:=aC (A6 (ar<|t6 G5 (t6 dR (ac 1)<|dC<|.int 20)<|dC<|.int 17) (be<|t6 aF (ac 0)<|bc<|aa (bc<|aa (dC<|.str "zzzzzzzz")<|aa (ac 5) af) af) aK)<|iZ
def eM:t9:=aC (A6 (ar<|t6 MX (t6 dR (ac 1)<|dC<|.int 20)<|dC<|.int 17) (be<|t6 aF (t6 aF (J1 (ac 0) aX<|cA<|ac 3)<|bc<|aa (t6 v9 (ac 6)<|t6 dR (ac 1)<|dC<|.int 20) af)<|J1 (ac 0) (cA<|t6 aF (ac 3)<|dC<|.int 1) aX) aK)<|ja
def eO:t9:=aC (bD (t6 aF (ac 6)<|cq<|aa (bc<|aa (dC .non)<|aa (ac 5) af)<|aa (bc<|aa (ac 4)<|aa (bc<|aa (dC .non) af) af)<|aa (bc<|aa (dC<|.str "Hall")<|aa (ac 5) af) af) 6)<|eM
def eQ:t9:=aC (bD (t6 aF (ac 6)<|cq<|aa (bc<|aa (ac 4)<|aa (J1 (ac 5) aX<|cA<|dC<|.int 1) af)<|aa (bc<|aa (ac 2)<|aa (ac 5) af)<|aa (bc<|aa (cq<|aa (ac 4) af)<|aa (ac 5) af)<|aa (bc<|aa (ac 4)<|aa (t6 aF (bc<|aa (cq<|aa (t6 v9 (ac 5)<|dC<|.int 0) af) af)<|J1 (ac 5) (cA<|dC<|.int 1) aX) af) af) 6)<|eO
def eR:t9:=aC (bD (t6 aF (ac 6)<|cq<|aa (bc<|aa (ac 4)<|aa (u0 eV<|aa (ac 5) af) af)<|aa (bc<|aa (ac 4)<|aa (ac 5)<|aa (dC<|.int 0) af)<|aa (bc<|aa (ac 4) af)<|aa (bc<|aa (dC<|.str "x y")<|aa (ac 5) af)<|aa (bc<|aa (dC<|.int 5)<|aa (ac 5) af)<|aa (bc<|aa (ac 4)<|aa (ac 4) af) af) 6)<|eQ
def jb:t9:=aC (bD (cq<|aa (bc<|aa (ac 4)<|aa (bc af) af)<|aa (bc<|aa (ac 4)<|aa (t6 aF (ac 5)<|J1 (ac 5) (cA<|MY Cl<|dC<|.int 1) aX) af)<|aa (bc<|aa (ac 4)<|aa (Hf (ac 5)<|cA<|MY Cl<|dC<|.int 1) af)<|aa (bc<|aa (ac 4)<|aa (t6 aF (ac 5)<|bc<|aa (dC<|.str "zzzzzzzz") af) af) af) 6)<|eR
def jc:t9:=aC (BE (t6 v9 (ac 0)<|ac 3)<|gI 2<|aQ (al 4)<|aQ (al 5) gJ)<|jb
def kO:t9:=aC (bD (t6 dR (t6 ck (ac 1)<|dC<|.int 20)<|u0 jR<|aa (ac 0) af) 3)<|jc
def br6{M B:t7}{R:DK}{b:List (c8×List c8)}{m k:Int}{F G:Option D}{xs:List D}{q:Nat}{s:List D}(u:M <+: B)(w:1<=b.length/\b.length<=4)(A:∀r∈b,Ha r)(f:Few4 xs)(z:ah B q s) (hi:s.length=17) (S:∀x∈s,u4 B 4 x) (h:∀d B,M <+: B->Lk B d->R d B):eM (EE M R) [a7<|.tup<|b.map aJ,a7<|.int m,F,a7<|.int k,G,a7<|.tup xs,a7<|.ref q] B:=by
 have v:=FC m;have c:∀(C:t7) x,x∈b.map aJ->u4 C 4 x:=λC x a=>by obtain⟨p,c,rfl⟩:=w9.mp a;exact AL<|A p c
 have N:(b.map aJ).length<=4:=by rw[v5];exact w.2
 have I:∀{C:t7}{n:Nat}{x:c8},x.length<=1000->n<=30->u4 C n (.str x):=λa y=>aU a y;simp only[eM];walk_at"dl";refine⟨b0,?_⟩;by_cases t:m % 20<17;rw[dT_ t];walk_at"ifs";obtain⟨j,L,e,_⟩:=qg (xs:=s) (i:=m % 20) v.1 b7;have H:=bU (xs:=b.map aJ) (lo:=a8) (hi:=a7 k);have J:=bU (xs:=b.map aJ) (lo:=a7<|k+1) (hi:=a8);refine⟨b0,s,z,?_⟩;rw[e];refine⟨ag b7,ag c4,ag c4,?_⟩;refine .inl<|h _ _ u<|jd c4 b0 λx a=>?_;rcases J7.mp a with a|a;rcases J7.mp a with a|a;exact c _ x<|bH a;rw[Ky.mp a];exact S _<|KI L;exact c _ x<|bH a;rw[dF_ t];walk_at"ifs";simp only[ja];walk_at"dl";refine⟨b0,⟨aM,aM⟩,?_⟩;rw[cG];by_cases g:m % 20=17;rw[show (m % 20==17)=a9 by simpa using g];walk_at"ifs";refine⟨ag b7,ag b7,ag c4,?_⟩;refine .inl<|h _ _ u<|jd (by simp at *;lia) b0<|bC (c _)<|av (bh b0 (I dO<|by decide)<|uc b0 f) aB;rw[show (m % 20==17)=c5 by simpa using g];walk_at"ifs";simp only[iZ];walk_at"dl";refine⟨b0,⟨aM,aM⟩,?_⟩;rw[cG];by_cases l:m % 20=18;rw[show (m % 20==18)=a9 by simpa using l];walk_at"ifs";refine⟨trivial,.inl<|h _ _ u<|jd (by simp at *;lia) b0 λx a=>?_⟩;exact c _ x<|List.mem_reverse.mp a;rw[show (m % 20==18)=c5 by simpa using l];walk_at"ifs";simp only[iY];walk_at"dl";refine⟨B0 _,ag b7,ag b7,ag b7,ag b7,ag b7,ag b7,ag b7,⟨b0,b0⟩,b0,_,ae,?_⟩;have E:=KH (m / 20) (show (2:Int)≠0 by decide);have V:=K1 (m / 20) (show (0:Int)<2 by decide);obtain⟨j,L,e,K⟩:=qg (xs:=[D.tup [],D.tup [D.tup [D.str<|x9 "a",D.tup xs],D.tup [D.str<|x9 "b",D.tup xs],D.tup [D.str<|x9 "c",D.tup xs],D.tup [D.str<|x9 "d",D.tup xs],D.tup [D.str<|x9 "e",D.tup xs]]]) (i:=m / 20 % 2) E c4;rw[e];refine .inl<|h _ _ (u.trans aL) ?_;have:j=0\/j=1:=by simp at L;lia
 rcases this with rfl|rfl;exact jd b9 b0 aB;have o:∀{C:t7}{x:c8},x.length<=1000->u4 C 4 (.tup [.str x,.tup xs]):=λa=>bh b0 (I a<|by decide)<|uc b0 f;exact jd b9 b0<|av (o<|by decide +kernel)<|av (o<|by decide +kernel)<|av (o<|by decide +kernel)<|av (o<|by decide +kernel)<|av (o<|by decide +kernel) aB
def br5{M B:t7}{R:DK}{a:List (c8×List c8)}{c k:Int}{nm e:c8}{xs:List D}{q:Nat}{s:List D}(g:M <+: B)(l:1<=a.length/\a.length<=4)(j:∀r∈a,Ha r)(f:Few4 xs)(t:e.length<=8)(p:nm.length<=100)(i:B[q]?=a7 (.lst s)) (hi:s.length=14) (S:∀x∈s,u4 B 4 x) (h:∀d B,M <+: B->Lk B d->R d B):eO (EE M R) [a7<|.tup<|a.map aJ,a7<|.int c,a7<|.str nm,a7<|.int k,a7<|.str e,a7<|.tup xs,a7<|.ref q] B:=by have I:∀{C:t7}{n:Nat}{x:c8},x.length<=1000->n<=30->u4 C n (.str x):=λo b=>aU o b;have str:∀{C:t7}{n:Nat},n<=30->u4 C n (.str e):=λb=>aU b7 b;have m:∀{C:t7},u4 C 3 (.tup xs):=uc b0 f;simp only[eO];walk_at"dl";refine⟨ag b7,ag b7,ag b7,ag b7,ag b7,s,_,aq i,ak,ag c4,?_⟩;refine br6 (g.trans<|aL.trans aL) l j f ae (by simp[hi]) ?_ h;exact bC (aw S<|aL.trans aL)<|av (bh b0 (wX<|by decide) m)<|av (bh b0 (str<|by decide)<|Di b0<|wX<|by decide)<|av (bh b0 (I dO<|by decide) m) aB
def br4{M B:t7}{R:DK}{a:List (c8×List c8)}{c k:Int}{nm e:c8}{xs:List D}{q:Nat}{s:List D}(o:M <+: B)(p:1<=a.length/\a.length<=4)(v:∀r∈a,Ha r)(f:Few4 xs)(y:e.length<=8)(w:nm.length<=100)(u:B[q]?=a7 (.lst s)) (hi:s.length=10) (S:∀x∈s,u4 B 4 x) (h:∀d B,M <+: B->Lk B d->R d B):eQ (EE M R) [a7<|.tup<|a.map aJ,a7<|.int c,a7<|.str nm,a7<|.int k,a7<|.str e,a7<|.tup xs,a7<|.ref q] B:=by have str:∀{C:t7}{n:Nat},n<=30->u4 C n (.str e):=λt=>aU b7 t;have m:∀{C:t7},u4 C 3 (.tup xs):=uc b0 f;have i:=f.le;have l:=f.ne;simp only[eQ];walk_at"dl";refine⟨ag b7,ag b7,ag b7,ag b7,?_⟩;have g:atI xs 0=a7 xs[0]:=aY (j:=0) (A1<|by lia);rw[g];have z:=bU (xs:=xs) (lo:=a8) (hi:=a7 1);have A:=bU (xs:=xs) (lo:=a7 1) (hi:=a8);refine⟨ag b7,ag b7,ag (by first|lia|(simp;lia)),ag b7,ag b7,s,_,aq<|aq<|aq u,ak,ag c4,?_⟩;refine br5 (o.trans<|((aL.trans aL).trans aL).trans aL) p v f y w ak (by simp[hi]) ?_ h;refine bC (aw S<|((aL.trans aL).trans aL).trans aL)<|av (bh b0 (str<|by decide) ?_)<|av (bh b0 (aU b7<|by decide) m)<|av (bh b0 ?_ m)<|av (bh b0 (str<|by decide) ?_) aB;exact u4.mk b7 b0 λx b=>f.gd _ _ b0 x<|bH b;exact u4.mkr (.inl<|aq<|aq<|aq ak) b0<|av (str<|by decide) aB;refine u4.mk c4 b0<|bC (av ?_ aB) λx b=>f.gd _ _ b0 x<|bH b;exact u4.mkr (.inl<|aq<|aq ak) b0<|av (f.gd _ _ b0 _<|KI _) aB
def br3{M B:t7}{R:DK}{a:List (c8×List c8)}{c k:Int}{nm e:c8}{xs:List D}{q:Nat}{s:List D}(g:M <+: B)(l:1<=a.length/\a.length<=4)(o:∀r∈a,Ha r)(f:Few4 xs)(u:e.length<=8)(t:nm.length<=100)(j:B[q]?=a7 (.lst s)) (hi:s.length=4) (S:∀x∈s,u4 B 4 x) (h:∀d B,M <+: B->Lk B d->R d B):eR (EE M R) [a7<|.tup<|a.map aJ,a7<|.int c,a7<|.str nm,a7<|.int k,a7<|.str e,a7<|.tup xs,a7<|.ref q] B:=by have I:∀{C:t7}{n:Nat}{x:c8},x.length<=1000->n<=30->u4 C n (.str x):=λp b=>aU p b;have str:∀{C:t7}{n:Nat},n<=30->u4 C n (.str e):=λb=>aU b7 b;have m:∀{C:t7},u4 C 3 (.tup xs):=uc b0 f;have i:=f.le;simp only[eR];walk_at"dl";refine⟨ag b7,ag b7,ag b7,ag b7,ag b7,ag b7,ag b7,s,_,aq<|aq j,ak,ag c4,?_⟩;refine br4 (g.trans<|(aL.trans aL).trans aL) l o f u t ak (by simp[hi]) ?_ h;refine bC (aw S<|(aL.trans aL).trans aL)<|av (bh b0 (str<|by decide) ?_)<|av (Jt b0 (str<|by decide) m<|iC<|by decide)<|av (Di b0<|str<|by decide)<|av (bh b0 (I dO<|by decide) m)<|av (bh b0 (iC<|by decide) m)<|av (bh b0 (str<|by decide)<|str<|by decide) aB;exact u4.mkr (.inl<|aq<|aq ak) b0 (f.gd _ _<|by decide) (by have:=f.le;lia)
def qj:D7 dn 7 kO:=by rintro ds M R ⟨a,d,A,rfl,q,i,b,h⟩;simp only[kO,jc];walk_at"dl";have l:(a.map aJ).length=a.length:=v5 ..;obtain⟨j,L,e,z⟩:=kG (xs:=a.map aJ) (r:=d / 20) b7;refine⟨⟨b0,b0⟩,b7,?_⟩;rw[e];rw[l]at L;rw[OP];generalize p:a[j]=g;have m:g∈a:=p ▸ KI L;obtain⟨t,v,u,w⟩:=i g m;have f:=wY v u w;obtain⟨k,ms⟩:=g;have t:k.length<=8:=t;have f:Few4 (ms.map D.str):=f;simp only[aJ];generalize ms.map D.str=xs at f;have o:=f.le;walk_at"dl";refine⟨trivial,?_⟩;simp only[jb];walk_at"dl";have y:=bU (xs:=xs) (lo:=a7 (-1)) (hi:=a8);refine⟨B0 _,ag b7,ag b7,ag b7,trivial,ag b7,ag b7,ag c4,ag b7,ag b7,?_⟩;have s:∀{C:t7}{n:Nat},n<=30->u4 C n (.str k):=λb=>aU b7 b;refine br3 aL q i f t b ak rfl ?_ h;refine av (bh b0 (s<|by decide)<|u4.mk (n:=2) b9 b0 aB)<|av (bh b0 (s<|by decide) ?_)<|av (bh b0 (s<|by decide) ?_)<|av (bh b0 (s<|by decide) ?_) aB;exact u4.mk c4 b0<|bC (f.gd _ _<|by decide) λx c=>f.gd _ _ b0 x<|bH c;exact u4.mk c4 b0 λx c=>f.gd _ _ b0 x<|List.mem_reverse.mp c;exact u4.mk c4 b0<|bC (f.gd _ _<|by decide)<|av (aU dO<|by decide) aB
def qJ(T:Tops P w K mg base):w4 P w K mg base 1 "_law_bent_rooms" iq dn:=w4.byD (N:=["_law_rooms","_law_number","_law_name","_law_k","_law_room","_law_members","_law_some"]) T.b T.f_bent_rooms dz oO d4 qj
def gv:A7:=λds M R=>∃(p r:D) (xs ys:List D),ds=[p,r]/\GH M p/\GH M r/\Tabs M/\(bv M p=a7 xs/\bv M r=a7 ys)/\((∀ps a,¬HouseFor M p r ps a)->∀B,TM M B->R .non B)/\∀ps a B,HouseFor M p r ps a->TM M B->R (ay ps a) B
def tQ:fu gv ky:=by rintro ds M R ⟨p,r,xs,ys,rfl,_⟩;rfl
def kP:t9:=be<|ac 6
def ij:t9:=aC (A6 (cM<|ar<|u0 xq<|aa (ac 6) af) (be<|dC .non) aK)<|kP
def ik:t9:=aC (bD (bc<|aa (u0 bX<|aa (fg "_law_as_house" ⟨300,53,300,83⟩ ["_law_pair"] (t6 v9 (ac 0)<|dC<|.int 0)<|aa (ac 0) af) af)<|aa (u0 bX<|aa (ac 3) af) af) 6)<|ij
def cU:t9:=aC (bD (fg "_law_as_house" ⟨299,38,299,68⟩ ["_law_pair"] (t6 v9 (ac 0)<|dC<|.int 0)<|aa (ac 3) af) 3)<|ik
def cW:t9:=nZ<|Mm eS (ac 3)<|aa (bc<|aa (ac 4)<|aa (u0 bX<|aa (u0 jQ<|aa (ac 5) af) af) af) af
def kQ:t9:=aC (nY (bK<|ac 1) (gI 2<|aQ (al 4)<|aQ (al 5) gJ)<|aC (A6 (Fn (cM<|ar<|u0 fF<|aa (ac 5)<|aa (bc<|aa (dC<|.ty "list")<|aa (dC<|.ty "tuple") af) af)<|ar<|t6 Lw (E4 1 [] (bK<|ac 5) (al 0) (cM<|ar<|u0 bn<|aa (ac 0) af)<|ac 0)<|cq af) (be<|dC .non) aK)<|cW)<|cU
def il:t9:=aC (bD (cq af) 3)<|kQ
def pL:t9:=aC (nY (bK<|t6 aF (u0 eV<|aa (ac 0) af)<|u0 eV<|aa (ac 1) af) (al 2)<|A6 (Fn (cM<|ar<|u0 fF<|aa (ac 2)<|aa (dC<|.ty "tuple") af)<|Fn (ar<|t6 Lw (u0 jR<|aa (ac 2) af)<|dC<|.int 2)<|cM<|ar<|u0 bn<|aa (t6 v9 (ac 2)<|dC<|.int 0) af) (be<|dC .non) aK)<|il
def rT(x:bv M p=a7 xs)(O:bv M r=a7 ys)(l:xs.length+ys.length<=1000)(h:Q (.ref (M++[MO.lst xs]++[MO.lst ys]).length) (M++[MO.lst xs]++[MO.lst ys]++[MO.lst<|xs++ys])):t6 aF (u0 eV<|aa (ac 0) af) (u0 eV<|aa (ac 1) af) (a7 p::a7 r::S) M Q:=by
 rcases bW x with⟨i,rfl,L⟩|rfl<;>rcases bW O with⟨j,rfl,a⟩|rfl<;>walk_at"dl"
 exact⟨xs,L,ys,a.more _,xs,ys,aq ak,ak,ag l,h⟩;exact⟨xs,L,xs,ys,aq ak,ak,ag l,h⟩;exact⟨ys,a.more _,xs,ys,aq ak,ak,ag l,h⟩;exact⟨xs,ys,aq ak,ak,ag l,h⟩
def z9(M N:t7):Prop:=∃a L,TM M a/\N=a++L
section
variable{M N:t7}
def z9.now(t:Tabs M)(p:M <+: N):z9 M N:=by obtain⟨L,rfl⟩:=p;exact⟨M,L,TM.now t,rfl⟩
def z9.tabs(t:Tabs M)(h:z9 M N):Tabs N:=by obtain⟨a,L,P,rfl⟩:=h;exact(P.tabs t).pre<|Kv _ _
def z9.app(h:z9 M N)(L:t7):z9 M (N++L):=by obtain⟨a,b,P,rfl⟩:=h;exact⟨a,b++L,P,by rw[F0]⟩
def z9.le(h:z9 M N):M.length<=N.length:=by obtain⟨a,b,P,rfl⟩:=h;rw[E2,P.len];lia
def z9.setY(t:Tabs M)(h:z9 M N):z9 M (N.set 2<|.tl K3 p (ke K3) e):=by obtain⟨a,L,P,rfl⟩:=h;refine⟨a.set 2<|.tl K3 p (ke K3) e,L,P.setY t,?_⟩;rw[Qo _ _<|by rw[P.len];exact t.lt]
def z9.row(t:Tabs M)(h:z9 M N)(x:bv M d=a7 xs):bv N d=a7 xs:=by obtain⟨a,L,P,rfl⟩:=h;exact jO (by rw[P.row t];exact x) L
def z9.gdn(t:Tabs M)(h:z9 M N)(g:u4 M n d):u4 N n d:=by obtain⟨a,L,P,rfl⟩:=h;exact(g.tm t P).grow<|Kv _ _
def z9.fin(h:z9 M N)(q:∀B,TM M B->R d B)(b:D5 M.length d):aE M R d N:=by obtain⟨a,L,P,rfl⟩:=h;exact aE.chg P.chg (q a P) b<|Kv _ _
end
def zo{M:t7}{xs:List D}(s:∀x∈xs,∃z b,x=.tup [.str z,b])(l:xs.length<=60):SrtG M (xs.map dh):=(lO (λy O=>by obtain⟨x,h,rfl⟩:=w9.mp O;obtain⟨z,b,rfl⟩:=s x h;exact⟨z,rfl⟩)<|by rw[v5];lia).g
def wz(A:∀x∈ys,∃z b,x=.tup [.str z,b])(i:ys.Pairwise λa b=>C9 M v3 (dh b) (dh a)=c5):kH ys:=(List.Pairwise.and_mem.mp i).imp λ{a b} ⟨ha,hb,q⟩=>by obtain⟨z,u,rfl⟩:=A a ha;obtain⟨F,u',rfl⟩:=A b hb;exact q
section
variable{M N:t7}{R:DK}{p r:D}{xs ys made:List D}{q:Nat}{y2 y4 y5 y6:Option D}
def RmTo.prs(h:RmTo M zs rs):∀x∈rs,∃z b,x=D.tup [.str z,b]:=by
 induction h with
 |nil=>exact λ_ z=>nomatch z
 |cons _ _ _ _ i=>intro x a;rcases z7.mp a with rfl|a;exact⟨_,_,rfl⟩;exact i x a
def ah_6(k:GH M p)(v:GH M r)(t:Tabs M)(i:bv M p=a7 xs)(O:bv M r=a7 ys)(A:(∀ps rs,¬HouseFor M p r ps rs)->∀B,TM M B->R .non B)(h:∀ps rs B,HouseFor M p r ps rs->TM M B->R (ay ps rs) B)(d:z9 M N) (U:xs'.Perm xs) (D:kH xs') (y:ys'.Perm ys) (j:RmTo M ys' rs') (E:kH rs') (w:∀x∈rs',u4 M 7 x):ij (EE M R) [a7 p,a7 r,y2,a7<|.ref q,y4,y5,a7<|.tup [.tup xs',.tup rs']] N:=by
 have s:kH ys':=by have:(rs'.map au).Pairwise λa b=>aA b a=c5:=K0.mpr E;rw[j.fst]at this;exact K0.mp this
 obtain⟨m,n⟩:=cand i O U D y s j;have z:=bq k.g i;have F:xs'.length<=60:=by rw[U.length_eq];exact k.l xs i
 have G:rs'.length<=60:=by rw[j.len,y.length_eq];exact v.l ys O
 have o:u4 M 9 (.tup [.tup xs',.tup rs']):=bh b0 (u4.mk b7 b0 λx C=>z x<|U.mem_iff.mp C)<|u4.mk b7 b0 w;simp only[ij];walk_at"dl";refine⟨9,_,rfl,d.gdn t o,?_⟩;rw[JH];cases e:cy (.tup [.tup xs',.tup rs']) with
 |false=>refine eG<|d.fin (A λps rs c=>?_) .non;rw[n ps rs c,c.f.house]at e;cases e
 |true=>obtain⟨ps,rs,c,u⟩:=m e;refine fP ?_;simp only[kP];walk_at"dl";refine d.fin (λB P=>?_) o.bel;rw[u];exact h ps rs B c P
theorem ah_5(g:GH M p)(u:GH M r)(t:Tabs M)(a:bv M p=a7 xs)(O:bv M r=a7 ys)(k:(∀ps rs,¬HouseFor M p r ps rs)->∀B,TM M B->R .non B)(h:∀ps rs B,HouseFor M p r ps rs->TM M B->R (ay ps rs) B)(f:z9 M N) (T:∀x∈xs,bY x=a9) (v:N[q]?=a7 (.lst made)) (H:M.length<=q) {ys':List D} (A:ys'.Perm ys) (C:RmTo M ys' made) (E:kH made) (j:∀x∈made,u4 M 7 x):ik (EE M R) [a7 p,a7 r,y2,a7<|.ref q,y4,y5,y6] N:=by
 have G:=t.lt;have y:=g.l xs a;have s:∀x∈xs,∃z b,x=.tup [.str z,b]:=λx a=>jT<|T x a;simp only[ik];walk_at"dl";refine⟨2,xs,dh,(f.tabs t).atY,λe=>?_⟩;have c:=f.setY t (p:=⟨300,53,300,83⟩) (e:=e);have o:(N.set 2<|.tl K3 ⟨300,53,300,83⟩ (ke K3) e).length=N.length:=Ld ..;have S:(N.set 2<|.tl K3 ⟨300,53,300,83⟩ (ke K3) e)[q]?=a7 (.lst made):=by rw[KO<|by lia];exact v
 rw[<-o];refine⟨(bW<|c.row t a).symm.imp id λ⟨n,e,L⟩=>⟨n,e,L⟩,λd m=>?_,zo s y,λF i w=>?_⟩;obtain⟨z,b,rfl⟩:=s d m;exact aE.now ⟨rfl,rfl⟩;exact⟨_,ae,_,.inl<|aq S,s9,ah_6 g u t a O k h (c.app _) i (wz (λx a=>s x<|i.mem_iff.mp a) w) A C E j⟩
def ah_4(n:GH M p)(u:GH M r)(t:Tabs M)(a:bv M p=a7 xs)(O:bv M r=a7 ys)(o:(∀ps rs,¬HouseFor M p r ps rs)->∀B,TM M B->R .non B)(h:∀ps rs B,HouseFor M p r ps rs->TM M B->R (ay ps rs) B)(f:z9 M N) (T:∀x∈xs,bY x=a9) (w:N[q]?=a7 (.lst made)) (H:M.length<=q) (c:RmTo M ys made) (s:∀x∈made,u4 M 7 x):cU (EE M R) [a7 p,a7 r,y2,a7<|.ref q,y4,y5,y6] N:=by
 have E:=t.lt;have A:made.length<=60:=by rw[c.len];exact u.l ys O
 simp only[cU];walk_at"dl";refine⟨2,made,dh,(f.tabs t).atY,λe=>?_⟩;have g:=f.setY t (p:=⟨299,38,299,68⟩) (e:=e);have k:(N.set 2<|.tl K3 ⟨299,38,299,68⟩ (ke K3) e).length=N.length:=Ld ..;have S:(N.set 2<|.tl K3 ⟨299,38,299,68⟩ (ke K3) e)[q]?=a7 (.lst made):=by rw[KO<|by lia];exact w
 rw[<-k];refine⟨.inr ⟨q,rfl,.inl S⟩,λd v=>?_,zo c.prs A,λm i y=>?_⟩;obtain⟨z,b,rfl⟩:=c.prs d v;exact aE.now ⟨rfl,rfl⟩;obtain⟨D,C,j⟩:=c.perm i;exact ah_5 n u t a O o h (g.app _) T ak (by rw[k];exact f.le) C j (wz (λx a=>c.prs x<|i.mem_iff.mp a) y) λx a=>s x<|i.mem_iff.mp a
def EF(g:u4 M n d)(e:bv M d=a8):A0 B d=A0 M d:=by
 cases d with
 |tup xs=>cases e
 |ref i =>
  rcases kW g with⟨xs,x,_⟩|⟨_,y⟩
  rw[x]at e;cases e;rw[Bool.or_eq_false_iff,cS g.thing.1]at y;exact p5 y.1<|by decide
 |_=>rfl
def ah_3(h:C=N++.lst made::L)(l:M <+: C)(d:bv M b=a7 (ss.map .str))(v:ss.length<=60)(u:made.length<=60)(k:∀(ts:List c8) (L':t7),ts.Perm ss->(ts.Pairwise λa b=>aA b a=c5)->E.nx [a7 p,a7 r,y2,a7<|.ref N.length,a7<|.str a,a7 b,y6] (N++.lst (made++[.tup [.str a,.tup<|ts.map .str]])::L')):cW E [a7 p,a7 r,y2,a7<|.ref N.length,a7<|.str a,a7 b,y6] C:=by
 have t:SrtOk C (ss.map .str):=lO (λx j=>by obtain⟨s,_,rfl⟩:=w9.mp j;exact⟨s,rfl⟩) el;have m:C[N.length]?=a7 (.lst made):=by rw[h];exact bw
 have n:∀ys',ys'.Perm (ss.map .str)->rJ C ys'->∃xs,ah (C++[.lst ys']) C.length xs/\2<=sizeLine/\∃c,(C++[.lst ys'])[N.length]?=a7 (.lst c)/\c.length<sizeLine/\E.nx [a7 p,a7 r,y2,a7<|.ref N.length,a7<|.str a,a7 b,y6] (List.set (C++[.lst ys']) N.length<|MO.lst<|c++[D.tup [.str a,.tup xs]]):=λys' e f=>by obtain⟨ts,rfl,o⟩:=dS e;refine⟨_,ae,s9,made,aq m,bA b7,?_⟩;rw[h,F0,LH,fA];exact k ts _ o<|(K0.mp f).imp λq=>q
 simp only[cW];walk_at"dl";refine⟨⟨_,.inl m⟩,?_⟩;rcases bW (cZ l d)with⟨i,rfl,hL⟩|rfl;exact⟨_,.inl hL,t,n⟩;exact⟨t.g,n⟩
theorem ah_2(gp:GH M p)(J:GH M r)(t:Tabs M)(hx:bv M p=a7 xs)(O:bv M r=a7 ys)(h0:(∀ps rs,¬HouseFor M p r ps rs)->∀B,TM M B->R .non B)(h:∀ps rs B,HouseFor M p r ps rs->TM M B->R (ay ps rs) B)(pM:M <+: N) (ai:∀x∈xs,bY x=a9) (aj:∀x∈ys,bY x=a9) (K:∀N',M <+: N'->ok N'):oP ok (gI 2<|aQ (al 4)<|aQ (al 5) gJ) (aC (A6 (Fn (cM<|ar<|u0 fF<|aa (ac 5)<|aa (bc<|aa (dC<|.ty "list")<|aa (dC<|.ty "tuple") af) af)<|ar<|t6 Lw (E4 1 [] (bK<|ac 5) (al 0) (cM<|ar<|u0 bn<|aa (ac 0) af)<|ac 0)<|cq af) (be<|dC .non) aK)<|cW)
   { nx:=λS' M'=>cU (EE M R) S' M',rt:=aE M R } (N++[.lst []]) ys [a7 p,a7 r,y2,a7<|.ref N.length,y4,y5,y6] (N++[.lst []]):=by
 have gy:=bq J.g O;refine bj (λk S N'=>∃c L T U,N'=N++.lst c::L/\RmTo M (ys.take k) c/\(∀x∈c,u4 M 7 x)/\S=[a7 p,a7 r,y2,a7<|.ref N.length,T,U,y6]) ?_ ?_ ⟨[],[],_,_,rfl,.nil,(λ_ z=>nomatch z),rfl⟩;rintro S N' ⟨c,L,T,U,rfl,rt,W,rfl⟩;rw[Mw]at rt;exact⟨K _<|pM.trans uS,ah_4 gp J t hx O h0 h (z9.now t<|pM.trans uS) ai bw pM.length_le rt W⟩;rintro k y S N' hk ⟨c,L,T,U,rfl,rt,W,rfl⟩ G hG;have H:=Kw hk;have j:M <+: N++.lst c::L:=pM.trans uS;refine⟨K _ j,?_⟩;obtain⟨a,b,rfl⟩:=jT<|aj y H;obtain⟨_,m,em,ga⟩:=(gy _ H).tup;have V:u4 M m b:=ga b b9;have no:cC M b=c5->∀{N':t7},M <+: N'->aE M R .non N':=λe N' p'=>(z9.now t p').fin (h0 λps rs hf=>by rw[(hf.rn O H).2 _ _ rfl]at e;cases e) .non;have lm:c.length<=60:=by rw[rt.len,Li];have:=J.l ys O;lia
 have e7:ys.take (k+1)=ys.take k++[.tup [.str a,b]]:=by rw[List.take_succ,hk];rfl
 rcases kW V with⟨bs,s,m',ap,C⟩|⟨e,ty⟩
 have ty:=(wA<|cZ j s).2;have i:=(wA<|cZ j s).1;have cmp:∀{ok2:t7->Prop}{Q:DK}{B:t7},M <+: B->ok2 B->bs.length<=sizeLine->Q (.ref B.length) (B++[.lst<|bs.filter λd=>!aH d])->fX ok2 (al 0) (cM<|ar<|u0 bn<|aa (ac 0) af) (ac 0) Q bs [] [a8] B:=λ{ok2 Q B} pB k2 I hQ=>by refine bF (λd=>!aH d) id (λS=>∃a,S=[a]) k2 _ _ _ ?_ ⟨_,rfl⟩ (by simpa using I) (by rw[E9,KU];exact hQ);rintro y q S ⟨z,rfl⟩;refine⟨[a7 y],⟨_,rfl⟩,λY Z X=>?_⟩;walk_at"dl";exact⟨y,rfl,((C y q).grow pB).thing,X⟩
 have A:∀{B:t7},B=N++.lst c::L->0<=sizeLine/\(u9 (B++[MO.lst<|bs.filter λd=>!aH d]++[MO.lst []]) v3 (.ref B.length)=a9/\u9 (B++[MO.lst<|bs.filter λd=>!aH d]++[MO.lst []]) v3 (D.ref<|Lq<|B++[MO.lst<|bs.filter λd=>!aH d])=a9) /\ if (!u8 (B++[MO.lst<|bs.filter λd=>!aH d]++[MO.lst []]) v3 (.ref B.length) (D.ref<|Lq<|B++[MO.lst<|bs.filter λd=>!aH d]))=a9 then aE M R D.non (B++[MO.lst<|bs.filter λd=>!aH d]++[MO.lst []]) else cW { nx:=E7 (N++[MO.lst []]) G,rt:=aE M R,bk:=λS' M'=>cU (EE M R) S' M',ct:=E7 (N++[MO.lst []]) G } [a7 p,a7 r,y2,a7<|D.ref<|Lq N,a7<|D.str a,a7 b,y6] (B++[MO.lst<|bs.filter λd=>!aH d]++[MO.lst []]):=λ{B} E=>by
  have pB:M <+: B:=E ▸ j;have P:M <+: B++[MO.lst<|bs.filter λd=>!aH d]++[MO.lst []]:=(pB.trans aL).trans aL;obtain⟨ab,v⟩:=nE (M:=B++[MO.lst<|bs.filter λd=>!aH d]) (n:=B.length) ae λy q=>Dj _ _ _ b7 (((C y (Nk.mp q).1).grow P).mono (m:=29) b7<|by lia).2;refine⟨B0 _,ab,?_⟩;rw[v];cases w:bs.filter (λd=>!aH d) with
  |cons d ds=>refine eG (no ?_<|by rw[<-w];exact P);unfold cC;rw[s];have hd:=Nk.mp (show d∈bs.filter λd=>!aH d by rw[w];exact A9);exact List.all_eq_false.mpr ⟨d,hd.1,by simpa using hd.2⟩
  |nil =>
   refine fP ?_;have nb:cC M b=a9:=by unfold cC;rw[s];exact z5.mpr λx hx=>by simpa using List.filter_eq_nil_iff.mp w x hx
   obtain⟨ss,o,_⟩:=pU nb;have u:=J.m ys O _ H _ _ rfl _ o;rw[v5]at u;rw[w]at P;refine ah_3 (L:=L++[MO.lst []]++[MO.lst []]) (by rw[E];simp) P o u lm λts L' pt st=>E7.now<|hG _ _ ⟨_,L',_,_,rfl,by rw[e7];exact rt.snoc o pt st,λx f=>?_,rfl⟩;rcases J7.mp f with f|f;exact W x f;rw[Ky.mp f];exact AM (gy _ H) o pt u
 generalize E:N++MO.lst c::L=B at j ty i;rcases bW s with⟨n,rfl,hL⟩|rfl;walk_at"dl";simp only[A0]at ty i;refine⟨trivial,s9,⟨i,b0,b0⟩,?_⟩;rw[ty];have F:∀{B:t7},M <+: B->ah B n bs:=λ{B} p'=>by obtain⟨L,rfl⟩:=p';exact hL.more L
 exact fP ⟨bs,F j,λI=>cmp j (F j) I<|A E.symm⟩;walk_at"dl";simp only[A0]at ty i;refine⟨trivial,s9,⟨i,b0,b0⟩,?_⟩;rw[ty];exact fP λI=>cmp j trivial I<|A E.symm;have an:=EF (B:=N++MO.lst c::L) V e;have t1:=V.thing.1;rw[<-an]at ty t1;walk_at"dl";simp only[A0]at ty t1;refine⟨trivial,s9,⟨t1,b0,b0⟩,?_⟩;rw[ty];exact eG<|no (by unfold cC;rw[e]) j
end
def uA:D7 gv 7 pL:=by
 rintro ds M R ⟨p,r,xs,ys,rfl,s,u,t,⟨j,O⟩,A,h⟩;have Q:=bq s.g j;have T:=bq u.g O;have Z:=s.l xs j;have ly:=u.l ys O;have X:(∃x∈xs++ys,bY x=c5)->∀{N:t7},M <+: N->aE M R .non N:=λ⟨x,d,e⟩ N o=>(z9.now t o).fin (A λps rs E=>by rcases J7.mp d with d|d;rw[E.pn j x d]at e;cases e;rw[(E.rn O d).1]at e;cases e) .non;have z:∀{ok:t7->Prop}{B:t7},M <+: B->ok B->oP ok (al 2) (A6 (Fn (cM<|ar<|u0 fF<|aa (ac 2)<|aa (dC<|D.ty "tuple") af)<|Fn (ar<|t6 Lw (u0 jR<|aa (ac 2) af)<|dC<|D.int 2)<|cM<|ar<|u0 bn<|aa (t6 v9 (ac 2)<|dC<|D.int 0) af) (be<|dC D.non) aK) { nx:=λK J=>il (EE M R) K J,rt:=aE M R } B (xs++ys) [a7 p,a7 r,a8,a8,a8,a8,a8] B:=λ{ok B} pB hok=>by
  refine bj (λk S N=>N=B/\(∃a,S=[a7 p,a7 r,a,a8,a8,a8,a8])/\((xs++ys).take k).all bY=a9) ?_ ?_ ⟨rfl,⟨_,rfl⟩,b9⟩;rintro S N ⟨rfl,⟨a,rfl⟩,i⟩;refine⟨hok,?_⟩;rw[Mw,List.all_append,A2]at i;simp only[il];walk_at"dl";refine⟨B0 _,?_⟩;simp only[kQ];have F:∀{n:Nat},ah M n ys->∀{B:t7},M <+: B->ah B n ys:=λ{n} v {B} o=>by obtain⟨L,rfl⟩:=o;exact v.more L
  rcases bW O with⟨n,rfl,v⟩|rfl;walk_at"dl";exact⟨ys,F v<|pB.trans aL,λ_=>ah_2 s u t j O A h pB (z5.mp i.1) (z5.mp i.2) λN o=>F v o⟩;walk_at"dl";exact λ_=>ah_2 s u t j O A h pB (z5.mp i.1) (z5.mp i.2) λ_ _=>trivial;rintro k y S N H ⟨rfl,⟨a,rfl⟩,i⟩ G V;have d:=Kw H;have f:u4 N 7 y:=((J7.mp d).elim (Q y)<|T y).grow pB;refine⟨hok,?_⟩;have c:bY y=c5->aE M R .non N:=λe=>X ⟨y,d,e⟩ pB;have m:(∀a b,y≠.tup [a,b])->bY y=c5:=λW=>by unfold bY;split;exact p5 rfl<|W _ _;rfl
  rcases kI N f with⟨I,rfl⟩|⟨q,w⟩
  obtain⟨_,m',Y,U⟩:=f.tup;walk_at"dl";refine⟨b0,?_⟩;rw[show fR "tuple" "tuple" = a9 from rfl];walk_at"ifs";refine⟨⟨aM,aM⟩,?_⟩;rw[cG];rcases gM (.tup I)with⟨a,b,e⟩|⟨q,w⟩
  injection e with e;subst e;rw[show ((([a,b]:List D).length:Int)==2)=a9 from rfl];walk_at"ifs";refine⟨a,rfl,(U a<|by simp).thing,?_⟩;cases C:aH a with
  |true=>walk_at"ifs";exact E7.now<|V _ _ ⟨rfl,⟨_,rfl⟩,lX H i C⟩
  |false=>walk_at"ifs";exact c C
  have P:((I.length:Int)==2)=c5:=q;rw[P];walk_at"ifs";exact c<|m w;walk_at"dl";refine⟨⟨f.thing.1,b0⟩,?_⟩;simp only[A0]at q;rw[q];walk_at"ifs";exact c<|m λa b=>w _
 simp only[pL];refine rT j O b7 ?_;exact⟨_,ae,λ_=>z ((aL.trans aL).trans aL) ae⟩
def vc(T:Tops P w K mg base):w4 P w K mg base 7 "_law_as_house" ky gv:=w4.byL (N:=["_law_people","_law_rooms","_law_pair","_law_made","_law_room","_law_members","_law_house_here"]) T.b T.f_as_house dz tQ (by have:=T.bm;have:=lc T;have:=Ir T;walk_at"dvl") uA
def fj:A7:=λds M R=>∃(p r:D) (xs ys:List D),ds=[p,r]/\GH M p/\GH M r/\Tabs M/\(bv M p=a7 xs/\bv M r=a7 ys)/\∀B,TM M B->R (.bl a9) B
def xV:fu fj qH:=by rintro ds M R ⟨p,r,xs,ys,rfl,_⟩;rfl
def RmAs.made(h:RmAs M zs rs)(d:∀r∈rs,r.2.Pairwise λa b=>aA a b=a9):RmTo M zs (rs.map aJ):=by
 induction h with
 |nil=>exact .nil
 |cons c p _ e=>exact .cons c p.symm ((d _ A9).imp λq=>jL q)<|e λr i=>d r<|C4 _ i
def tY(h:HouseFor M p r ps rs)(h':HouseFor M p r ps' rs'):ay ps rs=ay ps' rs':=by
 obtain⟨f,⟨xs,x,U⟩,⟨ys,s,O,y,u⟩⟩:=h;refine(cand x O U.symm ?_ y.symm ?_<|u.made λr i=>(f.mm r i).2.2).2 ps' rs' h';exact K0.mpr<|(K0.mp f.pu).imp λq=>jL q;have e:(s.map au).Pairwise λa b=>aA b a=c5:=by rw[u.fst];exact f.ru.imp λq=>jL q
 exact K0.mp e
def tF:NS 5 (ay ps rs)=a9:=by show ((ps.map aG).all (NS 3)&&((rs.map aJ).all (NS 3)&&a9))=a9;rw[KD,KD,Bool.and_true,A2,z5,z5];refine⟨λ_ _=>rfl,λr _=>?_⟩;show (a9&&((r.2.map D.str).all (NS 1)&&a9))=a9;rw[KD,Bool.and_true,Nf,z5];exact λ_ _=>rfl
def z9.of_tm(t:Tabs M)(p:M <+: C)(h:TM C B):z9 M B:=by obtain⟨L,rfl⟩:=p;obtain⟨N,P,e⟩:=TM.app t h;exact⟨N,L,P,e⟩
def pF:t9:=be<|u0 (iF 5)<|aa (u0 (P3 cJ)<|aa (ac 0)<|aa (ac 1) af)<|aa (ac 2) af
def kj:t9:=aC (A6 (ar<|t6 Nr (ac 2)<|dC .non) (be<|u0 bO<|aa (ac 0)<|aa (ac 1) af) aK)<|pF
def iH:t9:=aC (bD (u0 gv<|aa (ac 0)<|aa (ac 1) af) 2)<|kj
def wn:t9:=aC (A6 (ar<|t6 Lw (E4 1 [] (bK<|t6 aF (u0 eV<|aa (ac 0) af)<|u0 eV<|aa (ac 1) af) (al 0) (ar<|u0 fF<|aa (ac 0)<|aa (dC<|.ty "list") af)<|ac 0)<|cq af) (be<|dC<|.bl a9) aK)<|iH
def jd_1(i:GH M p)(u:GH M r)(t:Tabs M)(x:bv M p=a7 xs)(O:bv M r=a7 ys)(h:∀B,TM M B->R (.bl a9) B)(l:M <+: C):iH (EE M R) [a7 p,a7 r,y2] C:=by have tC:=t.pre l;have a:GH C p:=(i.g.grow l).gh<|v7 _;have b:GH C r:=(u.g.grow l).gh<|v7 _;simp only[iH];walk_at"dl";refine⟨p,r,xs,ys,rfl,a,b,tC,⟨cZ l x,cZ l O⟩,λn B P=>?_,λps s B f P=>?_⟩;simp only[kj];walk_at"dl";exact⟨p,r,rfl,a.tm tC P,b.tm tC P,P.tabs tC,λps s f=>n ps s<|(HouseFor.tm tC P).mp f,λB' c=>(z9.of_tm t l<|TM.trans tC P c).fin h<|.bl _⟩;simp only[kj,ay];walk_at"dl";simp only[pF];walk_at"dl";have e:=(HouseFor.tm tC P).mpr f;refine⟨p,r,rfl,a.tm tC P,b.tm tC P,P.tabs tC,λn=>p5 e<|n ps s,λj Z B' d c=>?_⟩;rw[tY d e];exact⟨_,rfl,tF,(z9.of_tm t l<|TM.trans tC P c).fin h<|.bl _⟩
theorem yJ:D7 fj 3 wn:=by
 rintro ds M R ⟨p,r,xs,ys,rfl,k,u,t,⟨f,O⟩,h⟩;have s:=bq k.g f;have w:=bq u.g O;have A:=k.l xs f;have E:=u.l ys O;have i:∀{ok:t7->Prop}{B:t7},M <+: B->ok B->fX ok (al 0) (ar<|u0 fF<|aa (ac 0)<|aa (dC<|D.ty "list") af) (ac 0) (λx c=>0<=sizeLine/\(u9 (c++[MO.lst []]) v3 x=a9/\u9 (c++[MO.lst []]) v3 (D.ref<|Lq c)=a9)/\if (!u8 (c++[MO.lst []]) v3 x (D.ref<|Lq c))=a9 then aE M R (.bl a9) (c++[MO.lst []])else iH (EE M R) [a7 p,a7 r,a8] (c++[MO.lst []])) (xs++ys) [] [a8] B:=λ{ok B} pB hok=>by
  have q:∀y∈xs++ys,u4 B 7 y:=λy b=>((J7.mp b).elim (s y)<|w y).grow pB;refine bF (λd=>fR (A0 B d) "list") id (λS=>∃a,S=[a]) hok _ _ _ ?_ ⟨_,rfl⟩ (ag<|by simp;lia) ?_;rintro y b S ⟨z,rfl⟩;refine⟨[a7 y],⟨_,rfl⟩,λY Z o=>?_⟩;refine⟨⟨(q y b).thing.1,b0⟩,?_⟩;exact o;rw[E9,KU];have H:∀y∈(xs++ys).filter (λd=>fR (A0 B d) "list"),u4 B 7 y:=λy b=>q y (Nk.mp b).1;generalize (xs++ys).filter (λd=>fR (A0 B d) "list")=j at H;have C:M <+: B++[MO.lst j]++[MO.lst []]:=(pB.trans aL).trans aL;obtain⟨v,e⟩:=nE (M:=B++[MO.lst j]) (n:=B.length) ae λy b=>Dj _ _ _ b7 (((H y b).grow<|aL.trans aL).mono (m:=29) b7<|by lia).2;refine⟨B0 _,v,?_⟩;rw[e];cases j with
  |cons d ds=>exact eG<|(z9.now t C).fin h<|.bl _
  |nil=>exact fP<|jd_1 k u t f O h C
 simp only[wn];refine rT f O b7 ?_;exact⟨_,ae,λ_=>i ((aL.trans aL).trans aL) ae⟩
def zT(T:Tops P w K mg base):w4 P w K mg base 10 "_law_judged" qH fj:=w4.byD (N:=["_law_people","_law_rooms","_law_due_here"]) T.b T.f_judged dz xV (by have:=(jp T).nev;have:=uZ T 5;have:=pT T;have:=vc T;walk_at"dv") yJ
def FI:fu (pZ (x9 "pairs_by_name")<|x9 "_law_as_house") Fo:=by rintro ds M R ⟨ns,m,_,_,rfl,_⟩;rfl
def wM(h:1<=x.length/\x.length<=8)(l:K8 x):aH (.str x)=a9:=by show (decide (1<=x.length)&&decide (x.length<=8)&&x.cps.toList.all bT)=a9;rw[dT_ h.1,dT_ h.2];exact l
section
variable{ps:List (c8×Int)}{rs:List (c8×List c8)}{M N B:t7}
def hf_of(h:HouseOk ps rs):HF ps rs:=⟨h.len,λp a=>⟨wM (h.nm p a)<|h.low p a,h.many p a⟩,h.up,h.rl,λr i=>wM (h.rn r i)<|h.rlow r i,h.rup,λr i=>⟨(h.mem r i).1,λ_ x=>(h.mem r i).2.subset x,h.up.sublist (h.mem r i).2⟩⟩
def ER(h:HouseOk ps rs):∀r∈rs,Ha r:=λr i=>by obtain⟨U,d⟩:=h.mem r i;have g:=d.length_le;rw[v5]at g;refine⟨(h.rn r i).2,U,by have:=h.len.2;lia,λx b=>?_⟩;obtain⟨p,a,rfl⟩:=w9.mp<|d.subset b;exact(h.nm p a).2
def ub(h:HouseOk ps rs):u4 M 5 (.tup<|ps.map aG):=u4.mk (by rw[v5];have:=h.len.2;lia) b0 λx b=>by obtain⟨p,a,rfl⟩:=w9.mp b;exact nV (h.nm p a).2
def wW(h:HouseOk ps rs):u4 M 5 (.tup<|rs.map aJ):=u4.mk (by rw[v5];have:=h.rl.2;lia) b0 λx a=>by obtain⟨r,i,rfl⟩:=w9.mp a;exact AL<|ER h r i
def z9.tm(t:Tabs M)(h:z9 M N)(k:TM N B):z9 M B:=by obtain⟨a,L,tm,rfl⟩:=h;obtain⟨b,c,rfl⟩:=TM.app (tm.tabs t) k;exact⟨b,L,TM.trans t tm c,rfl⟩
def z9.lst(t:Tabs M)(h:z9 M N)(L:ah M i xs):ah N i xs:=by rcases bW (h.row t<|gB<|.inl ⟨i,rfl,L⟩)with⟨n,e,h'⟩|e;cases e;exact h';cases e
def z9.trans(t:Tabs M)(h:z9 M N)(k:z9 N C):z9 M C:=by obtain⟨a,L,P,rfl⟩:=k;exact(h.tm t P).app L
def tn(L:ah B i zs)(f:n+1<=30)(z:∀x∈zs,u4 B n x)(l:zs.length<=60)(k:∀d B' ys',B <+: B'->u4 B' (n+1) d->bv B' d=a7 ys'->ys'.Perm zs->R d B'):bL [.ref i,.int num] B R:=⟨i,num,zs,rfl,L,l,λx h=>(z x h).bel,λys p=>by
  have y:∀x∈ys,u4 B n x:=λx h=>z x<|p.mem_iff.mp h;have A:ys.length<=60:=by rw[p.length_eq];exact l
  exact⟨k _ B ys Lc (u4.mk A f y) rfl p,k _ _ ys aL (u4.mkr ae f (aw y aL) A) (gB<|.inl ⟨_,rfl,ae⟩) p⟩⟩
def IB(h:x.length<=8):(x9 "m").length+(Txt.slice x a8<|a7 7).length<=9:=by
 have t:(x9 "m").length=1:=by decide +kernel
 have l:(Txt.slice x a8<|a7 7).length<=x.length:=Txt.slice_le x _ _;lia
def RmAs.pre(p:M <+: B)(h:RmAs M zs rs):RmAs B zs rs:=by
 induction h with
 |nil=>exact .nil
 |cons d a _ i=>exact .cons (cZ p d) a i
def RmAs.snoc{zs:List D}{r:c8×List c8}{b:D}{ss:List c8}(d:bv M b=a7 (ss.map .str))(p:ss.Perm r.2)(h:RmAs M zs rs):RmAs M (zs++[.tup [.str r.1,b]]) (rs++[r]):=by
 induction h with
 |nil=>exact .cons d p .nil
 |cons f a _ i=>exact .cons f a i
end
def wm:t9:=be<|dC<|.bl a9
def qt:t9:=aC (nY (bK<|cq<|aa (dC .non)<|aa (dC<|.int 5)<|aa (dC<|.bl a9)<|aa (dC<|.str "house")<|aa (bc af) af) (al 8)<|A6 (Fn (cM<|ar<|u0 bO<|aa (ac 8)<|aa (t6 v9 (ac 1)<|dC<|.int 1) af)<|Fn (cM<|ar<|u0 bO<|aa (t6 v9 (ac 1)<|dC<|.int 0)<|aa (ac 8) af)<|cM<|ar<|u0 bO<|aa (ac 8)<|aa (ac 8) af) (be<|dC<|.bl c5) aK)<|wm
def lM:t9:=A6 (Fn (cM<|ar<|u0 fj<|aa (ac 4)<|aa (t6 v9 (ac 1)<|dC<|.int 1) af)<|Fn (cM<|ar<|u0 fj<|aa (t6 v9 (ac 1)<|dC<|.int 0)<|aa (ac 5) af)<|cM<|ar<|u0 fj<|aa (ac 4)<|aa (ac 5) af) (be<|dC<|.bl c5) aK
def qq:t9:=aC (bD (u0 bL<|aa (u0 eV<|aa (u0 dn<|aa (t6 v9 (ac 1)<|dC<|.int 1)<|aa (t6 v9 (ac 3)<|dC<|.int 5)<|aa (t6 aF (dC<|.str "m")<|J1 (t6 v9 (t6 v9 (t6 v9 (ac 1)<|dC<|.int 0)<|dC<|.int 0)<|dC<|.int 0) aX<|cA<|dC<|.int 7) af) af)<|aa (t6 v9 (ac 3)<|dC<|.int 1) af) 5)<|lM
def uE:t9:=aC (bD (u0 bL<|aa (u0 eV<|aa (u0 cQ<|aa (t6 v9 (ac 1)<|dC<|.int 0)<|aa (t6 v9 (ac 3)<|dC<|.int 4)<|aa (t6 aF (dC<|.str "m")<|J1 (t6 v9 (t6 v9 (t6 v9 (ac 1)<|dC<|.int 1)<|dC<|.int 0)<|dC<|.int 0) aX<|cA<|dC<|.int 7) af) af)<|aa (t6 v9 (ac 3)<|dC<|.int 0) af) 4)<|qq
def qr:t9:=aC (A6 (Fn (cM<|ar<|u0 bO<|aa (t6 v9 (ac 7)<|dC<|.int 0)<|aa (t6 v9 (ac 7)<|dC<|.int 1) af)<|cM<|ar<|u0 bO<|aa (u0 bX<|aa (t6 v9 (ac 7)<|dC<|.int 0) af)<|aa (u0 bX<|aa (t6 v9 (ac 7)<|dC<|.int 1) af) af) (be<|dC<|.bl c5) aK)<|uE
def uF:t9:=aC (bD (u0 oq<|aa (u0 eV<|aa (ac 4) af)<|aa (u0 eV<|aa (ac 5) af)<|aa (t6 v9 (ac 3)<|dC<|.int 3) af) 7)<|qr
def uG:t9:=aC (A6 (Fn (cM<|ar<|u0 (iF 5)<|aa (u0 (P3 cJ)<|aa (ac 4)<|aa (ac 5) af)<|aa (ac 1) af)<|ar<|t6 Lw (cq<|aa (ac 4)<|aa (ac 5) af)<|ac 6) (be<|dC<|.bl c5) aK)<|uF
def uH:t9:=aC (bD (cq<|aa (u0 (bZ 5)<|aa (ac 4) af)<|aa (u0 (bZ 5)<|aa (ac 5) af) af) 6)<|uG
def uI:t9:=aC (bD (u0 bL<|aa (E4 2 [3] (bK<|t6 v9 (ac 1)<|dC<|.int 1) (gI 2<|aQ (al 0)<|aQ (al 1) gJ) kg<|bc<|aa (ac 0)<|aa (u0 bL<|aa (u0 eV<|aa (ac 1) af)<|aa (t6 v9 (ac 2)<|dC<|.int 2) af) af)<|aa (t6 v9 (ac 3)<|dC<|.int 1) af) 5)<|uH
def uJ:t9:=aC (bD (u0 bL<|aa (u0 eV<|aa (t6 v9 (ac 1)<|dC<|.int 0) af)<|aa (t6 v9 (ac 3)<|dC<|.int 0) af) 4)<|uI
def zb:t9:=aC (nY (bK<|t6 aF (J1 (ac 0) (cA<|dC<|.int 1)<|cA<|dC<|.int 40)<|cq<|aa (u0 fq<|aa (ac 0)<|aa (dC<|.int 0) af) af) (al 2)<|aC (bD (u0 iE<|aa (ac 2)<|aa (dC<|.int 8) af) 3)<|uJ)<|qt
def Ho:t9:=aC (bD (u0 md<|aa (u0 fq<|aa (ac 0)<|aa (dC<|.int 0) af) af) 1)<|zb
section
variable{N:t7}{E:DEnds}{ps:List (c8×Int)}{rs:List (c8×List c8)}{p r:D}{q:Nat}{nums:List Int}{y0 y2 y3 y4 y5 y6 y7 y8:Option D}
def IE(K:HouseOk ps rs)(t:Tabs N)(d:Lk N p)(j:Lk N r)(h:∀B,TM N B->E.nx [y0,a7<|ay ps rs,y2,y3,a7 p,a7 r,y6,y7,y8] B):lM E [y0,a7<|ay ps rs,y2,y3,a7 p,a7 r,y6,y7,y8] N:=by obtain⟨g,xs,x⟩:=d;obtain⟨u,ys,O⟩:=j;have P:∀{B:t7},GH B (.tup<|ps.map aG):=(ub K).gh b0;have R:∀{B:t7},GH B (.tup<|rs.map aJ):=(wW K).gh b0;simp only[lM,ay];walk_at"dl";refine⟨p,_,xs,_,rfl,g.gh b0,R,t,⟨x,rfl⟩,λe c=>?_⟩;walk_at"ifs";have a:=c.tabs t;refine⟨_,r,_,ys,rfl,P,(u.tm t c).gh b0,a,⟨rfl,by rw[c.row t];exact O⟩,λf D=>?_⟩;walk_at"ifs";have F:=D.tabs a;refine⟨p,r,xs,ys,rfl,((g.tm t c).tm a D).gh b0,((u.tm t c).tm a D).gh b0,F,⟨by rw[D.row a,c.row t];exact x,by rw[D.row a,c.row t];exact O⟩,λC b=>?_⟩;walk_at"ifs";exact h C<|TM.trans t (TM.trans t c D) b
def law_9(K:HouseOk ps rs)(t:Tabs N)(e:ah N q (nums.map .int))(A:nums.length=8)(k:Lk N p)(r:∀B y4 y5,z9 N B->E.nx [y0,a7<|ay ps rs,y2,a7<|.ref q,y4,y5,y6,y7,y8] B):qq E [y0,a7<|ay ps rs,y2,a7<|.ref q,a7 p,y5,y6,y7,y8] N:=by
 have a:atI (ps.map aG) 0=a7 (aG<|ps[0]'(by have:=K.len.1;lia)):=by refine aY (j:=0) ?_;rw[F5,A1 (by have:=K.len.1;lia)];rfl
 have v:=(K.nm _<|KI (by have:=K.len.1;lia:0<ps.length)).2;have W:=IB v;have at_:∀(j:Nat) (u:j<8),atI (nums.map D.int) (j:Int)=a7 (.int<|nums[j]'(by lia)):=λj u=>fZ b7;simp only[qq,ay];walk_at"dl";refine⟨_,e,?_⟩;rw[show atI (nums.map D.int) 5=_ from at_ 5 b0,a];simp only[aG];walk_at"dl";refine⟨ag b7,ag b7,rs,_,_,rfl,K.rl,ER K,by rw[oo];lia,λd C l o=>?_⟩;obtain⟨o,s,z⟩:=o;have h:ah (C++[MO.lst s]) q (nums.map .int):=(z9.now t<|l.trans aL).lst t e;have f:∀{num:Int},bL [.ref C.length,.int num] (C++[MO.lst s]) λd B=>lM E [y0,a7<|ay ps rs,y2,a7<|.ref q,a7 p,a7 d,y6,y7,y8] B:=λ{num}=>by refine tn (n:=4) ae b0 (aw (bq o z) aL) (qd o z) λy B ys' w g c _=>?_;have b:z9 N B:=z9.now t<|(l.trans aL).trans w;obtain⟨m,xs,x⟩:=k;exact IE K (b.tabs t) ⟨b.gdn t m,xs,b.row t x⟩ ⟨g,ys',c⟩ λB' P=>r B' _ _<|b.tm t P
 rcases bW z with⟨i,rfl,L⟩|rfl;refine⟨s,L,_,h,?_⟩;rw[show atI (nums.map D.int) 1=_ from at_ 1<|by decide];exact f;refine⟨_,h,?_⟩;rw[show atI (nums.map D.int) 1=_ from at_ 1<|by decide];exact f
def law_8(K:HouseOk ps rs)(t:Tabs N)(a:ah N q (nums.map .int))(u:nums.length=8)(m:∀B y4 y5,z9 N B->E.nx [y0,a7<|ay ps rs,y2,a7<|.ref q,y4,y5,y6,y7,y8] B):uE E [y0,a7<|ay ps rs,y2,a7<|.ref q,y4,y5,y6,y7,y8] N:=by
 have c:atI (rs.map aJ) 0=a7 (aJ<|rs[0]'(by have:=K.rl.1;lia)):=by refine aY (j:=0) ?_;rw[F5,A1 (by have:=K.rl.1;lia)];rfl
 have U:=(K.rn _<|KI (by have:=K.rl.1;lia:0<rs.length)).2;have W:=IB U;have at_:∀(j:Nat) (r:j<8),atI (nums.map D.int) (j:Int)=a7 (.int<|nums[j]'(by lia)):=λj r=>fZ b7;simp only[uE,ay];walk_at"dl";refine⟨_,a,?_⟩;rw[show atI (nums.map D.int) 4=_ from at_ 4 b0,c];simp only[aJ];walk_at"dl";refine⟨ag b7,ag b7,ps,_,_,rfl,K.len,λp v=>(K.nm p v).2,by rw[oo];lia,λd C l o=>?_⟩;obtain⟨o,s,z⟩:=o;have h:ah (C++[MO.lst s]) q (nums.map .int):=(z9.now t<|l.trans aL).lst t a;have f:∀{num:Int},bL [.ref C.length,.int num] (C++[MO.lst s]) λd B=>qq E [y0,a7<|ay ps rs,y2,a7<|.ref q,a7 d,y5,y6,y7,y8] B:=λ{num}=>by refine tn (n:=4) ae b0 (aw (bq o z) aL) (qd o z) λx B ys' w g k _=>?_;have b:z9 N B:=z9.now t<|(l.trans aL).trans w;exact law_9 K (b.tabs t) (b.lst t a) u ⟨g,ys',k⟩ λB' y4 y5 e=>m B' y4 y5<|b.trans t e
 rcases bW z with⟨i,rfl,L⟩|rfl;refine⟨s,L,_,h,?_⟩;rw[show atI (nums.map D.int) 0=_ from at_ 0<|by decide];exact f;refine⟨_,h,?_⟩;rw[show atI (nums.map D.int) 0=_ from at_ 0<|by decide];exact f
def law_7{d:D}(K:HouseOk ps rs)(t:Tabs N)(u:ah N q (nums.map .int))(s:nums.length=8)(o:lI N d)(p:∀B y4 y5 y7,z9 N B->E.nx [y0,a7<|ay ps rs,y2,a7<|.ref q,y4,y5,y6,y7,y8] B):qr E [y0,a7<|ay ps rs,y2,a7<|.ref q,y4,y5,y6,a7 d,y8] N:=by obtain⟨i,j,xs,ys,rfl,⟨hi,L⟩,⟨g,f⟩,n⟩:=o;have m:bv N (.ref i)=a7 xs:=gB<|.inl ⟨_,rfl,hi⟩;have r:bv N (.ref j)=a7 ys:=gB<|.inl ⟨_,rfl,L⟩;simp only[qr];walk_at"dl";refine⟨_,_,rfl,g.gh b0,f.gh b0,t,λps rs h=>n<|h.fits m r,λb a=>?_⟩;walk_at"ifs";have v:=a.tabs t;have c:z9 N b:=z9.of_tm t Lc a;have X:GH b (.tup xs):=(u4.mk (qd g m) b0<|bq (g.tm t a)<|c.row t m).gh b0;have Y:GH b (.tup ys):=(u4.mk (qd f r) b0<|bq (f.tm t a)<|c.row t r).gh b0;refine⟨xs,c.lst t hi,ys,c.lst t L,_,_,rfl,X,Y,v,λps rs h=>n<|((HouseFor.tm t a).mp h).fits rfl rfl,λl k=>?_⟩;walk_at"ifs";have e:z9 N l:=c.tm t k;exact law_8 K (e.tabs t) (e.lst t u) s λB y4 y5 x=>p B y4 y5 _<|e.trans t x
def law_6(K:HouseOk ps rs)(t:Tabs N)(h:ah N q (nums.map .int))(v:nums.length=8)(g:u4 N 5 p)(u:u4 N 5 r)(m:HouseFor N p r ps rs)(l:∀B y4 y5 y7,z9 N B->E.nx [y0,a7<|ay ps rs,y2,a7<|.ref q,y4,y5,y6,y7,y8] B):uF E [y0,a7<|ay ps rs,y2,a7<|.ref q,a7 p,a7 r,y6,y7,y8] N:=by
 have at_:∀(j:Nat) (s:j<8),atI (nums.map D.int) (j:Int)=a7 (.int<|nums[j]'(by lia)):=λj s=>fZ b7;obtain⟨f,⟨xs,c,U⟩,⟨ys,C,O,z,A⟩⟩:=m;have k:=bq g c;have y:=bq u O;have n:∀{num:Int},oq [.ref N.length,.ref (N++[MO.lst xs]).length,.int num] (N++[MO.lst xs]++[MO.lst ys]) λd B=>qr E [y0,a7<|ay ps rs,y2,a7<|.ref q,a7 p,a7 r,y6,a7 d,y8] B:=λ{num}=>by have b:N <+: N++[MO.lst xs]++[MO.lst ys]:=aL.trans aL;refine⟨_,_,num,xs,ys,ps,rs,rfl,⟨f,aq ak,ak,U,⟨C,z,A.pre b⟩,aw k b,aw y b⟩,λd B w o=>?_⟩;have x:z9 N B:=z9.now t<|b.trans w;exact law_7 K (x.tabs t) (x.lst t h) v o λB' y4 y5 y7 e=>l B' y4 y5 y7<|x.trans t e
 have R:=at_ 3 b0;simp only[uF];rcases bW c with⟨i,rfl,L⟩|rfl<;>rcases bW O with⟨j,rfl,a⟩|rfl<;>walk_at"dl"
 refine⟨xs,L,ys,a.more _,_,(h.more _).more _,?_⟩;rw[show atI (nums.map D.int) 3=_ from R];exact n;refine⟨xs,L,_,(h.more _).more _,?_⟩;rw[show atI (nums.map D.int) 3=_ from R];exact n;refine⟨ys,a.more _,_,(h.more _).more _,?_⟩;rw[show atI (nums.map D.int) 3=_ from R];exact n;refine⟨_,(h.more _).more _,?_⟩;rw[show atI (nums.map D.int) 3=_ from R];exact n
def law_5(K:HouseOk ps rs)(t:Tabs N)(A:ah N q (nums.map .int))(z:nums.length=8)(g:u4 N 5 p)(u:u4 N 5 r)(a:HouseFor N p r ps rs)(j:ah N k [d1,d2])(m:KB N 4 p d1)(o:KB N 4 r d2)(y:∀B y4 y5 y7,z9 N B->E.nx [y0,a7<|ay ps rs,y2,a7<|.ref q,y4,y5,a7<|.ref k,y7,y8] B):uG E [y0,a7<|ay ps rs,y2,a7<|.ref q,a7 p,a7 r,a7<|.ref k,y7,y8] N:=by
 simp only[uG];walk_at"dl";refine⟨p,r,rfl,g.gh b0,u.gh b0,t,λC=>p5 a<|C ps rs,λG Z B d P=>?_⟩;rw[tY d a];refine⟨_,rfl,tF,?_⟩;walk_at"ifs";have b:z9 N (B++[MO.lst [p,r]]):=(z9.of_tm t Lc P).app _;obtain⟨⟨o1,o2⟩,s⟩:=KB.eq 4 29 _ _ b0<|KB.pre (λi xs L=>b.lst t L) 4 _ _ m;obtain⟨⟨D,F⟩,v⟩:=KB.eq 4 29 _ _ b0<|KB.pre (λi xs L=>b.lst t L) 4 _ _ o;have l:ah (B++[MO.lst [p,r]]) B.length [p,r]:=ae;refine⟨s9,⟨ef (n:=29) l λx h=>?_,ef (n:=29) (b.lst t j) λx h=>?_⟩,?_⟩;rcases z7.mp h with rfl|h;exact o1;rw[Ky.mp h];exact D;rcases z7.mp h with rfl|h;exact o2;rw[Ky.mp h];exact F;have w:u8 (B++[MO.lst [p,r]]) v3 (.ref B.length) (.ref k)=a9:=by show u8 (B++[MO.lst [p,r]]) (29+1) (.ref B.length) (.ref k)=a9;rw[iN (n:=29) l<|b.lst t j];show (u8 (B++[MO.lst [p,r]]) 29 p d1&&(u8 (B++[MO.lst [p,r]]) 29 r d2&&a9))=a9;rw[s,v];rfl
 rw[w];walk_at"ifs";have c:HouseFor (B++[MO.lst [p,r]]) p r ps rs:=by obtain⟨f,⟨xs,h,U⟩,⟨ys,J,O,H,I⟩⟩:=(HouseFor.tm t P).mpr a;exact⟨f,⟨xs,jO h _,U⟩,⟨ys,J,jO O _,H,I.pre aL⟩⟩
 exact law_6 K (b.tabs t) (b.lst t A) z (b.gdn t g) (b.gdn t u) c λB' y4 y5 y7 e=>y B' y4 y5 y7<|b.trans t e
def law_4(K:HouseOk ps rs)(t:Tabs N)(y:ah N q (nums.map .int))(w:nums.length=8)(g:u4 N 4 p)(u:u4 N 4 r)(v:HouseFor N p r ps rs)(o:∀B y4 y5 y6 y7,z9 N B->E.nx [y0,a7<|ay ps rs,y2,a7<|.ref q,y4,y5,y6,y7,y8] B):uH E [y0,a7<|ay ps rs,y2,a7<|.ref q,a7 p,a7 r,y6,y7,y8] N:=by
 have m:∀{A B:t7},A <+: B->∀i xs,ah A i xs->ah B i xs:=λp i xs s=>by obtain⟨L,rfl⟩:=p;exact s.more L
 simp only[uH];walk_at"dl";refine⟨4,p,rfl,rfl,g,λd G j l=>⟨4,r,rfl,rfl,u.grow j,λb a k n=>⟨s9,?_⟩⟩⟩;have c:N <+: a++[MO.lst [d,b]]:=(j.trans k).trans aL;have x:z9 N (a++[MO.lst [d,b]]):=z9.now t c;have h:HouseFor (a++[MO.lst [d,b]]) p r ps rs:=by obtain⟨f,⟨xs,z,U⟩,⟨ys,F,O,C,D⟩⟩:=v;exact⟨f,⟨xs,cZ c z,U⟩,⟨ys,F,cZ c O,C,D.pre c⟩⟩
 exact law_5 K (x.tabs t) (x.lst t y) w ((g.grow c).mono b0<|by decide) ((u.grow c).mono b0<|by decide) h ae (KB.pre (m<|k.trans aL) 4 _ _ l) (KB.pre (m aL) 4 _ _ n) λB' y4 y5 y7 e=>o B' y4 y5 _ y7<|x.trans t e
def law_3{xs:List D}(k:HouseOk ps rs)(t:Tabs N)(m:ah N q (nums.map .int))(J:nums.length=8)(F:u4 N 4 p)(s:bv N p=a7 xs)(U:xs.Perm (ps.map aG))(H:∀B y4 y5 y6 y7,z9 N B->E.nx [y0,a7<|ay ps rs,y2,a7<|.ref q,y4,y5,y6,y7,y8] B):uI E [y0,a7<|ay ps rs,y2,a7<|.ref q,a7 p,y5,y6,y7,y8] N:=by
 have at_:∀(j:Nat) (L:j<8),atI (nums.map D.int) (j:Int)=a7 (.int<|nums[j]'(by lia)):=λj L=>fZ b7;have Q:=k.rl.2;simp only[uI,ay];walk_at"dl";intro _;refine iO (λaO acc S d=>∃done o a b,rs=done++o/\aO=o.map aJ/\N <+: d/\RmAs d acc done/\(∀x∈acc,u4 d 3 x)/\S=[a,b,a7<|.ref q]) ?_ ?_ _ _ _ _ ⟨[],rs,_,_,rfl,rfl,Lc,.nil,(λ_ z=>nomatch z),rfl⟩;rintro acc S d ⟨done,o,a,b,e,l,f,u,i,rfl⟩;obtain rfl:o=[]:=List.map_eq_nil_iff.mp l.symm;rw[Lh]at e;subst e;refine⟨trivial,_,(z9.now t<|f.trans aL).lst t m,?_⟩;rw[show atI (nums.map D.int) 1=_ from at_ 1<|by decide];refine tn (n:=3) ae b0 (aw i aL) (by rw[u.len];lia) λr B ys c G O w=>?_;have v:N <+: B:=(f.trans aL).trans c;have g:z9 N B:=z9.now t v;exact law_4 k (g.tabs t) (g.lst t m) J (F.grow v) G ⟨hf_of k,⟨xs,cZ v s,U⟩,⟨ys,acc,O,w,u.pre<|aL.trans c⟩⟩ λB' y4 y5 y6 y7 h=>H B' y4 y5 y6 y7<|g.trans t h;rintro y aO acc S d ⟨done,o,a,b,e,l,f,u,i,rfl⟩ K I;cases o with
 |nil=>cases l
 |cons r o =>
  rw[B9]at l;injection l with l e3;subst l e3;refine⟨trivial,?_⟩;have M:r∈rs:=by rw[e];simp
  have A:=ER k r M;have P:done.length<=4:=by have:=q9 Lq e;rw[E2]at this;lia
  simp only[aJ];walk_at"dl";refine⟨trivial,_,(z9.now t<|f.trans aL).lst t m,?_⟩;rw[show atI (nums.map D.int) 2=_ from at_ 2<|by decide];refine tn (n:=1) (zs:=r.2.map .str) ae b0 (AK b0 λx s=>by have:=A.2.2.2 x s;lia) (by rw[v5];have:=A.2.2.1;lia) λb B ys c C O w=>?_;obtain⟨ss,rfl,hs⟩:=dS w;refine⟨s9,bA (by rw[u.len];lia),I _ _ _ ⟨done++[r],o,_,_,by rw[e,F0];rfl,rfl,(f.trans aL).trans c,(u.pre<|aL.trans c).snoc O hs,bC (aw i<|aL.trans c)<|av (bh b0 (aU (by have:=A.1;lia)<|by decide) C) aB,rfl⟩⟩
def law_2(K:HouseOk ps rs)(t:Tabs N)(a:ah N q (nums.map .int))(f:nums.length=8)(d:∀B y4 y5 y6 y7,z9 N B->E.nx [y0,a7<|ay ps rs,y2,a7<|.ref q,y4,y5,y6,y7,y8] B):uJ E [y0,a7<|ay ps rs,y2,a7<|.ref q,y4,y5,y6,y7,y8] N:=by have at_:∀(j:Nat) (L:j<8),atI (nums.map D.int) (j:Int)=a7 (.int<|nums[j]'(by lia)):=λj L=>fZ b7;simp only[uJ,ay];walk_at"dl";refine⟨_,a.more _,?_⟩;rw[show atI (nums.map D.int) 0=_ from at_ 0<|by decide];refine tn (n:=3) (zs:=ps.map aG) ae b0 (λx h=>?_) (by rw[v5];have:=K.len.2;lia) λp B xs r c h U=>?_;obtain⟨p,g,rfl⟩:=w9.mp h;exact bh b0 (aU (by have:=(K.nm p g).2;lia)<|by decide) (iC<|by decide);have b:z9 N B:=z9.now t<|aL.trans r;exact law_3 K (b.tabs t) (b.lst t a) f c h U λB' y4 y5 y6 y7 e=>d B' y4 y5 y6 y7<|b.trans t e
def HouseFor.ne(h:HouseFor N p r ps rs):bv N p≠a8/\bv N p≠a7 []/\bv N r≠a8/\bv N r≠a7 []:=by obtain⟨f,⟨xs,x,U⟩,⟨ys,s,O,y,u⟩⟩:=h;have b:=f.pl.1;have g:=f.rl.1;have t:=U.length_eq;have l:=y.length_eq;rw[v5]at t;rw[u.len]at l;refine⟨by rw[x];exact nofun,λe=>?_,by rw[O];exact nofun,λe=>?_⟩;rw[x]at e;cases e;simp at t;lia;rw[O]at e;cases e;simp at l;lia
def ID(K:HouseOk ps rs)(t:Tabs N)(q:∀B,E.rt (.bl a9) B):qt E [y0,a7<|ay ps rs,y2,y3,y4,y5,y6,y7,y8] N:=by
 have P:∀{B:t7},GH B (.tup<|ps.map aG):=(ub K).gh b0;have R:∀{B:t7},GH B (.tup<|rs.map aJ):=(wW K).gh b0;have g:∀x∈[D.non,.int 5,.bl a9,.str<|x9 "house",.tup []],∀B:t7,u4 B 5 x/\(bv B x=a8\/bv B x=a7 []):=λx h B=>by simp only[z7,Ls,or_false]at h;rcases h with rfl|rfl|rfl|rfl|rfl;exact⟨wX b0,.inl rfl⟩;exact⟨iC b0,.inl rfl⟩;exact⟨Ju b0,.inl rfl⟩;exact⟨aU dO b0,.inl rfl⟩;exact⟨u4.mk b9 b0 aB,.inr rfl⟩
 have n:∀x∈[D.non,.int 5,.bl a9,.str<|x9 "house",.tup []],∀(B:t7) r ps rs,¬HouseFor B x r ps rs:=λx h B r ps rs f=>(g x h B).2.elim f.ne.1 f.ne.2.1;have o:∀x∈[D.non,.int 5,.bl a9,.str<|x9 "house",.tup []],∀(B:t7) p ps rs,¬HouseFor B p x ps rs:=λx h B p ps rs f=>(g x h B).2.elim f.ne.2.2.1 f.ne.2.2.2;simp only[qt,ay];walk_at"dl";refine⟨B0 _,s9,_,ae,λ_=>?_⟩;have L:ah (N++[MO.lst [D.non,.int 5,.bl a9,.str<|x9 "house",.tup []]]) N.length [D.non,.int 5,.bl a9,.str<|x9 "house",.tup []]:=ae;have tC:Tabs (N++[MO.lst [D.non,.int 5,.bl a9,.str<|x9 "house",.tup []]]):=t.pre aL;generalize [D.non,.int 5,.bl a9,.str<|x9 "house",.tup []]=s at g n o L tC;generalize N++[MO.lst s]=C at L tC;refine bj (λk S c=>z9 C c/\∃U,S=[y0,a7<|ay ps rs,y2,y3,y4,y5,y6,y7,U]) ?_ ?_ ⟨z9.now tC Lc,_,rfl⟩;rintro S c ⟨b,U,rfl⟩;refine⟨b.lst tC L,?_⟩;simp only[wm];walk_at"dl";exact q _;rintro k y S c v ⟨b,U,rfl⟩ G u;have d:=Kw v;have a:∀{B:t7},GH B y:=(g y d _).1.gh b0;refine⟨b.lst tC L,?_⟩;simp only[ay];walk_at"dl";refine⟨y,_,rfl,a,R,b.tabs tC,λps rs=>n y d _ _ ps rs,λw e=>?_⟩;walk_at"ifs";have l:=b.tm tC e;refine⟨_,y,rfl,P,a,l.tabs tC,λps rs=>o y d _ _ ps rs,λz i=>?_⟩;walk_at"ifs";have m:=l.tm tC i;refine⟨y,y,rfl,a,a,m.tabs tC,λps rs=>n y d _ _ ps rs,λA j=>?_⟩;walk_at"ifs";exact E7.now<|u _ _ ⟨m.tm tC j,_,rfl⟩
end
def Hh:D7 (pZ (x9 "pairs_by_name")<|x9 "_law_as_house") 9 Ho:=by
 rintro ds M R ⟨ns,mo,u,⟨o,j⟩,rfl,rfl,h⟩;have a:ah [mo,.tb (x9 "pairs_by_name") c5,.tb (x9 "_law_as_house") c5] 0 (ns.map D.int):=by have:=iz (M:=[mo,.tb (x9 "pairs_by_name") c5,.tb (x9 "_law_as_house") c5]) (n:=0) (mo:=mo) rfl j;rw[o]at this;exact this
 have r:Tabs [mo,.tb (x9 "pairs_by_name") c5,.tb (x9 "_law_as_house") c5]:=⟨⟨_,rfl,.inl rfl⟩,⟨_,rfl,.inl rfl⟩⟩
 generalize [mo,MO.tb (x9 "pairs_by_name") c5,.tb (x9 "_law_as_house") c5]=c at a r;simp only[Ho];walk_at"dl";refine⟨0,ns,0,rfl,a,_,rfl,λps A K=>?_⟩;obtain⟨cs,g,E⟩:∃l:List Int,cutD (ns.map D.int) (a7 1) (a7 40)=l.map D.int/\l.length<=63:=by unfold cutD;rw[<-List.map_drop,<-List.map_take];exact⟨_,rfl,by rw[Li,MQ];lia⟩
 simp only[zb];walk_at"dl";refine⟨_,a,?_⟩;rw[g];refine⟨0,ns,0,rfl,a.more _,s9,_,_,aq ak,ak,ag (by simp only[v5,D4,Ix];lia),_,ae,λ_=>?_⟩;have b:∀y∈cs.map D.int++[D.int<|gG ns 0],∃i,y=.int i:=λy O=>by rcases J7.mp O with O|O;obtain⟨i,_,rfl⟩:=w9.mp O;exact⟨i,rfl⟩;exact⟨_,Ky.mp O⟩
 have L:ah (c++[MO.lst<|cs.map D.int]++[MO.lst [D.int<|gG ns 0]]++[MO.lst<|cs.map D.int++[D.int<|gG ns 0]]) (c++[MO.lst<|cs.map D.int]++[MO.lst [D.int<|gG ns 0]]).length (cs.map D.int++[D.int<|gG ns 0]):=ae;have tC:Tabs (c++[MO.lst<|cs.map D.int]++[MO.lst [D.int<|gG ns 0]]++[MO.lst<|cs.map D.int++[D.int<|gG ns 0]]):=r.pre<|(aL.trans aL).trans aL;generalize cs.map D.int++[D.int<|gG ns 0]=s at b L tC;generalize c++[MO.lst<|cs.map D.int]++[MO.lst [D.int<|gG ns 0]]++[MO.lst s]=C at L tC;generalize (c++[MO.lst<|cs.map D.int]++[MO.lst [D.int<|gG ns 0]]).length=F at L;refine bj (λk S N=>z9 C N/\∃m P Q p q T U,S=[a7<|.ref 0,a7<|ay ps A,m,P,Q,p,q,T,U]) ?_ ?_ ⟨z9.now tC Lc,_,_,_,_,_,_,_,rfl⟩;rintro S N ⟨x,m,P,Q,p,q,T,U,rfl⟩;exact⟨x.lst tC L,ID K (x.tabs tC) λB'=>Or.inl<|h _⟩;rintro k y S N w ⟨x,m,P,Q,p,q,T,U,rfl⟩ G v;obtain⟨d,rfl⟩:=b y<|Kw w;refine⟨x.lst tC L,?_⟩;walk_at"dl";refine⟨d,8,rfl,b0,λe z=>?_⟩;have t:=x.app [MO.lst<|e.map .int];exact law_2 K (t.tabs tC) ae z λB H I J V f=>E7.now<|v _ _ ⟨t.trans tC f,_,_,_,_,_,_,_,rfl⟩
def ok_law(T:Tops P w K mg base)(F:LO K "law" "law" (top 60) f fd):FnOk P w K mg base G3 11 f fd Fo (Lv K<|pZ "pairs_by_name" "_law_as_house"):=Dm (N:=["_law_script","_law_house_here","_law_cell","_law_numbers","_law_people","_law_rooms","_law_kept","_law_bent_here","_law_thing"]) T.b F dz FI (by have:=(jp T).nev;have:=xM T;have:=sZ T;have:=CB T;have:=uZ T 5;have:=zS T;have:=tE T 5;have:=pT T;have:=Fu T;have:=oJ T;have:=qJ T;have:=zT T;walk_at"dv") Hh
end
end LW
namespace PySem.W.Fast
def tw10238566658732030124:=Nat
def tw10301031030468666087:=Nat
def tw10316654586851370168:=Nat
def tw10433236264767568680:=Nat
def tw10596669495087225402:=Nat
def tw10630095101001461807:=Nat
def tw10663330867739788296:=Nat
def tw10697332767588201858:=Nat
def tw10708494412053940209:=Nat
def tw1071092293124992647:=Nat
def tw11011333690340706714:=Nat
def tw11087059889903589770:=Nat
def tw11196069570055157616:=Nat
def tw11200390808326447054:=Nat
def tw11245681204086506116:=Nat
def tw11270849616500953042:=Nat
def tw11332124215033388859:=Nat
def tw11412763981919140881:=Nat
def tw11442905655521525920:=Nat
def tw11446890214304178745:=Nat
def tw11543458739395441053:=Nat
def tw11566730264344656390:=Nat
def tw11646241874565822172:=Nat
def tw11686559232624679199:=Nat
def tw11734247922045483747:=Nat
def tw1177713623861929864:=Nat
def tw11934110397862694323:=Nat
def tw1207272266000898326:=Nat
def tw12116568015622140114:=Nat
def tw12205051905765673275:=Nat
def tw12259340379433161242:=Nat
def tw1227700301862919981:=Nat
def tw12302329880361122682:=Nat
def tw12413270926257472212:=Nat
def tw12452116759436652168:=Nat
def tw12745975435809965248:=Nat
def tw1277101867206982275:=Nat
def tw12787445672009475782:=Nat
def tw1278958029088287986:=Nat
def tw12812271999584601294:=Nat
def tw12845374841806777383:=Nat
def tw12901359843598529879:=Nat
def tw12921725596428360554:=Nat
def tw13120476392196146466:=Nat
def tw13137939135318091697:=Nat
def tw13221962901273468401:=Nat
def tw13246680728674196067:=Nat
def tw1325841519406671462:=Nat
def tw13262746457013362777:=Nat
def tw13298368849112003736:=Nat
def tw13376776276650711159:=Nat
def tw13448970474134558635:=Nat
def tw13486070181643887471:=Nat
def tw13494241256647888179:=Nat
def tw13520789831617694683:=Nat
def tw13529336863136999724:=Nat
def tw13650423532221917740:=Nat
def tw13671202421170531360:=Nat
def tw13674295868576272855:=Nat
def tw13755157418077080179:=Nat
def tw13774624741457371119:=Nat
def tw14033384035923119756:=Nat
def tw14059481539785819875:=Nat
def tw14414894892525488568:=Nat
def tw14433474543761147157:=Nat
def tw14471354032777484692:=Nat
def tw14484448748786878418:=Nat
def tw14484450199667102328:=Nat
def tw14490211704788632723:=Nat
def tw14655983234857576418:=Nat
def tw14692287947474512222:=Nat
def tw14692689766032787676:=Nat
def tw14745162932989719466:=Nat
def tw14800367037201552914:=Nat
def tw14843682563335581000:=Nat
def tw15013360456082103066:=Nat
def tw15021466195687361939:=Nat
def tw15040892800439628849:=Nat
def tw15068603728488677568:=Nat
def tw15092558836274431764:=Nat
def tw15105748678932710009:=Nat
def tw15116011371114940229:=Nat
def tw15291384845857476654:=Nat
def tw15337354155148411398:=Nat
def tw15416040716512506272:=Nat
def tw15466582749917501349:=Nat
def tw15482803581548630140:=Nat
def tw15506236507964490035:=Nat
def tw15563740978441863671:=Nat
def tw15672641689412733351:=Nat
def tw15722116605581030800:=Nat
def tw15732567785363854896:=Nat
def tw15752278823235818266:=Nat
def tw15753596122622102688:=Nat
def tw15777816769061588998:=Nat
def tw15865058133034686251:=Nat
def tw1590029444762801026:=Nat
def tw1592047475194701574:=Nat
def tw16046654123489894779:=Nat
def tw16269587355822261759:=Nat
def tw16325863412140441734:=Nat
def tw16336406939597377141:=Nat
def tw16382374032709970030:=Nat
def tw16394323882570309845:=Nat
def tw16444131391780107098:=Nat
def tw16647298110446120493:=Nat
def tw1665002642434027977:=Nat
def tw1668124416211966393:=Nat
def tw16742337078146574493:=Nat
def tw1675207410957752461:=Nat
def tw16829550061660657123:=Nat
def tw17015897628184788554:=Nat
def tw17019863233984841275:=Nat
def tw17051491297135590624:=Nat
def tw1705467248088731762:=Nat
def tw17081763823405905867:=Nat
def tw17179904874758008615:=Nat
def tw17283796030235874162:=Nat
def tw17454605956240421776:=Nat
def tw1762482591821146890:=Nat
def tw17642037647685250103:=Nat
def tw17665163306239524728:=Nat
def tw17674417602724623042:=Nat
def tw17708903278862206545:=Nat
def tw17805244848888354604:=Nat
def tw17859106561916031303:=Nat
def tw17860435011806332655:=Nat
def tw17913254348728385755:=Nat
def tw17967183745662691601:=Nat
def tw18081881013232073273:=Nat
def tw18108377246996962009:=Nat
def tw1824554962920169762:=Nat
def tw18282613554176628267:=Nat
def tw18384241709201315103:=Nat
def tw18398794663650590145:=Nat
def tw1947779199304030192:=Nat
def tw2217423993327293702:=Nat
def tw2285131260473689850:=Nat
def tw2332421773108023053:=Nat
def tw2333312102865870947:=Nat
def tw2464717046217046351:=Nat
def tw2608886928491783442:=Nat
def tw2617767424131299811:=Nat
def tw269031759815262154:=Nat
def tw2767573960665731130:=Nat
def tw2893345324936180508:=Nat
def tw3006249703293577835:=Nat
def tw3037280021661570024:=Nat
def tw309418630055278332:=Nat
def tw3140990133420209047:=Nat
def tw3194692080472181627:=Nat
def tw3222517078256946710:=Nat
def tw3539114161525755159:=Nat
def tw3623764962292046525:=Nat
def tw3742163503067466962:=Nat
def tw3768012960736788203:=Nat
def tw3934682843840282204:=Nat
def tw3935508547690136238:=Nat
def tw3973731857842512067:=Nat
def tw4045609864838418955:=Nat
def tw4203667706217708189:=Nat
def tw4507071759929067283:=Nat
def tw4566042396055735532:=Nat
def tw4840910051138451903:=Nat
def tw4873113172024052779:=Nat
def tw4973770373404695951:=Nat
def tw4974812632208240540:=Nat
def tw5077839999210935916:=Nat
def tw509352965113920038:=Nat
def tw5102990515357750977:=Nat
def tw5148560560408105735:=Nat
def tw5239246530593888574:=Nat
def tw5310810384222818289:=Nat
def tw5370874461699643628:=Nat
def tw539349213622650989:=Nat
def tw5500937979627732594:=Nat
def tw5535751283663580370:=Nat
def tw5642091948223499660:=Nat
def tw5683307884495895288:=Nat
def tw5743901486203436615:=Nat
def tw5799889512834246232:=Nat
def tw5818354411530812325:=Nat
def tw5893862221177395946:=Nat
def tw5922116188025320631:=Nat
def tw6061301233701002745:=Nat
def tw6133328433759655383:=Nat
def tw6149191014108821329:=Nat
def tw6293891124735126070:=Nat
def tw6350350998911424926:=Nat
def tw6514498272899198801:=Nat
def tw6590004531494533548:=Nat
def tw6596085027266468860:=Nat
def tw666244532024258454:=Nat
def tw6698214801919264039:=Nat
def tw6888549387539479397:=Nat
def tw6945902730524614795:=Nat
def tw6972318733024666960:=Nat
def tw7009408589999134340:=Nat
def tw7037162195368199969:=Nat
def tw7124537416800936761:=Nat
def tw7129831453039959350:=Nat
def tw7193169740798659090:=Nat
def tw7205192811081194757:=Nat
def tw7364516110033643289:=Nat
def tw7371154292055524378:=Nat
def tw7440996777841498537:=Nat
def tw7457333565181654813:=Nat
def tw7461507393077421804:=Nat
def tw7570861034314718179:=Nat
def tw7572473858913582444:=Nat
def tw7605573987707039730:=Nat
def tw7632384329176183351:=Nat
def tw774323837233856540:=Nat
def tw7808079063527604948:=Nat
def tw7841134434281329501:=Nat
def tw7991531727210027220:=Nat
def tw8042909163863296218:=Nat
def tw8097031815240966588:=Nat
def tw8099277767341082242:=Nat
def tw814860650166232167:=Nat
def tw8323345370235108048:=Nat
def tw8347190606291720801:=Nat
def tw8404800472879537575:=Nat
def tw8427159122500451025:=Nat
def tw8564123091003368011:=Nat
def tw8592098210078531149:=Nat
def tw8706582904566742377:=Nat
def tw8715341240290631933:=Nat
def tw8777604271172081456:=Nat
def tw8778899331309097075:=Nat
def tw8926581841878163413:=Nat
def tw8999970783080527448:=Nat
def tw9051805313672685531:=Nat
def tw9219219100880358142:=Nat
def tw9236928624823350573:=Nat
def tw9247801069268416972:=Nat
def tw936225299217055067:=Nat
def tw948202202111026645:=Nat
def tw9492111874439547196:=Nat
def tw9517116316544313040:=Nat
def tw9527036598432462978:=Nat
def tw9559638246590948449:=Nat
def tw9570405006347713909:=Nat
def tw9576758188536711145:=Nat
def tw9580360682204707648:=Nat
def tw9635419390065006210:=Nat
def tw9681996864406013448:=Nat
def tw9761604966984714925:=Nat
def tw980508359679708759:=Nat
def tw9953515024049518662:=Nat
end PySem.W.Fast
def L2.us1{P:List AEL->Prop}(h:∀a0,P [a0]):∀us:List AEL,us.length=1->P us
 | [a0],_=>h a0
def L2.us2{P:List AEL->Prop}(h:∀a0 a1,P [a0,a1]):∀us:List AEL,us.length=2->P us
 | [a0,a1],_=>h a0 a1
def L2.us3{P:List AEL->Prop}(h:∀a0 a1 a2,P [a0,a1,a2]):∀us:List AEL,us.length=3->P us
 | [a0,a1,a2],_=>h a0 a1 a2
local macro_rules | `(tactic| walk_at"fk")=>`(tactic| ((case a=>k_is);(case l=>k_is);(case c=>k_is);(case k=>k_is)))
local macro_rules | `(tactic| walk_at"f1")=>`(tactic| (refine' L2.fnat_mk (by assumption) (by assumption) ?a ?l ?c ?k (λ_ _ _ _ _ _=>L2.us1 (λ_=>rfl));walk_at"fk"))
local macro_rules | `(tactic| walk_at"f2")=>`(tactic| (refine' L2.fnat_mk (by assumption) (by assumption) ?a ?l ?c ?k (λ_ _ _ _ _ _=>L2.us2 (λ_ _=>rfl));walk_at"fk"))
local macro_rules | `(tactic| walk_at"f3")=>`(tactic| (refine' L2.fnat_mk (by assumption) (by assumption) ?a ?l ?c ?k (λ_ _ _ _ _ _=>L2.us3 (λ_ _ _=>rfl));walk_at"fk"))
open PySem PySem.W PyProof.Rows
set_option maxRecDepth 100000 in
set_option maxHeartbeats 0 in
theorem PySem.Challenge.cw_talkmarks_k05_houses_made_holds : PySem.Challenge.rw_talkmarks_k05_houses_made.Holds := by
 w_on; o_law; k_head; (case hw=>w_witness2)
 k_fill
 refine L2.law_walkL2 (z:="pairs_by_name") (z':="_law_as_house") (l:=PySem.Challenge.rw_talkmarks_k05_houses_made) (k:=11) (st:=LW.top 60) (x:="_law_script") rfl rfl rfl ⟨rfl,by decide,by decide⟩ (fun w h Y=>PySem.W.km_in_of Y) (fun _=>by kernel_rfl) rfl (fun _=>rfl) rfl (fun _=>rfl) (fun _=>Nat.ne_of_beq_eq_false<|by kernel_rfl) ?F<|fun _ _ _ _ _ _ _=>rfl
 case F =>
  intro w mg h X G;have T:∀ P base,L2.BMain mg base→LW.Tops P w (L2.KOf X) mg base:=by
   intro P base m;dsimp only[L2.KOf];constructor;walk_at"f1";walk_at"f2";walk_at"f2";walk_at"f1";walk_at"f1";walk_at"f1";walk_at"f1";walk_at"f1";walk_at"f1";walk_at"f1";walk_at"f2";walk_at"f2";walk_at"f2";walk_at"f1";walk_at"f1";walk_at"f1";walk_at"f1";walk_at"f2";walk_at"f2";walk_at"f2";walk_at"f2";walk_at"f1";walk_at"f1";walk_at"f1";walk_at"f2";walk_at"f1";walk_at"f2";walk_at"f1";walk_at"f2";walk_at"f3";walk_at"f1";walk_at"f1";walk_at"f1";walk_at"f1";walk_at"f3";walk_at"f3";walk_at"f2";walk_at"f2";walk_at"f1"
   ·unfold LW.B_ LW.C_
    iterate 13 (refine' L2.TopB.b ?tq ?_; (case tq=>refine' PySem.W.mg_none_of X G ?tr; (case tr=>k_is)))
    iterate 4 (refine' L2.TopB.c ?tq ?_; (case tq=>refine' L2.glob_mk X G ?tr ?ts; (case tr=>k_is); (case ts=>exact ⟨_,rfl⟩)))
    exact .nil
   kernel_rfl;exact m
  refine ⟨?_,fun base f d m F=>LW.ok_law (T _ base m) F⟩
  try dsimp only[L2.KOf]
  walk_at"f1"
