import PyProof.Rows.All
import Wide.All
import OpenK.AllK
import Wide.FinOn
import Lean
import PyProof.EqAt
import PyProof.EqKinds
import PyProof.TupleCall
import PyProof.CompFree
import PyProof.NeKinds
import KE.KSortTup
import KE.KRevSl
import KE.KDictSum
import KE.KEqDict
import PyProof.Conv_int_bool
import PyProof.AttrMissHeap
import KE.KLam
import PySem.Challenge.RW_talkmarks_k21_what_is_taken_back
set_option autoImplicit true
set_option relaxedAutoImplicit true
set_option compiler.extract_closed false
set_option Elab.async false
set_option linter.all false
set_option maxRecDepth 100000
-- CHANGE: your row's module here,as the last of these rows
set_option maxRecDepth 100000
namespace L2
open PySem PySem.Spec PyProof.Rows
abbrev Key:=Sum Int Str
def sT:Key->Value->Bool
 | .inl k,v=>Value.isInt k v
 | .inr x,v=>Value.isStrOf x v
def keyH(w:World):Key->Int
 | .inl k=>hashInt k
 | .inr x=>hashStr w x
theorem aY:∀ {k:Key}{v:Value},sT k v=true->(∃ i t,k=Sum.inl i/\v=Value.int i t)\/(∃ x t,k=Sum.inr x/\v=Value.str x t)
 | .inl i,v,h=>by
  obtain⟨t,e⟩:=Value.isInt_shape (k:=i) (v:=v) h
  exact .inl ⟨i,t,rfl,e⟩
 | .inr x,v,h=>by
  obtain⟨t,e⟩:=Value.isStrOf_shape (x:=x) (v:=v) h
  exact .inr ⟨x,t,rfl,e⟩
theorem vX(i:Int)(t:Tok):sT (.inl i) (.int i t)=true:=by simp[sT,Value.isInt]
theorem vW(x:Str)(t:Tok):sT (.inr x) (.str x t)=true:=by simp[sT,Value.isStrOf]
theorem DF(a b:Int):decide ((Sum.inl a:Key)=Sum.inl b)=(a==b):=by
 by_cases e:a=b
 ·subst e; simp
 ·have h:¬ (Sum.inl a:Key)=Sum.inl b:=fun q=>e (Sum.inl.inj q)
  rw[decide_eq_false h]
  exact(beq_eq_false_iff_ne.mpr e).symm
theorem zn(a b:Str):decide ((Sum.inr a:Key)=Sum.inr b)=decide (a=b):=by
 by_cases e:a=b
 ·subst e; simp
 ·have h:¬ (Sum.inr a:Key)=Sum.inr b:=fun q=>e (Sum.inr.inj q)
  rw[decide_eq_false h,decide_eq_false e]
theorem DC(a:Int)(b:Str):decide ((Sum.inl a:Key)=Sum.inr b)=false:=decide_eq_false (fun q=>nomatch q)
theorem DB(a:Str)(b:Int):decide ((Sum.inr a:Key)=Sum.inl b)=false:=decide_eq_false (fun q=>nomatch q)
def bV(prog:Program)(w:World):PySem.KeyKind prog w Key where
 is:=sT
 hash:=keyH w
 inj:=fun v a b ha hb=>by
  rcases aY ha with ⟨i,t,rfl,rfl⟩ | ⟨x,t,rfl,rfl⟩
  ·rcases aY hb with ⟨j,u,rfl,e⟩ | ⟨y,u,rfl,e⟩
   ·injection e with e1 _; rw[e1]
   ·exact nomatch e
  ·rcases aY hb with ⟨j,u,rfl,e⟩ | ⟨y,u,rfl,e⟩
   ·exact nomatch e
   ·injection e with e1 _; rw[e1]
 byValue:=fun k v h=>by
  rcases aY h with ⟨i,t,rfl,rfl⟩ | ⟨x,t,rfl,rfl⟩ <;> rfl
 pyHash:=fun hv h=>by
  rcases aY hv with ⟨i,t,rfl,rfl⟩ | ⟨x,t,rfl,rfl⟩
  ·exact wpAny_pyHash_int h
  ·exact wpAny_pyHash_str h
 eqBool:=fun hu hv h=>by
  rcases aY hu with ⟨i,t,rfl,rfl⟩ | ⟨x,t,rfl,rfl⟩
  ·rcases aY hv with ⟨j,u,rfl,rfl⟩ | ⟨y,u,rfl,rfl⟩
   ·rw[DF] at h; exact wpAny_eqBool_int h
   ·rw[DC] at h; exact SeqAt.EqAt.int_str i t y u _ _ _ _ h
  ·rcases aY hv with ⟨j,u,rfl,rfl⟩ | ⟨y,u,rfl,rfl⟩
   ·rw[DB] at h; exact SeqAt.EqAt.str_int x t j u _ _ _ _ h
   ·rw[zn] at h; exact wpAny_eqBool_str h
 «strs»:=fun k x t v h=>by
  rcases aY h with ⟨i,u,rfl,e⟩ | ⟨y,u,rfl,e⟩
  ·exact nomatch e
  ·injection e with e1 _
   subst e1
   cases v <;> rfl
theorem oX(prog:Program)(w:World)(i:Int)(t:Tok):(bV prog w).is (.inl i) (.int i t)=true:=vX i t
theorem oW(prog:Program)(w:World)(x:Str)(t:Tok):(bV prog w).is (.inr x) (.str x t)=true:=vW x t
end L2
namespace L2
open PySem PySem.Spec PyProof.Rows
inductive V where
 | non | bl (b:Bool) | int (i:Int) | str (x:Str) | byt (b:Array UInt8) | flt (b:UInt64) | ref (a:Addr) | ty (n:String)
 deriving DecidableEq
def aJ:V->Value->Prop
 | .non,u=>u=Value.none
 | .bl b,u=>u=Value.bool b
 | .int i,u=>∃ t,u=Value.int i t
 | .str x,u=>∃ t,u=Value.str x t
 | .byt b,u=>∃ t,u=Value.bytes b t
 | .flt b,u=>∃ t,u=Value.float b t
 | .ref a,u=>u=Value.ref a
 | .ty n,u=>u=Value.type n
abbrev ar:List V->List Value->Prop:=Paired aJ
theorem ar.length(r:ar xs us):xs.length=us.length:=Paired.length r
theorem ar.get:∀ {xs:List V}{us:List Value}{i:Nat}{x:V},ar xs us->xs[i]?=some x->∃ u,us[i]?=some u/\aJ x u
 | _,_,_,_,.nil,e=>by simp at e
 | _,_,0,_,.cons r _,e=>by simp at e; subst e; exact⟨_,rfl,r⟩
 | _,_,i+1,x,.cons _ t,e=>by
  obtain⟨u,h1,h2⟩:=ar.get (i:=i) (x:=x) t (by simpa using e)
  exact⟨u,by simpa using h1,h2⟩
theorem ar.set(r:aJ x u):∀ {xs:List V}{us:List Value} (i:Nat),ar xs us->ar (xs.set i x) (us.set i u)
 | _,_,_,.nil=>.nil
 | _,_,0,.cons _ t=>.cons r t
 | _,_,i+1,.cons q t=>.cons q (ar.set r i t)
theorem ar.append:∀ {xs ys:List V}{us ws:List Value},ar xs us->ar ys ws->ar (xs++ys) (us++ws)
 | _,_,_,_,.nil,s=>s
 | _,_,_,_,.cons r t,s=>.cons r (ar.append t s)
theorem ar.take:∀ {xs:List V}{us:List Value} (n:Nat),ar xs us->ar (xs.take n) (us.take n)
 | _,_,0,_=>.nil
 | _,_,_+1,.nil=>.nil
 | _,_,n+1,.cons r t=>.cons r (ar.take n t)
theorem ar.drop:∀ {xs:List V}{us:List Value} (n:Nat),ar xs us->ar (xs.drop n) (us.drop n)
 | _,_,0,r=>r
 | _,_,_+1,.nil=>.nil
 | _,_,n+1,.cons _ t=>ar.drop n t
def zN:Option V->Option Value->Prop
 | some v,some u=>aJ v u
 | none,none=>True
 | _,_=>False
def KV{κ:Type}:List (κ×V)->List (κ×Value)->Prop:=Paired fun (p:κ×V) (q:κ×Value)=>p.1=q.1/\aJ p.2 q.2
def kV:Key->V
 | .inl i=>.int i
 | .inr x=>.str x
inductive HO where
 | lst (xs:List V)
 | tup (xs:List V)
 | dK (kvs:List (Key×V)) | dT (kvs:List (List Key×V))
 | set (S:Int->Bool) (n:Nat)
 | ins (C dx:Addr) (fs:List (Str×V))
 | own (x:Addr)
 | xd (fs:List (Str×V))
 | met (f x:Addr)
 | rng (lo hi:Int)
 | frz (o:Obj) (u:HO)
 | tbl (ps:Array Value)
 | ext (φ:Program->World->Heap->Prop)
abbrev Hp:=Addr->Option HO
def upd(H:Hp)(a:Addr)(o:HO):Hp:=fun b=>if b=a then some o else H b
theorem aI:upd H a o a=some o:=by unfold upd; rw[if_pos rfl]
theorem ak(h:b≠a):upd H a o b=H b:=by unfold upd; rw[if_neg h]
theorem xK{H:Hp}{a b:Addr}{o u:HO}(h:H a=some o)(h':H b=some u)(d:o≠u):a≠b:=by
 intro e; subst e; rw[h] at h'; exact d (Option.some.inj h')
theorem ad{H:Hp}{a b:Addr}{o:HO}(h:H a=some o)(h':H b=none):a≠b:=by
 intro e; subst e; rw[h] at h'; cases h'
section
variable(P:Program)(w:World)
def yL(h:Heap)(a:Addr)(items:Array Value):Prop:=∃ o,h.get? a=some o/\o.cls=.type "tuple"/\(∃ n,o.data=.seq items n)/\o.dict=none
theorem yL.tup:yL h a items->IsTup h a items:=fun ⟨o,e,c,⟨n,d⟩,_⟩=>⟨o,e,c,n,d⟩
theorem yL.new(h:Heap)(items:Array Value):yL (h.push { cls:=.type "tuple",data:=.seq items }) h.objs.size items:=⟨_,Heap.get?_push_size _ rfl,rfl,⟨_,rfl⟩,rfl⟩
def bW(H:Hp)(h:Heap)(a:Addr):HO->Prop
 | .lst xs=>xs.length<=sizeLine/\∃ (its:List Value) (n:Nat),ar xs its/\h.get? a=some { cls:=.type "list",data:=.seq its.toArray n }
 | .tup xs=>xs.length<=sizeLine/\∃ its:List Value,ar xs its/\yL h a its.toArray
 | .dK kvs=>kvs.length<=sizeLine/\(a==sysModules)=false/\∃ vs,KV kvs vs/\h.DictOf (bV P w) a vs
 | .dT kvs=>kvs.length<=sizeLine/\(a==sysModules)=false/\∃ xs:List (List Key×Addr×Value),
   Paired (fun (p:List Key×V) (q:List Key×Addr×Value)=>p.1=q.1/\H q.2.1=some (.tup (p.1.map kV))/\aJ p.2 q.2.2) kvs xs /\
   ∃ o es ep,h.get? a=some o/\o.ExactDict/\o.data=.dict es ep/\es.toList=xs.map (entryOfKey (tupleKind (bV P w)))/\(xs.map (·.1)).Nodup
 | .set S n=>h.SetOf (intKind P w) a S n
 | .ins C dx fs=>H dx=some (.own a)/\fs.length<=1000/\dx≠a/\h.get? a=some (PySem.W.instObj C dx) /\
   ∃ mA,h.Ns1 dx mA/\(∀ f,zN (fs.lookup f) (mA f))/\PySem.Within mA (fs.map (·.1))
 | .own _=>∃ o,h.get? a=some o
 | .xd fs=>∃ mA,h.Ns1 a mA/\∀ f,zN (fs.lookup f) (mA f)
 | .rng lo hi=>∃ t u v,h.get? a=some { cls:=.type "range",data:=.fields #[.int lo t,.int hi u,.int 1 v] }
 | .frz o u=>h.get? a=some o/\bW H h a u
 | .tbl ps=>h.get? a=some { cls:=.none,data:=.fields ps }
 | .met f x=>h.get? a=some (PySem.W.methodObj (.ref f) (.ref x))
 | .ext φ=>φ P w h/\(∃ o,h.get? a=some o)/\∀ h1 h2:Heap,φ P w h1->(∀ o,h1.get? a=some o->h2.get? a=some o)->φ P w h2
def HOk(H:Hp)(h:Heap):Prop:=∀ a o,H a=some o->bW P w H h a o
end
section
variable{P:Program}{w:World}{H H':Hp}{h h':Heap}{a:Addr}{o:HO}
theorem bW.lt(x:bW P w H h a o):a < h.objs.size:=by
 cases o with
 | lst xs=>obtain⟨_,_,_,_,e⟩:=x; exact Heap.lt_size e
 | tup xs=>obtain⟨_,_,_,p⟩:=x; exact p.tup.lt
 | dK kvs=>obtain⟨_,_,_,_,o,_,_,e,_⟩:=x; exact Heap.lt_size e
 | dT kvs=>obtain⟨_,_,_,_,o,_,_,e,_⟩:=x; exact Heap.lt_size e
 | set S n=>obtain⟨o,_,_,_,e,_⟩:=x; exact Heap.lt_size e
 | ins C dx fs=>obtain⟨_,_,_,e,_⟩:=x; exact Heap.lt_size e
 | own y=>obtain⟨_,e⟩:=x; exact Heap.lt_size e
 | xd fs=>obtain⟨_,⟨_,_,_,e,_⟩,_⟩:=x; exact Heap.lt_size e
 | rng lo hi=>obtain⟨_,_,_,e⟩:=x; exact Heap.lt_size e
 | frz ob u=>obtain⟨e,_⟩:=x; exact Heap.lt_size e
 | tbl ps=>exact Heap.lt_size (show h.get? a=some _ from x)
 | met f y=>exact Heap.lt_size (show h.get? a=some _ from x)
 | ext φ=>obtain⟨_,⟨_,e⟩,_⟩:=x; exact Heap.lt_size e
theorem Paired.mapP{α β:Type}{F G:α->β->Prop}:∀ {l₁:List α}{l₂:List β},Paired F l₁ l₂->(∀ a b,F a b->G a b)->Paired G l₁ l₂
 | _,_,.nil,_=>.nil
 | _,_,.cons r t,f=>.cons (f _ _ r) (Paired.mapP t f)
theorem bW.stay(x:bW P w H h a o)(k:∀ b u,(b=a\/H b=some (.own a))->h.get? b=some u->h'.get? b=some u)
  (ho:∀ b,H b=some (.own a)->H' b=some (.own a)) (ht:∀ b xs,H b=some (.tup xs)->H' b=some (.tup xs)):bW P w H' h' a o:=by
 induction o with
 | lst xs=>obtain⟨z,its,n,r,e⟩:=x; exact⟨z,its,n,r,k _ _ (.inl rfl) e⟩
 | tup xs=>obtain⟨z,its,r,ob,e,c⟩:=x; exact⟨z,its,r,ob,k _ _ (.inl rfl) e,c⟩
 | dK kvs=>obtain⟨z,y,vs,r,ob,es,ep,e,c⟩:=x; exact⟨z,y,vs,r,ob,es,ep,k _ _ (.inl rfl) e,c⟩
 | dT kvs =>
  obtain⟨z,y,xs,r,ob,es,ep,e,c⟩:=x
  exact⟨z,y,xs,Paired.mapP r fun p q z=>⟨z.1,ht _ _ z.2.1,z.2.2⟩,ob,es,ep,k _ _ (.inl rfl) e,c⟩
 | set S n=>obtain⟨ob,es,ep,t,e,c⟩:=x; exact⟨ob,es,ep,t,k _ _ (.inl rfl) e,c⟩
 | ins C dx fs =>
  obtain⟨d,z,ne,e,mA,⟨od,es,ep,e2,c⟩,r⟩:=x
  exact⟨ho _ d,z,ne,k _ _ (.inl rfl) e,mA,⟨od,es,ep,k _ _ (.inr d) e2,c⟩,r⟩
 | own y=>obtain⟨ob,e⟩:=x; exact⟨ob,k _ _ (.inl rfl) e⟩
 | xd fs=>obtain⟨mA,⟨od,es,ep,e,c⟩,r⟩:=x; exact⟨mA,⟨od,es,ep,k _ _ (.inl rfl) e,c⟩,r⟩
 | rng lo hi=>obtain⟨t,u,v,e⟩:=x; exact⟨t,u,v,k _ _ (.inl rfl) e⟩
 | frz ob u ih=>obtain⟨e,q⟩:=x; exact⟨k _ _ (.inl rfl) e,ih q⟩
 | tbl ps =>
  have e:h.get? a=some { cls:=.none,data:=.fields ps }:=x
  show h'.get? a=some { cls:=.none,data:=.fields ps }
  exact k a _ (.inl rfl) e
 | met f y =>
  have e:h.get? a=some (PySem.W.methodObj (.ref f) (.ref y)):=x
  show h'.get? a=some (PySem.W.methodObj (.ref f) (.ref y))
  exact k a _ (.inl rfl) e
 | ext φ=>obtain⟨p,⟨o,e⟩,st⟩:=x; exact⟨st _ _ p fun o q=>k _ _ (.inl rfl) q,⟨o,k _ _ (.inl rfl) e⟩,st⟩
theorem HOk.lt(x:HOk P w H h)(e:H a=some o):a < h.objs.size:=(x a o e).lt
theorem HOk.fresh(x:HOk P w H h)(e:h.objs.size<=a):H a=none:=by
 cases q:H a with
 | none=>rfl
 | some u=>exact absurd (Nat.lt_of_lt_of_le (x.lt q) e) (Nat.lt_irrefl _)
theorem HOk.kept(x:HOk P w H h)(k:∀ b u,h.get? b=some u->h'.get? b=some u):HOk P w H h':=fun a o e =>
 (x a o e).stay (fun b u _ q=>k b u q) (fun _ q=>q) fun _ _ q=>q
theorem HOk.laid(x:HOk P w H h)(k:∀ b u,h.get? b=some u->h'.get? b=some u)(hp:h.objs.size<=a)(new:bW P w (upd H a o) h' a o):HOk P w (upd H a o) h':=fun b u e=>by
 have hn:=x.fresh hp
 by_cases hb:b=a
 ·subst hb; rw[aI] at e; cases e; exact new
 ·rw[ak hb] at e
  exact(x b u e).stay (fun c v _ q=>k c v q) (fun c q=>by rw[ak (ad q hn)]; exact q) fun c xs q=>by rw[ak (ad q hn)]; exact q
end
def Rd(H:Hp)(a:Addr)(u:HO):Prop:=H a=some u\/∃ o,H a=some (.frz o u)
theorem Rd.ok(r:Rd H a u)(x:HOk P w H h):bW P w H h a u:=by
 rcases r with r | ⟨o,r⟩
 ·exact x a u r
 ·obtain⟨_,q⟩:=x a _ r
  exact q
def Mut:Option HO->Prop
 | some (.lst _)=>True
 | some (.dK _)=>True
 | some (.dT _)=>True
 | some (.set _ _)=>True
 | some (.ins _ _ _)=>True
 | some (.ext _)=>True
 | _=>False
section
variable{P:Program}{w:World}{H:Hp}{h h':Heap}{x e:Addr}{o':HO}
theorem HOk.write(ok:HOk P w H h)(mu:Mut (H x))(he:e=x\/H e=some (.own x))(k:∀ b u,b≠e->h.get? b=some u->h'.get? b=some u)(heo:∃ u,h'.get? e=some u)
  (new:bW P w (upd H x o') h' x o'):HOk P w (upd H x o') h':=fun b u q=>by
 have nown:∀ c y,H c=some (.own y)->c≠x:=fun c y r z=>by subst z; rw[r] at mu; exact mu
 have ntup:∀ c xs,H c=some (.tup xs)->c≠x:=fun c xs r z=>by subst z; rw[r] at mu; exact mu
 by_cases hb:b=x
 ·subst hb; rw[aI] at q; cases q; exact new
 ·rw[ak hb] at q
  by_cases hbe:b=e
  ·have q':H b=some (.own x):=by
    rcases he with z | z
    ·exact absurd (hbe.trans z) hb
    ·rw[hbe]; exact z
   rw[q] at q'; cases q'
   obtain⟨v,hv⟩:=heo
   exact⟨v,by rw[hbe]; exact hv⟩
  ·refine(ok b u q).stay (fun c v hc r=>k c v ?_ r) (fun c r=>by rw[ak (nown c b r)]; exact r) fun c xs r=>by rw[ak (ntup c xs r)]; exact r
   rcases hc with rfl | hc
   ·exact hbe
   ·rintro rfl
    rcases he with z | z
    ·exact nown c b hc z
    ·rw[hc] at z; cases z; exact hb rfl
end
structure Un(fs ex:List Addr)(H H':Hp)(h h':Heap):Prop where
 keep:∀ b o,h.get? b=some o->H b=none->b∉fs->b∉ex->h'.get? b=some o
 slot:∀ b o,h.get? b=some o->H b=none->b∈fs->b∉ex->∃ sl,h'.get? b=some { o with slots:=sl }
 free:∀ b o,h.get? b=some o->H b=none->b∉ex->H' b=none
 there:∀ b o,h.get? b=some o->b∉ex->∃ o',h'.get? b=some o'
 tups:∀ b xs,H b=some (.tup xs)->H' b=some (.tup xs)
 frzs:∀ b o u,H b=some (.frz o u)->H' b=some (.frz o u)
 tbls:∀ b ps,H b=some (.tbl ps)->∃ more,H' b=some (.tbl (ps++more))
section
variable{fs fs' ex ex':List Addr}{H H1 H2:Hp}{h h1 h2 h':Heap}{a x e:Addr}{o:HO}
theorem Un.any(u:Un fs ex H H1 h h1)(q:h.get? b=some ob)(n:H b=none)(hx:b∉ex):∃ sl,h1.get? b=some { ob with slots:=sl }:=by
 by_cases hb:b∈fs
 ·exact u.slot b ob q n hb hx
 ·exact⟨ob.slots,u.keep b ob q n hb hx⟩
theorem Un.kept(k:∀ b u,h.get? b=some u->h'.get? b=some u):Un fs ex H H h h' :=
 ⟨fun b ob q _ _ _=>k b ob q,fun b ob q _ _ _=>⟨ob.slots,k b ob q⟩,fun _ _ _ n _=>n,fun b ob q _=>⟨ob,k b ob q⟩,fun _ _ q=>q,fun _ _ _ q=>q,fun _ ps q=>⟨#[],by rw[q]; simp⟩⟩
theorem Un.refl:Un fs ex H H h h:=Un.kept fun _ _ q=>q
theorem Un.laid(k:∀ b u,h.get? b=some u->h'.get? b=some u)(hp:h.objs.size<=a)(hn:H a=none):Un fs ex H (upd H a o) h h' where
 keep:=fun b u q _ _ _=>k b u q
 slot:=fun b u q _ _ _=>⟨u.slots,k b u q⟩
 free:=fun b u q n _=>by rw[ak (Nat.ne_of_lt (Nat.lt_of_lt_of_le (Heap.lt_size q) hp))]; exact n
 there:=fun b u q _=>⟨u,k b u q⟩
 tups:=fun b xs q=>by rw[ak (ad q hn)]; exact q
 frzs:=fun b u xs q=>by rw[ak (ad q hn)]; exact q
 tbls:=fun b ps q=>⟨#[],by rw[ak (ad q hn),q]; simp⟩
theorem Un.write(mu:Mut (H x))(he:e=x\/H e=some (.own x))(k:∀ b u,b≠e->h.get? b=some u->h'.get? b=some u)(heo:∃ u,h'.get? e=some u):Un fs ex H (upd H x o) h h':=by
 have hx:∀ b,H b=none->b≠x:=fun b n z=>by subst z; rw[n] at mu; exact mu
 have hb:∀ b,H b=none->b≠e:=fun b n z=>by
  subst z
  rcases he with r | r
  ·exact hx b n r
  ·rw[n] at r; cases r
 have hm:∀ b u,H b=some u->¬ Mut (some u)->b≠x:=fun b u q nm z=>by subst z; rw[q] at mu; exact nm mu
 refine⟨fun b u q n _ _=>k b u (hb b n) q,fun b u q n _ _=>⟨u.slots,k b u (hb b n) q⟩,fun b u q n _=>by rw[ak (hx b n)]; exact n,fun b u q _=>?_,
  fun b xs q=>by rw[ak (hm b _ q fun z=>z)]; exact q,fun b u xs q=>by rw[ak (hm b _ q fun z=>z)]; exact q,fun b ps q=>⟨#[],by rw[ak (hm b _ q fun z=>z),q]; simp⟩⟩
 by_cases hbe:b=e
 ·subst hbe; exact heo
 ·exact⟨u,k b u hbe q⟩
end
def trk(h:Heap)(H:Hp):List Addr:=(List.range h.objs.size).filter fun a=>(H a).isSome
def wU(h:Heap)(H:Hp):Heap:=PySem.W.hideAll h (trk h H)
theorem wl(h:Heap)(H:Hp):(wU h H).objs.size=h.objs.size:=PySem.W.hideAll_size _ _
theorem yi(e:h.get? b=some o)(n:H b=none):(wU h H).get? b=some o :=
 PySem.W.hideAll_get _ e fun hm=>by
  have q:(H b).isSome=true:=(List.mem_filter.mp hm).2
  rw[n] at q; simp at q
theorem AK(e:(wU h H).get? b=some o):h.get? b=some o/\H b=none:=by
 have e':h.get? b=some o:=PySem.W.of_hideAll (trk h H) e
 refine⟨e',?_⟩
 cases q:H b with
 | none=>rfl
 | some x =>
  have hm:b∈trk h H:=List.mem_filter.mpr ⟨List.mem_range.mpr (Heap.lt_size e'),by simp[q]⟩
  have z:(wU h H).get? b=none:=PySem.W.hideAll_none (trk h H) hm
  rw[z] at e; cases e
def BT(g h:Heap)(L:Addr):List (Addr×Obj):=(List.range h.objs.size).filterMap fun a=>if a=L\/(g.get? a).isSome=true then none else (h.get? a).map fun o=>(a,o)
def aN(g h:Heap)(L d:Addr):List (Addr×Obj):=(BT g h L).filter fun p=>decide (p.1≠d)
end L2
namespace L2
open PySem PySem.Spec PyProof.Rows
structure Mod(K:PySem.W.Frag)(mg:Str->Option Value)(base:Heap):Prop where
 kin:K.In base
 glob:base.Ns mainGlobals mg
 blt:∃ mb,base.Ns builtinsNs mb/\∀ x:Str,x≠"__name__"->mb x=bootBuiltins x
 nolimit:base.NoLimit
/-- the context: a def's body (or a comprehension's block) running. base: fixed through the whole law; s₀,H₀: the entry; outer: the frames whose slots others may change (a def's callers); stack: all frames that run;
  ex: iterators that were made dn of the entry and are walked here (a comprehension's); fn: the names whose cells were made at the entry (a def: all; a comprehension's block: its own); calm: not Cg an except suite; pn: pins that every state bears; xe: what is wanted of an exception that leaves the code -/
structure Cx where
 prog:Program
 w:World
 K:PySem.W.Frag
 mg:Str->Option Value
 base:Heap
 A:Around
 N:List Str
 s₀:Shared
 H₀:Hp
 env:Env
 outer:List Env
 stack:List Env
 ex:List Addr
 fn:Str->Bool
 calm:Bool
 pn:List (Addr×Obj)
 xe:Value->Shared->Prop
def frs(l:List Env):List Addr:=l.filterMap (·.frame)
abbrev Cx.fs(X:Cx):List Addr:=frs X.outer
def Vis(sc:Scope)(x:Str):Prop:=sc.names.lookup x=some .local\/sc.names.lookup x=some .cell\/sc.names.lookup x=some .free
def Loc(sc:Scope)(x:Str):Prop:=sc.names.lookup x=some .local\/sc.names.lookup x=some .cell
def Look(env:Env)(h:Heap)(m:Str->Option Value)(x:Str)(u:Value):Prop :=
 (env.kindOf x=some .local/\m x=some u)\/((env.kindOf x=some .cell\/env.kindOf x=some .free)/\∃ c,env.cells.lookup x=some c/\h.IsCell c (some u))
structure Cx.Ok(X:Cx):Prop where
 mod:Mod X.K X.mg X.base
 kind:X.env.scope.kind=.function
 glob:X.env.globals=mainGlobals
 blt:X.env.builtins=builtinsNs
 above:X.s₀.heap.objs.size<=X.env.locals
 inj:∀ x y c,X.env.cells.lookup x=some c->X.env.cells.lookup y=some c->x=y
 has:∀ x,(X.env.kindOf x=some .cell\/X.env.kindOf x=some .free)->∃ c,X.env.cells.lookup x=some c
 cab:∀ x c,X.fn x=true->X.env.cells.lookup x=some c->X.s₀.heap.objs.size<=c
 hd:X.calm=true->X.A.handled=none
 frames:X.A.frames=some X.stack
 stk:X.stack=X.outer\/(X.stack=X.env::X.outer/\X.env.frame=some X.env.locals)
 exf:∀ b∈X.ex,b≠X.env.locals/\∀ x c,X.env.cells.lookup x=some c->c≠b
 bs:∀ b o,X.base.get? b=some o->X.s₀.heap.get? b=some o/\X.H₀ b=none
 bsz:X.base.objs.size<=X.s₀.heap.objs.size
 noex:∀ b o,X.base.get? b=some o->b∉X.ex
 exfs:∀ b∈X.ex,b∉X.fs
 funs:X.s₀.heap.FunFrames X.base X.outer
 frf:∀ b∈X.fs,X.H₀ b=none
structure Inv(X:Cx)(pins:List (Addr×Obj))(σ:List (Option V))(H:Hp)(s:Shared):Prop where
 ok:X.Ok
 os:s.os=X.s₀.os
 bare:AllBare s.gens
 base:Un X.fs X.ex X.H₀ H X.s₀.heap s.heap
 loc:∃ m,s.heap.Ns X.env.locals m/\∀ (i:Nat) (x:Str) (v:V),X.N[i]?=some x->σ[i]?=some (some v)->Vis X.env.scope x->∃ u,aJ v u/\Look X.env s.heap m x u
 cell:∀ x c,X.env.cells.lookup x=some c->∃ v,s.heap.IsCell c v
 free:H X.env.locals=none
 freeC:∀ x c,X.env.cells.lookup x=some c->H c=none
 pin:∀ p∈X.pn++pins,s.heap.get? p.1=some p.2/\H p.1=none/\p.1≠X.env.locals/\p.1∉X.fs/\∀ v,p.2.data≠.cell v
 hok:HOk X.prog X.w H s.heap
 len:σ.length=X.N.length
section
variable{X:Cx}{pins:List (Addr×Obj)}{σ:List (Option V)}{H H':Hp}{s:Shared}{h':Heap}
theorem Cx.Ok.nofr(ok:X.Ok)(e:X.base.get? b=some o):b∉X.fs:=fun hb=>by
 have:=(ok.funs.mem hb).1
 rw[e] at this; cases this
theorem Inv.bs(I:Inv X pins σ H s):∀ b o,X.base.get? b=some o->s.heap.get? b=some o/\H b=none:=fun b o e =>
 ⟨I.base.keep b o (I.ok.bs b o e).1 (I.ok.bs b o e).2 (I.ok.nofr e) (I.ok.noex b o e),I.base.free b o (I.ok.bs b o e).1 (I.ok.bs b o e).2 (I.ok.noex b o e)⟩
theorem Inv.bk(I:Inv X pins σ H s):∀ b o,X.base.get? b=some o->s.heap.get? b=some o:=fun b o e=>(I.bs b o e).1
theorem Inv.mod(I:Inv X pins σ H s):Mod X.K X.mg X.base:=I.ok.mod
theorem Inv.kIn(I:Inv X pins σ H s):X.K.In s.heap:=I.ok.mod.kin.keeps I.bk
theorem Inv.lt(I:Inv X pins σ H s):X.env.locals < s.heap.objs.size:=let ⟨_,hn,_⟩:=I.loc; hn.lt
theorem Inv.sz(I:Inv X pins σ H s):X.s₀.heap.objs.size<=s.heap.objs.size:=Nat.le_trans I.ok.above (Nat.le_of_lt I.lt)
theorem Inv.nofs(I:Inv X pins σ H s)(h:s.heap.objs.size<=a):a∉X.fs:=fun hb=>by
 obtain⟨_,o,ho,_⟩:=I.ok.funs.mem hb
 exact absurd (Nat.lt_of_lt_of_le (Heap.lt_size ho) (Nat.le_trans I.sz h)) (Nat.lt_irrefl _)
theorem Inv.cne(I:Inv X pins σ H s):∀ x c,X.env.cells.lookup x=some c->c≠X.env.locals:=fun x c e z=>by
 obtain⟨v,o,ho,hd⟩:=I.cell x c e
 obtain⟨m,⟨o',es,ep,ho',hd',_⟩,_⟩:=I.loc
 rw[z,ho'] at ho; cases ho; rw[hd'] at hd; cases hd
theorem Inv.funs(I:Inv X pins σ H s):s.heap.FunFrames X.base X.outer:=by
 have all:∀ (l:List Env),(∀ b∈frs l,b∈X.fs)->X.s₀.heap.FunFrames X.base l->s.heap.FunFrames X.base l:=by
  intro l
  induction l with
  | nil=>intro _ _; trivial
  | cons env r ih =>
   intro hs hl
   obtain⟨hk,⟨L,o,hf,hn,ho,hd⟩,hr⟩:=hl
   have hL:L∈X.fs:=hs L (by unfold frs; rw[List.filterMap_cons,hf]; exact List.mem_cons_self)
   obtain⟨sl,e⟩:=I.base.slot L o ho (I.ok.frf L hL) hL fun z=>I.ok.exfs L z hL
   exact⟨hk,⟨L,_,hf,hn,e,hd⟩,ih (fun b hb=>hs b (by unfold frs; rw[List.filterMap_cons,hf]; exact List.mem_cons_of_mem _ hb)) hr⟩
 exact all X.outer (fun _ hb=>hb) I.ok.funs
theorem Inv.stack(I:Inv X pins σ H s):s.heap.FunFrames X.base X.stack:=by
 rcases I.ok.stk with e | ⟨e,hf⟩
 ·rw[e]; exact I.funs
 ·rw[e]
  obtain⟨m,hn,_⟩:=I.loc
  refine .cons (by rw[I.ok.kind]; decide) hf hn ?_ I.funs
  exact Heap.get?_none_of_le (Nat.le_trans I.ok.bsz I.ok.above)
theorem Inv.stkSub(I:Inv X pins σ H s):∀ b∈frs X.stack,b∈X.env.locals::X.fs:=fun b hb=>by
 rcases I.ok.stk with e | ⟨e,hf⟩
 ·rw[e] at hb; exact List.mem_cons_of_mem _ hb
 ·rw[e] at hb
  unfold frs at hb
  rw[List.filterMap_cons,hf] at hb
  exact hb
theorem Inv.stkFree(I:Inv X pins σ H s):∀ b∈frs X.stack,H b=none:=fun b hb=>by
 rcases List.mem_cons.mp (I.stkSub b hb) with e | hb
 ·rw[e]; exact I.free
 ·obtain⟨_,o,ho,_⟩:=I.ok.funs.mem hb
  exact I.base.free b o ho (I.ok.frf b hb) fun z=>I.ok.exfs b z hb
theorem Inv.step{g':Array GenState}{t':Nat}{d':Drawn}{ch:List Addr}(I:Inv X pins σ H s)
  (hch:∀ b∈ch,(b∈X.ex\/X.s₀.heap.objs.size<=b)/\b≠X.env.locals/\(∀ x c,X.env.cells.lookup x=some c->c≠b)/\∀ p∈X.pn++pins,p.1≠b)
  (keep:∀ b o,b≠X.env.locals->b∉X.fs->b∉ch->s.heap.get? b=some o->H b=none->h'.get? b=some o)
  (slot:∀ b o,b≠X.env.locals->b∈X.fs->b∉ch->s.heap.get? b=some o->H b=none->∃ sl,h'.get? b=some { o with slots:=sl }) (free:∀ b o,b∉ch->s.heap.get? b=some o->H b=none->H' b=none)
  (there:∀ b o,b∉ch->s.heap.get? b=some o->∃ o',h'.get? b=some o')
  (tups:∀ b xs,H b=some (.tup xs)->H' b=some (.tup xs)) (frzs:∀ b o u,H b=some (.frz o u)->H' b=some (.frz o u)) (tbls:∀ b ps,H b=some (.tbl ps)->∃ more,H' b=some (.tbl (ps++more)))
  (ns:∀ m,s.heap.Ns X.env.locals m->h'.Ns X.env.locals m) (hok:HOk X.prog X.w H' h') (hg:AllBare g') :
  Inv X pins σ H' { s with heap:=h',gens:=g',drawn:=d',toks:=t' }:=by
 have neL:∀ b o,X.s₀.heap.get? b=some o->b≠X.env.locals:=fun b o e=>Nat.ne_of_lt (Nat.lt_of_lt_of_le (Heap.lt_size e) I.ok.above)
 have neC:∀ b o,X.s₀.heap.get? b=some o->b∉X.ex->b∉ch:=fun b o e hx hb=>by
  rcases(hch b hb).1 with z | z
  ·exact hx z
  ·exact absurd (Nat.lt_of_lt_of_le (Heap.lt_size e) z) (Nat.lt_irrefl _)
 have cellK:∀ x c,X.env.cells.lookup x=some c->∀ v,s.heap.IsCell c v->h'.IsCell c v:=fun x c e v ⟨o,ho,hd⟩=>by
  have nch:c∉ch:=fun z=>(hch c z).2.2.1 x c e rfl
  by_cases hc:c∈X.fs
  ·obtain⟨sl,q⟩:=slot c o (I.cne x c e) hc nch ho (I.freeC x c e)
   exact⟨_,q,hd⟩
  ·exact⟨o,keep c o (I.cne x c e) hc nch ho (I.freeC x c e),hd⟩
 refine⟨I.ok,I.os,hg,⟨fun b o e n hb hx=>?_,fun b o e n hb hx=>?_,fun b o e n hx=>?_,fun b o e hx=>?_,fun b xs e=>tups b xs (I.base.tups b xs e),fun b o xs e=>frzs b o xs (I.base.frzs b o xs e),fun b ps e=>?_⟩,?_,fun x c e=>?_,?_,fun x c e=>?_,fun p hp=>?_,hok,I.len⟩
 ·exact keep b o (neL b o e) hb (neC b o e hx) (I.base.keep b o e n hb hx) (I.base.free b o e n hx)
 ·obtain⟨sl,e1⟩:=I.base.slot b o e n hb hx
  obtain⟨sl',e2⟩:=slot b _ (neL b o e) hb (neC b o e hx) e1 (I.base.free b o e n hx)
  exact⟨sl',e2⟩
 ·obtain⟨o',e1⟩:=I.base.there b o e hx
  exact free b o' (neC b o e hx) e1 (I.base.free b o e n hx)
 ·obtain⟨o',e1⟩:=I.base.there b o e hx
  exact there b o' (neC b o e hx) e1
 ·obtain⟨m1,e1⟩:=I.base.tbls b ps e
  obtain⟨m2,e2⟩:=tbls b _ e1
  exact⟨m1++m2,by rw[e2,Array.append_assoc]⟩
 ·obtain⟨m,hn,hl⟩:=I.loc
  refine⟨m,ns m hn,fun i x v e1 e2 e3=>?_⟩
  obtain⟨u,r,l⟩:=hl i x v e1 e2 e3
  refine⟨u,r,?_⟩
  rcases l with l | ⟨k,c,e,z⟩
  ·exact .inl l
  ·exact .inr ⟨k,c,e,cellK x c e _ z⟩
 ·obtain⟨v,z⟩:=I.cell x c e
  exact⟨v,cellK x c e v z⟩
 ·obtain⟨m,⟨o,_,_,ho,_⟩,_⟩:=I.loc
  exact free _ o (fun z=>(hch _ z).2.1 rfl) ho I.free
 ·obtain⟨v,o,ho,hd⟩:=I.cell x c e
  exact free c o (fun z=>(hch c z).2.2.1 x c e rfl) ho (I.freeC x c e)
 ·obtain⟨e,n,ne,nf,d⟩:=I.pin p hp
  have nch:p.1∉ch:=fun z=>(hch p.1 z).2.2.2 p hp rfl
  exact⟨keep p.1 p.2 ne nf nch e n,free p.1 p.2 nch e n,ne,nf,d⟩
theorem Inv.un{t':Nat}(I:Inv X pins σ H s)(u:Un X.fs [] H H' s.heap h')(hok:HOk X.prog X.w H' h'):Inv X pins σ H' { s with heap:=h',toks:=t' }:=by
 obtain⟨m,⟨o,es,ep,ho,r⟩,_⟩:=id I.loc
 obtain⟨sl,hL⟩:=u.any ho I.free (by simp)
 exact I.step (g':=s.gens) (d':=s.drawn) (ch:=[]) (fun _ z=>nomatch z) (fun b o _ hb _ e n=>u.keep b o e n hb (by simp)) (fun b o _ hb _ e n=>u.slot b o e n hb (by simp)) (fun b o _ e n=>u.free b o e n (by simp)) (fun b o _ e=>u.there b o e (by simp)) u.tups u.frzs u.tbls (fun m' hm=>by
  obtain⟨o',es',ep',ho',r'⟩:=hm
  rw[ho] at ho'; cases ho'
  exact⟨_,es',ep',hL,r'⟩) hok I.bare
theorem Inv.call{g':Array GenState}{t':Nat}{d':Drawn}{ch:List Addr}(I:Inv X pins σ H s)(u:Un (frs X.stack) ch H H' s.heap h')(hok:HOk X.prog X.w H' h')(hg:AllBare g')
  (hch:∀ b∈ch,(b∈X.ex\/X.s₀.heap.objs.size<=b)/\b≠X.env.locals/\(∀ x c,X.env.cells.lookup x=some c->c≠b)/\∀ p∈X.pn++pins,p.1≠b) :
  Inv X pins σ H' { s with heap:=h',gens:=g',drawn:=d',toks:=t' }:=by
 obtain⟨m,⟨o,es,ep,ho,r⟩,_⟩:=id I.loc
 obtain⟨sl,hL⟩:=u.any ho I.free fun z=>(hch _ z).2.1 rfl
 exact I.step (ch:=ch) hch (fun b o hL hb hc e n=>u.keep b o e n (fun z=>(List.mem_cons.mp (I.stkSub b z)).elim hL hb) hc) (fun b o _ _ hc e n=>u.any e n hc) (fun b o hc e n=>u.free b o e n hc) (fun b o hc e=>u.there b o e hc) u.tups u.frzs u.tbls (fun m' hm=>by
  obtain⟨o',es',ep',ho',r'⟩:=hm
  rw[ho] at ho'; cases ho'
  exact⟨_,es',ep',hL,r'⟩) hok hg
theorem Inv.turned{t':Nat}{it:Addr}(I:Inv X pins σ H s)(k:∀ b o,b≠it->s.heap.get? b=some o->h'.get? b=some o)(hn:H it=none)(hL:it≠X.env.locals)
  (h1:it∈X.ex\/X.s₀.heap.objs.size<=it) (h2:∀ x c,X.env.cells.lookup x=some c->c≠it) (h3:∀ p∈X.pn++pins,p.1≠it):Inv X pins σ H { s with heap:=h',toks:=t' }:=by
 have nit:∀ b u,H b=some u->b≠it:=fun b u e z=>by rw[z,hn] at e; cases e
 refine I.step (g':=s.gens) (d':=s.drawn) (ch:=[it]) (fun b hb=>?_) (fun b o _ _ hc e _=>k b o (fun z=>hc (by simp[z])) e) (fun b o _ _ hc e _=>⟨o.slots,k b o (fun z=>hc (by simp[z])) e⟩) (fun _ _ _ _ n=>n)
  (fun b o hc e=>⟨o,k b o (fun z=>hc (by simp[z])) e⟩) (fun _ _ e=>e) (fun _ _ _ e=>e) (fun b ps e=>⟨#[],by rw[e]; simp⟩) (fun m hm=>?_) (fun b u e=>?_) I.bare
 ·have e:b=it:=by simpa using hb
  subst e
  exact⟨h1,hL,h2,h3⟩
 ·obtain⟨o,es,ep,ho,r⟩:=hm
  exact⟨o,es,ep,k _ o (Ne.symm hL) ho,r⟩
 ·refine(I.hok b u e).stay (fun c v hc q=>k c v ?_ q) (fun _ q=>q) fun _ _ q=>q
  rcases hc with z | z
  ·rw[z]; exact nit b u e
  ·exact nit c _ z
theorem Inv.tok(I:Inv X pins σ H s)(t:Nat):Inv X pins σ H { s with toks:=t }:=I.un (h':=s.heap) (t':=t) Un.refl I.hok
theorem Inv.kept(I:Inv X pins σ H s)(k:∀ b u,s.heap.get? b=some u->h'.get? b=some u):Inv X pins σ H { s with heap:=h',toks:=t' }:=I.un (Un.kept k) (I.hok.kept k)
theorem Inv.laid(I:Inv X pins σ H s)(k:∀ b u,s.heap.get? b=some u->h'.get? b=some u)(hp:s.heap.objs.size<=a)(new:bW X.prog X.w (upd H a o) h' a o) :
  Inv X pins σ (upd H a o) { s with heap:=h',toks:=t' }:=I.un (Un.laid k hp (I.hok.fresh hp)) (I.hok.laid k hp new)
theorem Inv.write(I:Inv X pins σ H s)(mu:Mut (H x))(he:e=x\/H e=some (.own x))(k:∀ b u,b≠e->s.heap.get? b=some u->h'.get? b=some u)(heo:∃ u,h'.get? e=some u)
  (new:bW X.prog X.w (upd H x o) h' x o):Inv X pins σ (upd H x o) { s with heap:=h',toks:=t' }:=I.un (Un.write mu he k heo) (I.hok.write mu he k heo new)
theorem Inv.pins_of(I:Inv X pins σ H s)(h:∀ p∈pins',s.heap.get? p.1=some p.2/\H p.1=none/\p.1≠X.env.locals/\p.1∉X.fs/\∀ v,p.2.data≠.cell v):Inv X pins' σ H s :=
 ⟨I.ok,I.os,I.bare,I.base,I.loc,I.cell,I.free,I.freeC,fun p hp=>(List.mem_append.mp hp).elim (fun z=>I.pin p (List.mem_append_left _ z)) (h p),I.hok,I.len⟩
theorem qR{N:List Str}(hN:N.Nodup){i j:Nat}{x:Str}(a:N[i]?=some x)(b:N[j]?=some x):i=j:=by
 obtain⟨h1,e1⟩:=List.getElem?_eq_some_iff.mp a
 obtain⟨h2,e2⟩:=List.getElem?_eq_some_iff.mp b
 exact(List.getElem_inj hN).mp (e1.trans e2.symm)
theorem uC{M:Model}{A:Around}{E:Value->Shared->Prop}{i:Nat}{x:Str}{v:V}{u:Value}{Q:Unit->Shared->Prop}(I:Inv X pins σ H s)(hN:X.N.Nodup)(hi:X.N[i]?=some x)(hx:Loc X.env.scope x)(r:aJ v u)
  (h:∀ s',Inv X pins (σ.set i (some v)) H s'->(∃ a,Heap.SameBut a s.heap s'.heap/\(a=X.env.locals\/X.env.cells.lookup x=some a))->Q () s') (hf:X.fn x=true\/X.env.scope.names.lookup x=some .local:=by first | exact .inl rfl | exact .inr rfl | assumption):wpAny M A (storeName X.env x u) Q E s:=by
 obtain⟨m,hn,hl⟩:=id I.loc
 have hcls:(X.env.scope.kind==.class||(X.env.scope.kind==.module&&X.env.locals != X.env.globals))=false:=by rw[I.ok.kind]; rfl
 have hiσ:i < σ.length:=by rw[I.len]; exact(List.getElem?_eq_some_iff.mp hi).1
 have cne:=I.cne
 have tracked:∀ {a:Addr}{h':Heap},(∃ o,s.heap.get? a=some o/\H a=none)->Heap.SameBut a s.heap h'->HOk X.prog X.w H h':=fun {a h'} ha hs b ob e=>by
  obtain⟨_,_,hfree⟩:=ha
  refine(I.hok b ob e).stay (fun c w' hc q=>(hs.2 c ?_).trans q) (fun _ q=>q) fun _ _ q=>q
  rintro rfl
  rcases hc with rfl | hc
  ·rw[hfree] at e; cases e
  ·rw[hfree] at hc; cases hc
 rcases hx with hk | hk
 ·refine wpAny_storeName_local hk hn (fun h' hn' hs=>?_) hcls
  obtain⟨oL,_,_,hoL,_⟩:=id hn
  refine h _ ⟨I.ok,I.os,I.bare,⟨fun b o e n hb hx=>?_,fun b o e n hb hx=>?_,I.base.free,fun b o e hx=>?_,I.base.tups,I.base.frzs,I.base.tbls⟩,⟨_,hn',fun j y v' e1 e2 e3=>?_⟩,fun y c e=>?_,I.free,I.freeC,fun p hp=>?_,tracked ⟨oL,hoL,I.free⟩ hs,by simpa using I.len⟩ ⟨_,hs,.inl rfl⟩
  ·exact(hs.2 b (Nat.ne_of_lt (Nat.lt_of_lt_of_le (Heap.lt_size e) I.ok.above))).trans (I.base.keep b o e n hb hx)
  ·obtain⟨sl,e1⟩:=I.base.slot b o e n hb hx
   exact⟨sl,(hs.2 b (Nat.ne_of_lt (Nat.lt_of_lt_of_le (Heap.lt_size e) I.ok.above))).trans e1⟩
  ·obtain⟨o',e1⟩:=I.base.there b o e hx
   exact⟨o',(hs.2 b (Nat.ne_of_lt (Nat.lt_of_lt_of_le (Heap.lt_size e) I.ok.above))).trans e1⟩
  ·by_cases hj:j=i
   ·subst hj
    rw[hi] at e1; cases e1
    rw[List.getElem?_set_self hiσ] at e2
    cases e2
    exact⟨u,r,.inl ⟨hk,by simp⟩⟩
   ·rw[List.getElem?_set_ne (Ne.symm hj)] at e2
    obtain⟨u',r',q⟩:=hl j y v' e1 e2 e3
    refine⟨u',r',?_⟩
    rcases q with ⟨k,e⟩ | ⟨k,c,e,z⟩
    ·refine .inl ⟨k,?_⟩
     have:y≠x:=fun e=>hj (qR hN e1 (e ▸ hi))
     simp[this,e]
    ·exact .inr ⟨k,c,e,z.sameBut hs (cne y c e)⟩
  ·obtain⟨w',z⟩:=I.cell y c e
   exact⟨w',z.sameBut hs (cne y c e)⟩
  ·obtain⟨e,n,ne,nf,d⟩:=I.pin p hp
   exact⟨(hs.2 p.1 ne).trans e,n,ne,nf,d⟩
 ·have hfn:X.fn x=true:=by
   rcases hf with z | z
   ·exact z
   ·rw[z] at hk; cases hk
  obtain⟨c,hc⟩:=I.ok.has x (.inl hk)
  obtain⟨w',z⟩:=I.cell x c hc
  refine wpAny_storeName_cell I.ok.kind hk hc z (fun h' hc' hs=>?_)
  obtain⟨oc,hoc,hocd⟩:=id z
  refine h { s with heap:=h' } ⟨I.ok,I.os,I.bare,⟨fun b o e n hb hx=>?_,fun b o e n hb hx=>?_,I.base.free,fun b o e hx=>?_,I.base.tups,I.base.frzs,I.base.tbls⟩,⟨m,hn.sameBut hs (Ne.symm (cne x c hc)),fun j y v' e1 e2 e3=>?_⟩,fun y c' e=>?_,I.free,I.freeC,fun p hp=>?_,tracked ⟨oc,hoc,I.freeC x c hc⟩ hs,by simpa using I.len⟩ ⟨c,hs,.inr hc⟩
  ·exact(hs.2 b (Nat.ne_of_lt (Nat.lt_of_lt_of_le (Heap.lt_size e) (I.ok.cab x c hfn hc)))).trans (I.base.keep b o e n hb hx)
  ·obtain⟨sl,e1⟩:=I.base.slot b o e n hb hx
   exact⟨sl,(hs.2 b (Nat.ne_of_lt (Nat.lt_of_lt_of_le (Heap.lt_size e) (I.ok.cab x c hfn hc)))).trans e1⟩
  ·obtain⟨o',e1⟩:=I.base.there b o e hx
   exact⟨o',(hs.2 b (Nat.ne_of_lt (Nat.lt_of_lt_of_le (Heap.lt_size e) (I.ok.cab x c hfn hc)))).trans e1⟩
  ·by_cases hj:j=i
   ·subst hj
    rw[hi] at e1; cases e1
    rw[List.getElem?_set_self hiσ] at e2
    cases e2
    exact⟨u,r,.inr ⟨.inl hk,c,hc,hc'⟩⟩
   ·rw[List.getElem?_set_ne (Ne.symm hj)] at e2
    obtain⟨u',r',q⟩:=hl j y v' e1 e2 e3
    refine⟨u',r',?_⟩
    rcases q with q | ⟨k,c',e,z'⟩
    ·exact .inl q
    ·refine .inr ⟨k,c',e,z'.sameBut hs ?_⟩
     rintro rfl
     exact hj (qR hN e1 (I.ok.inj _ _ _ e hc ▸ hi))
  ·by_cases hcc:c'=c
   ·subst hcc; exact⟨_,hc'⟩
   ·obtain⟨w2,z2⟩:=I.cell y c' e
    exact⟨w2,z2.sameBut hs hcc⟩
  ·obtain⟨e,n,ne,nf,d⟩:=I.pin p hp
   refine⟨(hs.2 p.1 ?_).trans e,n,ne,nf,d⟩
   intro q
   rw[q,hoc] at e
   have q':oc=p.2:=Option.some.inj e
   exact d w' (by rw[← q']; exact hocd)
theorem qI(I:Inv X pins σ H s)(hN:X.N.Nodup)(hi:X.N[i]?=some x)(hx:Loc X.env.scope x)(r:aJ v u)
  (h:∀ s',Inv X pins (σ.set i (some v)) H s'->Q () s') (hf:X.fn x=true\/X.env.scope.names.lookup x=some .local:=by first | exact .inl rfl | exact .inr rfl | assumption):wpAny M A (storeName X.env x u) Q E s :=
 uC I hN hi hx r (fun s' I' _=>h s' I') hf
theorem Inv.call'(I:Inv X pins σ H s)(ho:s'.os=s.os)(u:Un (frs X.stack) ch H H' s.heap s'.heap)(hok:HOk X.prog X.w H' s'.heap)(hg:AllBare s'.gens)
  (hch:∀ b∈ch,(b∈X.ex\/X.s₀.heap.objs.size<=b)/\b≠X.env.locals/\(∀ x c,X.env.cells.lookup x=some c->c≠b)/\∀ p∈X.pn++pins,p.1≠b):Inv X pins σ H' s':=by
 obtain⟨h',g',d',t',o'⟩:=s'
 have e:o'=s.os:=ho
 subst e
 exact I.call (g':=g') (t':=t') (d':=d') u hok hg hch
end
abbrev XK:=Value->Option Addr->Hp->Prop
abbrev St:=List (Option V)
abbrev VK:=V->Hp->Prop
abbrev TE:=St->Hp->VK->Prop
abbrev TT:=St->Hp->(Bool->Hp->Prop)->Prop
abbrev TA:=St->Hp->(List V->Hp->Prop)->Prop
structure Ends where
 nx:St->Hp->Prop
 rt:VK
 bk:St->Hp->Prop:=fun _ _=>False
 ct:St->Hp->Prop:=fun _ _=>False
abbrev TS:=Ends->St->Hp->Prop
inductive EP(X:Cx)(pins:List (Addr×Obj))(σ:St)(Q:VK)(u:Value)(s':Shared):Prop
 | mk (v:_) (H':_) (f0:Inv X pins σ H' s') (f1:aJ v u) (f2:Q v H')
inductive TP(X:Cx)(pins:List (Addr×Obj))(σ:St)(Q:Bool->Hp->Prop)(b:Bool)(s':Shared):Prop
 | mk (H':_) (f0:Inv X pins σ H' s') (f1:Q b H')
inductive AP(X:Cx)(pins:List (Addr×Obj))(σ:St)(Q:List V->Hp->Prop)(us:List Value)(s':Shared):Prop
 | mk (vs:_) (H':_) (f0:Inv X pins σ H' s') (f1:ar vs us) (f2:Q vs H')
def SP(X:Cx)(pins:List (Addr×Obj))(D:Ends)(f:Flow)(s':Shared):Prop :=
 match f with
 | .next=>∃ σ' H',Inv X pins σ' H' s'/\D.nx σ' H'
 | .brk=>∃ σ' H',Inv X pins σ' H' s'/\D.bk σ' H'
 | .cont=>∃ σ' H',Inv X pins σ' H' s'/\D.ct σ' H'
 | .ret u=>∃ v σ' H',Inv X pins σ' H' s'/\aJ v u/\D.rt v H'
def PE(X:Cx)(e:Expr)(t:TE):Prop :=
 ∀ (pins:List (Addr×Obj)) (s:Shared) (σ:St) (H:Hp) (Q:VK),Inv X pins σ H s->t σ H Q->wpAny (model X.prog X.w) X.A (eval e X.env) (EP X pins σ Q) X.xe s
def PT(X:Cx)(e:Expr)(t:TT):Prop :=
 ∀ (pins:List (Addr×Obj)) (s:Shared) (σ:St) (H:Hp) (Q:Bool->Hp->Prop),Inv X pins σ H s->t σ H Q->wpAny (model X.prog X.w) X.A (isTrue e X.env (eval e X.env)) (TP X pins σ Q) X.xe s
def PW(X:Cx)(e:Expr)(t:TT):Prop :=
 ∀ (whole:Sem Value) (pins:List (Addr×Obj)) (s:Shared) (σ:St) (H:Hp) (Q:Bool->Hp->Prop),Inv X pins σ H s->t σ H Q->wpAny (model X.prog X.w) X.A (isTrue e X.env whole) (TP X pins σ Q) X.xe s
theorem PW.pt(h:PW X e t):PT X e t:=h _
def PA(X:Cx)(es:List Expr)(t:TA):Prop :=
 ∀ (pos:Pos) (pins:List (Addr×Obj)) (s:Shared) (σ:St) (H:Hp) (Q:List V->Hp->Prop),Inv X pins σ H s->t σ H Q->wpAny (model X.prog X.w) X.A (spliced (backTo pos (starEach es X.env))) (AP X pins σ Q) X.xe s
def PS(X:Cx)(st:Stmt)(t:TS):Prop :=
 ∀ (pins:List (Addr×Obj)) (s:Shared) (σ:St) (H:Hp) (D:Ends),Inv X pins σ H s->t D σ H->wpAny (model X.prog X.w) X.A (exec st X.env) (SP X pins D) X.xe s
def PSs(X:Cx)(st:List Stmt)(t:TS):Prop :=
 ∀ (pins:List (Addr×Obj)) (s:Shared) (σ:St) (H:Hp) (D:Ends),Inv X pins σ H s->t D σ H->wpAny (model X.prog X.w) X.A (execs st X.env) (SP X pins D) X.xe s
theorem thn{α:Type}{t:Sem α}{Q Q':α->Shared->Prop}{M:Model}{A:Around}{E:Value->Shared->Prop}{s:Shared}(h:wpAny M A t Q E s)(hQ:∀ a s,Q a s->Q' a s):wpAny M A t Q' E s:=wpAny_mono h hQ fun _ _ x=>x
end L2
namespace L2
open PySem PySem.Spec PyProof.Rows
section
variable{X:Cx}
def tVar(i:Nat):TE:=fun σ H Q=>∃ v,σ[i]?=some (some v)/\Q v H
def tC(v:V):TE:=fun _ H Q=>Q v H
theorem yV(hN:X.N[i]?=some x)(hv:Vis X.env.scope x)(hd:(x==("__debug__":Str))=false:=by decide)(hcd:(x==("__classdict__":Str))=false:=by decide):PE X (.Name x pos) (tVar i):=by
 intro pins s σ H Q I h
 obtain⟨v,e,h⟩:=h
 obtain⟨m,hn,hl⟩:=I.loc
 obtain⟨u,r,l⟩:=hl i x v hN e hv
 have fin:EP X pins σ Q u s:=⟨v,H,I,r,h⟩
 rcases l with ⟨hk,hm⟩ | ⟨hk,c,hc,hcell⟩
 ·exact wpAny_Name (wpAny_loadName_local I.ok.kind hk hn hm fin) hd
 ·rcases hk with hk | hk
  ·exact wpAny_Name (wpAny_loadName_cell I.ok.kind hk hc hcell fin) hd
  ·exact wpAny_Name (wpAny_loadName_free I.ok.kind hk hc hcell fin hcd) hd
theorem Da{i j pos}:PE X (.Constant (.int i) j pos) (tC (.int i)):=fun _ _ _ H _ I h=>wpAny_Constant_int ⟨.int i,H,I.tok _,⟨_,rfl⟩,h⟩
theorem pe_bl{b j pos}:PE X (.Constant (.bool b) j pos) (tC (.bl b)):=fun _ _ _ H _ I h=>Constant_bool ⟨.bl b,H,I,rfl,h⟩
theorem CY{j pos}:PE X (.Constant .none j pos) (tC .non):=fun _ _ _ H _ I h=>Constant_none ⟨.non,H,I,rfl,h⟩
theorem CV{x j pos}:PE X (.Constant (.str x) j pos) (tC (.str x)):=fun _ _ _ H _ I h=>Calls.Constant_str ⟨.str x,H,I.tok _,⟨_,rfl⟩,h⟩
def Gl(X:Cx)(x:Str):Prop:=X.env.kindOf x=some .globalImplicit
theorem Ba(I:Inv X pins σ H s)(hg:Gl X x)(hm:X.mg x=some u)(h:Q u s)
  (hd:(x==("__debug__":Str))=false:=by decide):wpAny (model X.prog X.w) X.A (eval (.Name x pos) X.env) Q E s :=
 Calls.Name_function_global I.ok.kind hg (Calls.loadGlobal_global (by rw[I.ok.glob]; exact I.mod.glob.keeps I.bk) hm h) hd
theorem fX(I:Inv X pins σ H s)(hg:Gl X x)(hm:X.mg x=none)(hv:bootBuiltins x=some u)(h:Q u s)
  (hn:x≠"__name__":=by decide) (hd:(x==("__debug__":Str))=false:=by decide):wpAny (model X.prog X.w) X.A (eval (.Name x pos) X.env) Q E s:=by
 obtain⟨mb,h1,h2⟩:=I.mod.blt
 exact Calls.Name_function_global I.ok.kind hg (Calls.loadGlobal_builtin (by rw[I.ok.glob]; exact I.mod.glob.keeps I.bk) hm (by rw[I.ok.blt]; exact h1.keeps I.bk) ((h2 x hn).trans hv) h) hd
theorem Ay(hg:Gl X x)(hm:X.mg x=none)(hv:bootBuiltins x=some u)(r:aJ v u)(hn:x≠"__name__":=by decide)(hd:(x==("__debug__":Str))=false:=by decide):PE X (.Name x pos) (tC v) :=
 fun _ _ _ H _ I h=>fX I hg hm hv ⟨v,H,I,r,h⟩ hn hd
variable{a b:Expr}{ta tb:TE}{pos:Pos}
theorem aJ.none_iff(r:aJ x v):(v==Value.none)=decide (x=.non):=by
 cases x with
 | non=>cases r; rfl
 | bl _=>cases r; rfl
 | int _=>obtain⟨t,rfl⟩:=r; rfl
 | str _=>obtain⟨t,rfl⟩:=r; rfl
 | byt _=>obtain⟨t,rfl⟩:=r; rfl
 | flt _=>obtain⟨t,rfl⟩:=r; rfl
 | ref _=>cases r; rfl
 | ty _=>cases r; rfl
def tB(t:TE):TT:=fun σ H Q=>t σ H fun x H1=>∃ c,x=.bl c/\Q c H1
theorem CL(h:PE X e t)(he:∀ whole,isTrue e X.env whole=(do let v ← whole; standAt e.pos; holding [v] (truthy v)):=by intro _; rfl):PT X e (tB t):=by
 intro pins s σ H Q I hw
 refine isTrue_plain (thn (h pins s σ H _ I hw) fun v s1 ⟨x,H1,I1,r1,q1⟩=>?_) (he _)
 obtain⟨d,rfl,q⟩:=q1
 cases r1
 exact wpAny_truthy_bool ⟨H1,I1,q⟩
variable{tA tB':TT}{aN:List Expr}
def tAnd(t u:TT):TT:=fun σ H Q=>t σ H fun c H1=>if c=true then u σ H1 Q else Q false H1
def tOr(t u:TT):TT:=fun σ H Q=>t σ H fun c H1=>if c=true then Q true H1 else u σ H1 Q
def tNot(t:TT):TT:=fun σ H Q=>t σ H fun c H1=>Q (!c) H1
theorem Aj(ha:PT X a tA):PW X (.BoolOp .And [a] pos) tA:=by
 intro wh pins s σ H Q I h
 refine isTrue_and (thn (ha pins s σ H Q I h) fun c s1 e=>?_)
 cases c with
 | true=>exact isTrue_and_nil e
 | false=>exact e
theorem CI(ha:PT X a tA):PW X (.BoolOp .Or [a] pos) tA:=by
 intro wh pins s σ H Q I h
 refine isTrue_or (thn (ha pins s σ H Q I h) fun c s1 e=>?_)
 cases c with
 | false=>exact isTrue_or_nil e
 | true=>exact e
theorem CJ(ha:PT X a tA)(hb:PW X (.BoolOp .And (b::aN) pos) tB'):PW X (.BoolOp .And (a::b::aN) pos) (tAnd tA tB'):=by
 intro wh pins s σ H Q I h
 refine isTrue_and (thn (ha pins s σ H _ I h) fun c s1 ⟨H1,I1,q1⟩=>?_)
 cases c with
 | true=>exact hb wh pins s1 σ H1 Q I1 q1
 | false=>exact⟨H1,I1,q1⟩
theorem pw_or(ha:PT X a tA)(hb:PW X (.BoolOp .Or (b::aN) pos) tB'):PW X (.BoolOp .Or (a::b::aN) pos) (tOr tA tB'):=by
 intro wh pins s σ H Q I h
 refine isTrue_or (thn (ha pins s σ H _ I h) fun c s1 ⟨H1,I1,q1⟩=>?_)
 cases c with
 | true=>exact⟨H1,I1,q1⟩
 | false=>exact hb wh pins s1 σ H1 Q I1 q1
theorem CM(ha:PT X a tA):PT X (.UnaryOp .Not a pos) (tNot tA):=by
 intro pins s σ H Q I h
 exact isTrue_not (thn (ha pins s σ H (fun c H1=>Q (!c) H1) I h) fun c s1 ⟨H1,I1,q1⟩=>⟨H1,I1,q1⟩)
def tAndV(ta tb:TE):TE:=fun σ H Q=>ta σ H fun x H1=>∃ c,x=.bl c/\if c=true then tb σ H1 Q else Q (.bl false) H1
def tOrV(ta tb:TE):TE:=fun σ H Q=>ta σ H fun x H1=>∃ c,x=.bl c/\if c=true then Q (.bl true) H1 else tb σ H1 Q
theorem CW{op}(h:PE X a t):PE X (.BoolOp op [a] pos) t:=fun pins s σ H Q I hw=>BoolOp_one (h pins s σ H Q I hw)
theorem Db(ha:PE X a ta)(hb:PE X (.BoolOp .And (b::aN) pos) tb):PE X (.BoolOp .And (a::b::aN) pos) (tAndV ta tb):=by
 intro pins s σ H Q I h
 refine BoolOp_and (thn (ha pins s σ H _ I h) fun v s1 ⟨x,H1,I1,r1,q1⟩=>?_)
 obtain⟨c,rfl,q1⟩:=q1
 cases r1
 refine wpAny_truthy_bool ?_
 cases c with
 | true=>exact hb pins s1 σ H1 Q I1 q1
 | false=>exact⟨.bl false,H1,I1,rfl,q1⟩
theorem pe_or(ha:PE X a ta)(hb:PE X (.BoolOp .Or (b::aN) pos) tb):PE X (.BoolOp .Or (a::b::aN) pos) (tOrV ta tb):=by
 intro pins s σ H Q I h
 refine BoolOp_or (thn (ha pins s σ H _ I h) fun v s1 ⟨x,H1,I1,r1,q1⟩=>?_)
 obtain⟨c,rfl,q1⟩:=q1
 cases r1
 refine wpAny_truthy_bool ?_
 cases c with
 | false=>exact hb pins s1 σ H1 Q I1 q1
 | true=>exact⟨.bl true,H1,I1,rfl,q1⟩
end
end L2
namespace L2
open PySem PySem.Spec PyProof.Rows
def SqL(K:PySem.W.Frag)(H:Hp)(a:Addr)(xs:List V):Prop :=
 Rd H a (.lst xs) \/
  ∃ (o:Obj) (its:Array Value) (n:Nat),K.lookup a=some o/\o.cls=.type "list"/\o.dict=none/\o.data=.seq its n/\its.size<=sizeLine/\ar xs its.toList
def SqT(K:PySem.W.Frag)(H:Hp)(a:Addr)(xs:List V):Prop :=
 Rd H a (.tup xs) \/
  ∃ (o:Obj) (its:Array Value) (n:Nat),K.lookup a=some o/\o.cls=.type "tuple"/\o.dict=none/\o.data=.seq its n/\its.size<=sizeLine/\ar xs its.toList
def absV:Value->Option V
 | .none=>some .non
 | .bool b=>some (.bl b)
 | .int i _=>some (.int i)
 | .str x _=>some (.str x)
 | .bytes b _=>some (.byt b)
 | .float b _=>some (.flt b)
 | .ref a=>some (.ref a)
 | .type n=>some (.ty n)
 | _=>none
theorem aJ.abs(r:aJ x u):absV u=some x:=by
 cases x with
 | non=>cases r; rfl
 | bl _=>cases r; rfl
 | int _=>obtain⟨t,rfl⟩:=r; rfl
 | str _=>obtain⟨t,rfl⟩:=r; rfl
 | byt _=>obtain⟨t,rfl⟩:=r; rfl
 | flt _=>obtain⟨t,rfl⟩:=r; rfl
 | ref _=>cases r; rfl
 | ty _=>cases r; rfl
theorem aJ.inj(r:aJ x u)(q:aJ y u):x=y:=Option.some.inj (r.abs.symm.trans q.abs)
theorem ar.inj:∀ {xs ys:List V}{us:List Value},ar xs us->ar ys us->xs=ys
 | _,_,_,.nil,.nil=>rfl
 | _,_,_,.cons r t,.cons r' t'=>by rw[r.inj r',ar.inj t t']
section
variable{X:Cx}{pins:List (Addr×Obj)}{σ:St}{H:Hp}{s:Shared}{a:Addr}{xs ys:List V}
theorem SqT.of{K:PySem.W.Frag}(h:H a=some (.tup xs)):SqT K H a xs:=.inl (.inl h)
theorem Inv.list(I:Inv X pins σ H s)(h:SqL X.K H a xs):∃ its:List Value,ar xs its/\PlainL s.heap a its.toArray/\xs.length<=sizeLine:=by
 rcases h with h | ⟨o,its,n,hk,hc,hd,hs,hz,r⟩
 ·obtain⟨z,its,n,r,e⟩:=h.ok I.hok
  exact⟨its,r,⟨_,n,e,rfl,rfl,rfl⟩,z⟩
 ·refine⟨its.toList,r,⟨o,n,I.kIn a o hk,hc,hd,by simpa using hs⟩,?_⟩
  have e:=r.length
  simp only[Array.length_toList] at e
  lia
theorem Inv.tuple(I:Inv X pins σ H s)(h:SqT X.K H a xs):∃ its:List Value,ar xs its/\IsTup s.heap a its.toArray/\xs.length<=sizeLine:=by
 rcases h with h | ⟨o,its,n,hk,hc,_,hs,hz,r⟩
 ·obtain⟨z,its,r,p⟩:=h.ok I.hok
  exact⟨its,r,p.tup,z⟩
 ·refine⟨its.toList,r,⟨o,I.kIn a o hk,hc,n,by simpa using hs⟩,?_⟩
  have e:=r.length
  simp only[Array.length_toList] at e
  lia
theorem Inv.list_inj(I:Inv X pins σ H s)(h:SqL X.K H a xs)(h':SqL X.K H a ys):xs=ys:=by
 obtain⟨its,r,⟨o,n,e,_,_,d⟩,_⟩:=I.list h
 obtain⟨its',r',⟨o',n',e',_,_,d'⟩,_⟩:=I.list h'
 rw[e] at e'; cases e'
 rw[d] at d'
 injection d' with d1 _
 have:its=its':=by simpa using congrArg Array.toList d1
 subst this
 exact r.inj r'
theorem Inv.tuple_inj(I:Inv X pins σ H s)(h:SqT X.K H a xs)(h':SqT X.K H a ys):xs=ys:=by
 obtain⟨its,r,⟨o,e,_,n,d⟩,_⟩:=I.tuple h
 obtain⟨its',r',⟨o',e',_,n',d'⟩,_⟩:=I.tuple h'
 rw[e] at e'; cases e'
 rw[d] at d'
 injection d' with d1 _
 have:its=its':=by simpa using congrArg Array.toList d1
 subst this
 exact r.inj r'
end
abbrev Cx.wish(X:Cx)(E:Value->Shared->Prop):Cx:={ X with xe:=E }
abbrev Cx.nox(X:Cx):Cx:=X.wish fun _ _=>False
theorem Cx.Ok.wish{X:Cx}(ok:X.Ok)(E:Value->Shared->Prop):(X.wish E).Ok :=
 ⟨ok.mod,ok.kind,ok.glob,ok.blt,ok.above,ok.inj,ok.has,ok.cab,ok.hd,ok.frames,ok.stk,ok.exf,ok.bs,ok.bsz,ok.noex,ok.exfs,ok.funs,ok.frf⟩
theorem Cx.Ok.unwish{X:Cx}{E:Value->Shared->Prop}(ok:(X.wish E).Ok):X.Ok :=
 ⟨ok.mod,ok.kind,ok.glob,ok.blt,ok.above,ok.inj,ok.has,ok.cab,ok.hd,ok.frames,ok.stk,ok.exf,ok.bs,ok.bsz,ok.noex,ok.exfs,ok.funs,ok.frf⟩
section
variable{X:Cx}{pins:List (Addr×Obj)}{σ:St}{H:Hp}{s:Shared}{E:Value->Shared->Prop}
theorem Inv.wish(I:Inv X pins σ H s)(E:Value->Shared->Prop):Inv (X.wish E) pins σ H s:=⟨I.ok.wish E,I.os,I.bare,I.base,I.loc,I.cell,I.free,I.freeC,I.pin,I.hok,I.len⟩
theorem Inv.unwish(I:Inv (X.wish E) pins σ H s):Inv X pins σ H s:=⟨I.ok.unwish,I.os,I.bare,I.base,I.loc,I.cell,I.free,I.freeC,I.pin,I.hok,I.len⟩
theorem SP.unwish(h:SP (X.wish E) pins D f s'):SP X pins D f s':=by
 cases f with
 | next=>obtain⟨σ',H',I,q⟩:=h; exact⟨σ',H',I.unwish,q⟩
 | brk=>obtain⟨σ',H',I,q⟩:=h; exact⟨σ',H',I.unwish,q⟩
 | cont=>obtain⟨σ',H',I,q⟩:=h; exact⟨σ',H',I.unwish,q⟩
 | ret u=>obtain⟨v,σ',H',I,r,q⟩:=h; exact⟨v,σ',H',I.unwish,r,q⟩
theorem PE.nox(h:PE X.nox e t):PE X e t:=fun pins s σ H Q I hw =>
 wpAny_mono (h pins s σ H Q (I.wish _) hw) (fun _ _ ⟨v,H',I',r,q⟩=>⟨v,H',I'.unwish,r,q⟩) fun _ _ z=>False.elim z
theorem PSs.nox{st:List Stmt}{t:TS}(h:PSs X.nox st t):PSs X st t:=fun pins s σ H D I hw =>
 wpAny_mono (h pins s σ H D (I.wish _) hw) (fun _ _ q=>q.unwish) fun _ _ z=>False.elim z
end
section
variable{X:Cx}{st:Stmt}{aN:List Stmt}{t u:TS}{e:Expr}{te:TE}{pos:Pos}
def tNext:TS:=fun D σ H=>D.nx σ H
def tSeq(t u:TS):TS:=fun D σ H=>t { D with nx:=u D } σ H
theorem Ap:PSs X [] tNext:=fun _ _ σ H _ I h=>wpAny_execs_nil ⟨σ,H,I,h⟩
theorem xu(h1:PS X st t)(h2:PSs X aN u):PSs X (st::aN) (tSeq t u):=by
 intro pins s σ H D I h
 refine wpAny_execs_cons (thn (h1 pins s σ H { D with nx:=u D } I h) fun f s1 q=>?_)
 cases f with
 | next =>
  obtain⟨σ',H',I',q⟩:=q
  exact h2 pins s1 σ' H' D I' q
 | ret v=>exact q
 | brk=>exact q
 | cont=>exact q
theorem Ao(h1:PS X st t):PSs X [st] t:=by
 intro pins s σ H D I h
 refine wpAny_execs_cons (thn (h1 pins s σ H D I h) fun f s1 q=>?_)
 cases f with
 | next=>exact wpAny_execs_nil q
 | ret v=>exact q
 | brk=>exact q
 | cont=>exact q
theorem Inv.quiet(I:Inv X pins σ H s):interactive X.env=false:=by simp[interactive,I.ok.kind]
def tDrop(te:TE):TS:=fun D σ H=>te σ H fun _ H1=>D.nx σ H1
theorem Aq(he:PE X e te)(hs:swapsWith e none pos.line X.env=pure false:=by rfl):PS X (.Expr e pos) (tDrop te):=by
 intro pins s σ H D I h
 exact wpAny_Expr_any (thn (he pins s σ H _ I h) fun v s1 ⟨x,H1,I1,r1,q1⟩=>⟨σ,H1,I1,q1⟩) I.quiet hs
def tRet(te:TE):TS:=fun D σ H=>te σ H D.rt
theorem CO(he:PE X e te):PS X (.Return (some e) pos) (tRet te):=by
 intro pins s σ H D I h
 exact wpAny_Return_some (thn (he pins s σ H _ I h) fun v s1 ⟨x,H1,I1,r1,q1⟩=>⟨x,σ,H1,I1,r1,q1⟩)
def tIfS(c:TT)(t u:TS):TS:=fun D σ H=>c σ H fun b H1=>if b=true then t D σ H1 else u D σ H1
theorem ps_if(hc:PT X c tc)(ha:PSs X a t)(hb:PSs X b u):PS X (.If c a b pos) (tIfS tc t u):=by
 intro pins s σ H D I h
 refine wpAny_If (thn (hc pins s σ H _ I h) fun d s1 ⟨H1,I1,q1⟩=>?_)
 cases d with
 | true=>exact ha pins s1 σ H1 D I1 q1
 | false=>exact hb pins s1 σ H1 D I1 q1
end
abbrev TG:=V->St->Hp->(St->Hp->Prop)->Prop
abbrev TGs:=List V->St->Hp->(St->Hp->Prop)->Prop
def PG(X:Cx)(target:Expr)(t:TG):Prop :=
 ∀ (pins:List (Addr×Obj)) (s:Shared) (σ:St) (H:Hp) (v:V) (u:Value) (Q:St->Hp->Prop),Inv X pins σ H s->aJ v u->t v σ H Q ->
  wpAny (model X.prog X.w) X.A (assign target X.env u) (fun _ s'=>∃ σ' H',Inv X pins σ' H' s'/\Q σ' H') X.xe s
def PGs(X:Cx)(ts:List Expr)(t:TGs):Prop :=
 ∀ (pins:List (Addr×Obj)) (s:Shared) (σ:St) (H:Hp) (vs:List V) (us:List Value) (Q:St->Hp->Prop),Inv X pins σ H s->ar vs us->t vs σ H Q ->
  wpAny (model X.prog X.w) X.A (assignInOrder ((assignEach ts X.env).map (·.2)) us) (fun _ s'=>∃ σ' H',Inv X pins σ' H' s'/\Q σ' H') X.xe s
abbrev TSet:=V->V->V->Hp->(Hp->Prop)->Prop
def PSet(X:Cx)(t:TSet):Prop :=
 ∀ (pins:List (Addr×Obj)) (s:Shared) (σ:St) (H:Hp) (o i v:V) (ov iv u:Value) (Q:Hp->Prop),Inv X pins σ H s->aJ o ov->aJ i iv->aJ v u->t o i v H Q ->
  wpAny (model X.prog X.w) X.A (setItem ov iv u) (fun _ s'=>∃ H',Inv X pins σ H' s'/\Q H') X.xe s
section
variable{X:Cx}{pos:Pos}
def Ej(i:Nat):TG:=fun v σ H Q=>Q (σ.set i (some v)) H
theorem Au(hN:X.N.Nodup)(hi:X.N[i]?=some x)(hx:Loc X.env.scope x)(hf:X.fn x=true\/X.env.scope.names.lookup x=some .local:=by first | exact .inl rfl | exact .inr rfl | assumption):PG X (.Name x pos) (Ej i):=by
 intro pins s σ H v u Q I r h
 exact wpAny_assign_Name (qI I hN hi hx r (fun s' I'=>⟨_,H,I',h⟩) hf)
def gNil:TGs:=fun vs σ H Q=>vs=[]/\Q σ H
def gCons(t:TG)(u:TGs):TGs:=fun vs σ H Q=>∃ v r,vs=v::r/\t v σ H fun σ' H'=>u r σ' H' Q
theorem At:PGs X [] gNil:=by
 intro pins s σ H vs us Q I r h
 obtain⟨e,h⟩:=h
 subst e
 cases r
 exact assignInOrder_nil ⟨σ,H,I,h⟩
theorem xy(h1:PG X e t)(h2:PGs X es u)
  (hs:(assignEach (e::es) X.env).map (·.2)=assign e X.env::(assignEach es X.env).map (·.2):=by rfl):PGs X (e::es) (gCons t u):=by
 intro pins s σ H vs us Q I r h
 obtain⟨v,vr,e1,h⟩:=h
 subst e1
 cases r with
 | cons r rr =>
  rw[hs]
  refine assignInOrder_cons (thn (h1 pins s σ H _ _ _ I r h) fun _ s1 ⟨σ1,H1,I1,q1⟩=>?_)
  exact h2 pins s1 σ1 H1 _ _ Q I1 rr q1
def gTup(K:PySem.W.Frag)(n:Nat)(t:TGs):TG:=fun v σ H Q=>∃ a xs,v=.ref a/\SqT K H a xs/\xs.length=n/\t xs σ H Q
theorem CS(hc:X.calm=true)(h:PGs X es t)
  (hn:(assignEach es X.env).length=n:=by rfl) (hst:(assignEach es X.env).findIdx? (·.1)=none:=by rfl):PG X (.Tuple es k pos) (gTup X.K n t):=by
 intro pins s σ H v u Q I r hw
 obtain⟨a,xs,e1,hq,hl,hw⟩:=hw
 subst e1
 cases r
 obtain⟨its,rv,ht,hz⟩:=I.tuple hq
 refine assign_Tuple_tuple (I.ok.hd hc) ht (by simp[hn,← hl,rv.length]) hst fun h' hx=>?_
 have I1:Inv X pins σ H { s with heap:=h' }:=I.kept (t':=s.toks) fun b o e=>hx b o (Nat.ne_of_lt (Heap.lt_size e)) e
 exact h pins _ σ H xs _ Q I1 (by simpa using rv) hw
def gSub(to ti:TE)(t:TSet):TG:=fun v σ H Q=>to σ H fun o H1=>ti σ H1 fun i H2=>t o i v H2 fun H3=>Q σ H3
theorem CT(ho:PE X o to)(hi:PE X i ti)(hs:PSet X t)
  (ha:∀ v,assign (.Subscript o i pos) X.env v=(do
   let ov ← holding [v] (eval o X.env)
   let iv ← holding [v,ov] (eval i X.env)
   standAt pos
   holding [v,ov,iv] (setItem ov iv v)
   release [v,ov,iv] []):=by intro _; rfl):PG X (.Subscript o i pos) (gSub to ti t):=by
 intro pins s σ H v u Q I r h
 rw[ha]
 refine wpAny_bind (wpAny_holding (thn (ho pins s σ H _ I h) fun ov s1 ⟨x,H1,I1,r1,q1⟩=>?_))
 refine wpAny_bind (wpAny_holding (thn (hi pins s1 σ H1 _ I1 q1) fun iv s2 ⟨y,H2,I2,r2,q2⟩=>?_))
 refine wpAny_bind (wpAny_standAt (wpAny_bind (wpAny_holding (thn (hs pins s2 σ H2 x y v ov iv u _ I2 r1 r2 r q2) fun _ s3 ⟨H3,I3,q3⟩=>?_))))
 exact wpAny_release ⟨σ,H3,I3,q3⟩
def tAsg(te:TE)(g:TG):TS:=fun D σ H=>te σ H fun x H1=>g x σ H1 D.nx
theorem CQ(he:PE X e te)(hg:PG X tg g)(hs:swapsWithSole [tg] e pos.line X.env=pure false:=by rfl)(hw:swappedStores [tg] e X.env=pure none:=by rfl)
  (h1:(assignEach [tg] X.env).map (·.2)=[assign tg X.env]:=by rfl):PS X (.Assign [tg] e pos) (tAsg te g):=by
 intro pins s σ H D I h
 refine wpAny_Assign_stores (thn (he pins s σ H _ I h) fun v s1 ⟨x,H1,I1,r1,q1⟩=>?_) hs hw
 rw[h1]
 exact thn (hg pins s1 σ H1 x v _ I1 r1 q1) fun _ s2 q=>q
theorem CN(hN:X.N.Nodup)(hi:X.N[i]?=some x)(hx:Loc X.env.scope x)(he:PE X e te)(hs:swapsWith e (some (.Name x pos')) pos.line X.env=pure false:=by rfl)(hf:X.fn x=true\/X.env.scope.names.lookup x=some .local:=by first | exact .inl rfl | exact .inr rfl | assumption) :
  PS X (.Assign [.Name x pos'] e pos) (tAsg te (Ej i)):=by
 intro pins s σ H D I h
 refine wpAny_Assign_Name (thn (he pins s σ H _ I h) fun v s1 ⟨y,H1,I1,r1,q1⟩=>?_) hs
 exact qI I1 hN hi hx r1 (fun s2 I2=>⟨_,H1,I2,q1⟩) hf
end
section
variable{X:Cx}{pos:Pos}
def yT(c:TT)(tb:TS):TS:=fun D σ H=>∃ W:Nat->St->Hp->Prop,(∃ m,W m σ H)/\∀ m σ H,W m σ H ->
 c σ H fun b H1=>if b=true then ∃ N:St->Hp->Prop,(∀ σ' H',N σ' H'->∃ m',m' < m/\W m' σ' H')/\tb { D with nx:=N,ct:=N,bk:=D.nx } σ H1 else D.nx σ H1
theorem xv(hp:PassesOwn (model X.prog X.w) X.A X.env X.xe)(hc:PT X c tc)(hb:PSs X body tb):PS X (.While c body [] pos) (yT tc tb):=by
 intro pins s σ H D I h
 obtain⟨W,⟨m0,w0⟩,turn⟩:=h
 refine wpAny_While (codeAny_whileLoop (fun n s'=>∃ σ' H',Inv X pins σ' H' s'/\W n σ' H') ?_ m0 ⟨σ,H,I,w0⟩)
 rintro n s1 ⟨σ1,H1,I1,w1⟩
 refine wpAny_passesOwn hp (thn (hc pins s1 σ1 H1 _ I1 (turn n σ1 H1 w1)) fun b s2 ⟨H2,I2,q2⟩=>?_)
 cases b with
 | true =>
  obtain⟨N,hN,q2⟩:=q2
  rw[if_pos rfl]
  refine wpAny_passesOwn hp (thn (hb pins s2 σ1 H2 _ I2 q2) fun f s3 q3=>?_)
  cases f with
  | next =>
   obtain⟨σ3,H3,I3,n3⟩:=q3
   obtain⟨m',hm,w3⟩:=hN σ3 H3 n3
   exact⟨m',hm,σ3,H3,I3,w3⟩
  | cont =>
   obtain⟨σ3,H3,I3,n3⟩:=q3
   obtain⟨m',hm,w3⟩:=hN σ3 H3 n3
   exact⟨m',hm,σ3,H3,I3,w3⟩
  | brk=>exact q3
  | ret v=>exact q3
 | false =>
  rw[if_neg Bool.false_ne_true]
  exact wpAny_execs_nil ⟨σ1,H2,I2,q2⟩
end
structure It where
 go:Nat->Hp->Prop
 yld:Nat->Hp->V->Hp->Prop
 stop:Nat->Hp->Prop
def tM(X:Cx)(pins:List (Addr×Obj))(H:Hp)(b:Addr):Prop :=
 H b=none/\b≠X.env.locals/\b∉X.fs/\(b∈X.ex\/X.s₀.heap.objs.size<=b)/\(∀ x c,X.env.cells.lookup x=some c->c≠b)/\∀ p∈X.pn++pins,p.1≠b
theorem Inv.fpOk(I:Inv X pins σ H s)(hb:s.heap.objs.size<=b)(hn:H' b=none):tM X pins H' b:=by
 refine⟨hn,Nat.ne_of_gt (Nat.lt_of_lt_of_le I.lt hb),I.nofs hb,.inr (Nat.le_trans I.sz hb),fun x c e z=>?_,fun p hp z=>?_⟩
 ·obtain⟨v,q⟩:=I.cell x c e
  exact absurd (Nat.lt_of_lt_of_le q.lt (by rw[z]; exact hb)) (Nat.lt_irrefl _)
 ·exact absurd (Nat.lt_of_lt_of_le (Heap.lt_size (I.pin p hp).1) (by rw[z]; exact hb)) (Nat.lt_irrefl _)
structure Turn(P:Program)(w:World)(K:PySem.W.Frag)(tg:Expr)(J:It)(fp:List Addr)(it:Addr)(tn:Nat->Heap->Prop):Prop where
 mem:it∈fp
 obj:∀ i h,tn i h->∀ b∈fp,∃ o,h.get? b=some o/\∀ v,o.data≠.cell v
 keep:∀ i h h',tn i h->(∀ b∈fp,∀ o,h.get? b=some o->h'.get? b=some o)->tn i h'
 item:∀ (X:Cx),X.prog=P->X.w=w->X.K=K->X.calm=true->∀ (i:Nat) (pins:List (Addr×Obj)) (s:Shared) (σ:St) (H:Hp) (E:Value->Shared->Prop),Inv X pins σ H s->(∀ b∈fp,tM X pins H b)->tn i s.heap->J.go i H ->
  wpAny (model P w) X.A (pyNext (.ref it)) (fun r s1=>∃ u,r=some u /\
   wpAny (model P w) X.A (letOwnedTupleGo tg (.ref it) u) (fun _ s2=>∃ x H',Inv X pins σ H' s2/\aJ x u/\J.yld i H x H'/\tn (i+1) s2.heap/\∀ b∈fp,H' b=none) E s1) E s
 done:∀ (X:Cx),X.prog=P->X.w=w->X.K=K->X.calm=true->∀ (i:Nat) (pins:List (Addr×Obj)) (s:Shared) (σ:St) (H:Hp) (E:Value->Shared->Prop),Inv X pins σ H s->(∀ b∈fp,tM X pins H b)->tn i s.heap->J.stop i H ->
  wpAny (model P w) X.A (pyNext (.ref it)) (fun r s1=>r=none/\Inv X pins σ H s1) E s
 self:∀ (A:Around) (i:Nat) (s:Shared) (Q:Value->Shared->Prop) (E:Value->Shared->Prop),tn i s.heap->Q (.ref it) s->wpAny (model P w) A (pyIter (.ref it)) Q E s
abbrev TI:=St->Hp->(It->Hp->Prop)->Prop
inductive PIE(X:Cx)(pins:List (Addr×Obj))(σ:St)(tg:Expr)(R:It->Hp->Prop)(itv:Value)(s2:Shared):Prop
 | mk (it:Addr) (fp:List Addr) (tn:Nat->Heap->Prop) (J:It) (H':Hp) (f0:itv=.ref it) (f1:Inv X pins σ H' s2) (f2:Turn X.prog X.w X.K tg J fp it tn) (f3:tn 0 s2.heap) (f4:(∀ b∈fp,tM X pins H' b)) (f5:R J H')
def PI(X:Cx)(tg iter:Expr)(wi:TI):Prop :=
 ∀ (pins:List (Addr×Obj)) (s:Shared) (σ:St) (H:Hp) (R:It->Hp->Prop),Inv X pins σ H s->wi σ H R ->
  wpAny (model X.prog X.w) X.A (eval iter X.env) (fun v s1=>wpAny (model X.prog X.w) X.A (pyIter v) (PIE X pins σ tg R) X.xe s1) X.xe s
theorem sX(ho:s.heap.get? it=some o)(hc:o.cls=.type n)(hd:o.data=.fields vs)
  (hn:["enumerate","zip","dict_itemiterator","dict_reverseitemiterator","odict_iterator","itertools.zip_longest","itertools.pairwise"].contains n=false) (hQ:Q () s):wpAny M A (letOwnedTupleGo tg (.ref it) u) Q E s:=by
 unfold letOwnedTupleGo
 cases tg <;> first
  | exact wpAny_pure hQ
  | (cases u <;> first
    | exact wpAny_pure hQ
    | (refine wpAny_bind (wpAny_load ho ?_); rw[hc,hd]; show wpAny M A (if (["enumerate","zip","dict_itemiterator","dict_reverseitemiterator","odict_iterator","itertools.zip_longest","itertools.pairwise"].contains n&&vs[0]?==some (rawInt _))=true then _ else _) Q E s; rw[if_neg (by intro h; rw[hn,Bool.false_and] at h; cases h)]; exact wpAny_pure hQ))
def Itl(K:PySem.W.Frag)(a:Addr):It :=
 ⟨fun i H=>∃ xs x,SqL K H a xs/\xs[i]?=some x,fun i H x H'=>H'=H/\∀ xs,SqL K H a xs->xs[i]?=some x,fun i H=>∃ xs,SqL K H a xs/\xs.length<=i⟩
def Itt(K:PySem.W.Frag)(a:Addr):It :=
 ⟨fun i H=>∃ xs x,SqT K H a xs/\xs[i]?=some x,fun i H x H'=>H'=H/\∀ xs,SqT K H a xs->xs[i]?=some x,fun i H=>∃ xs,SqT K H a xs/\xs.length<=i⟩
def Itr(lo:Int)(n:Nat):It:=⟨fun i _=>i < n,fun i H x H'=>H'=H/\x=.int (lo+i),fun i _=>n<=i⟩
theorem tT{P:Program}{w:World}{K:PySem.W.Frag}{tg:Expr}(a it:Addr):Turn P w K tg (Itl K a) [it] it (fun i h=>h.IsListIter it a i) where
 mem:=by simp
 obj:=fun i h st b hb=>by
  have e:b=it:=by simpa using hb
  subst e
  obtain⟨o,e,c,d⟩:=st
  exact⟨o,e,fun v z=>by rw[d] at z; cases z⟩
 keep:=fun i h h' st k=>st.at fun o e=>k it (by simp) o e
 item:=by
  intro X hP hw hK hc i pins s σ H E I hf st hg
  subst hP hw hK
  obtain⟨xs,x,hq,hx⟩:=hg
  obtain⟨its,rv,p,hz⟩:=I.list hq
  obtain⟨u,hu,ru⟩:=rv.get hx
  obtain⟨f0,f1,f2,f3,f4,f5⟩:=hf it (by simp)
  refine wpAny_pyNext_list_item st p.isList (x:=u) (by simpa using hu) fun h' st' sb=>?_
  have I1:Inv X pins σ H { s with heap:=h' }:=I.turned (t':=s.toks) (fun b o hb e=>(sb.2 b hb).trans e) f0 f1 f3 f4 f5
  obtain⟨o,e,c,d⟩:=id st'
  exact⟨u,rfl,sX (s:={ s with heap:=h' }) e c d (by decide) ⟨x,H,I1,ru,⟨rfl,fun ys hy=>by rw[I.list_inj hy hq]; exact hx⟩,st',fun b hb=>(hf b hb).1⟩⟩
 done:=by
  intro X hP hw hK hc i pins s σ H E I hf st hg
  subst hP hw hK
  obtain⟨xs,hq,hx⟩:=hg
  obtain⟨its,rv,p,hz⟩:=I.list hq
  obtain⟨f0,f1,f2,f3,f4,f5⟩:=hf it (by simp)
  have hl:=rv.length
  exact wpAny_pyNext_list_end (I.ok.hd hc) st p.isList (by simp; lia) fun h' eb=>⟨rfl,I.turned (t':=s.toks) (fun b o hb e=>eb b o hb e) f0 f1 f3 f4 f5⟩
 self:=fun _ _ _ _ _ st h=>wpAny_pyIter_listiter st h
theorem sn{P:Program}{w:World}{K:PySem.W.Frag}{tg:Expr}(a it:Addr):Turn P w K tg (Itt K a) [it] it (fun i h=>h.IsTupleIter it a i) where
 mem:=by simp
 obj:=fun i h st b hb=>by
  have e:b=it:=by simpa using hb
  subst e
  obtain⟨o,e,c,d⟩:=st
  exact⟨o,e,fun v z=>by rw[d] at z; cases z⟩
 keep:=fun i h h' st k=>st.at fun o e=>k it (by simp) o e
 item:=by
  intro X hP hw hK hc i pins s σ H E I hf st hg
  subst hP hw hK
  obtain⟨xs,x,hq,hx⟩:=hg
  obtain⟨its,rv,p,hz⟩:=I.tuple hq
  obtain⟨u,hu,ru⟩:=rv.get hx
  obtain⟨f0,f1,f2,f3,f4,f5⟩:=hf it (by simp)
  refine wpAny_pyNext_tuple_item st (show s.heap.IsTuple a its.toArray from p) (x:=u) (by simpa using hu) fun h' st' sb=>?_
  have I1:Inv X pins σ H { s with heap:=h' }:=I.turned (t':=s.toks) (fun b o hb e=>(sb.2 b hb).trans e) f0 f1 f3 f4 f5
  obtain⟨o,e,c,d⟩:=id st'
  exact⟨u,rfl,sX (s:={ s with heap:=h' }) e c d (by decide) ⟨x,H,I1,ru,⟨rfl,fun ys hy=>by rw[I.tuple_inj hy hq]; exact hx⟩,st',fun b hb=>(hf b hb).1⟩⟩
 done:=by
  intro X hP hw hK hc i pins s σ H E I hf st hg
  subst hP hw hK
  obtain⟨xs,hq,hx⟩:=hg
  obtain⟨its,rv,p,hz⟩:=I.tuple hq
  obtain⟨f0,f1,f2,f3,f4,f5⟩:=hf it (by simp)
  have hl:=rv.length
  exact wpAny_pyNext_tuple_end (I.ok.hd hc) st (show s.heap.IsTuple a its.toArray from p) (by simp; lia) fun h' eb=>⟨rfl,I.turned (t':=s.toks) (fun b o hb e=>eb b o hb e) f0 f1 f3 f4 f5⟩
 self:=fun _ _ _ _ _ st h=>wpAny_pyIter_tupleiter st h
theorem ss{P:Program}{w:World}{K:PySem.W.Frag}{tg:Expr}(it:Addr)(lo:Int)(n:Nat):Turn P w K tg (Itr lo n) [it] it (fun i h=>IsRangeIter h it (lo+(i:Nat)*1) ((n:Int)-(i:Nat)) 1) where
 mem:=by simp
 obj:=fun i h st b hb=>by
  have e:b=it:=by simpa using hb
  subst e
  exact⟨_,st,fun v z=>by
   have z':Data.fields _=Data.cell v:=z
   cases z'⟩
 keep:=fun i h h' st k=>k it (by simp) _ st
 item:=by
  intro X hP hw hK hc i pins s σ H E I hf st hg
  subst hP hw hK
  obtain⟨f0,f1,f2,f3,f4,f5⟩:=hf it (by simp)
  have W:=Walks.range (prog:=X.prog) (w:=X.w) (I.ok.hd hc) it lo 1 n
  refine W.item i s _ _ hg st fun v h' tk hv st' kk=>?_
  obtain⟨t,rfl⟩:=hv
  have I1:Inv X pins σ H { s with heap:=h',toks:=tk }:=I.turned (fun b o hb e=>kk b o (by simpa using hb) e) f0 f1 f3 f4 f5
  refine⟨_,rfl,sX (s:={ s with heap:=h',toks:=tk }) (n:="range_iterator") st' rfl rfl (by decide) ⟨.int (lo+i),H,I1,⟨t,?_⟩,⟨rfl,rfl⟩,st',fun b hb=>(hf b hb).1⟩⟩
  rw[Int.mul_one]
 done:=by
  intro X hP hw hK hc i pins s σ H E I hf st hg
  subst hP hw hK
  obtain⟨f0,f1,f2,f3,f4,f5⟩:=hf it (by simp)
  exact wpAny_pyNext_range_end (I.ok.hd hc) st (by have:n<=i:=hg; lia) fun h' eb=>⟨rfl,I.turned (t':=s.toks) (fun b o hb e=>eb b o hb e) f0 f1 f3 f4 f5⟩
 self:=fun _ _ _ _ _ st h=>wpAny_pyIter_rangeiter st h
end L2
namespace L2
open PySem PySem.Spec PyProof.Rows
section
variable{X:Cx}{tg:Expr}
theorem qN{pins:List (Addr×Obj)}{σ:St}{H:Hp}{s:Shared}{R:It->Hp->Prop}{E:Value->Shared->Prop}{lo hi:Int}{t u v:Tok}{tk:Nat}(I:Inv X pins σ H s)(h1:-(2 ^ 62)<=lo)(h2:lo < 2 ^ 62)(h3:-(2 ^ 62)<=hi)(h4:hi < 2 ^ 62)
  (q:R (Itr lo (hi-lo).toNat) H):wpAny (model X.prog X.w) X.A (pyIter (.ref s.heap.objs.size)) (PIE X pins σ tg R) E { s with heap:=s.heap.push { cls:=.type "range",data:=.fields #[.int lo t,.int hi u,.int 1 v] },toks:=tk }:=by
 refine wpAny_pyIter_range (IsRange.new ..) (small_one h1 h2 h3 h4) ?_
 have I1:Inv X pins σ H { s with heap:=s.heap.push { cls:=.type "range",data:=.fields #[.int lo t,.int hi u,.int 1 v] },toks:=tk }:=I.kept fun b o e=>Heap.get?_push_of_some _ e
 refine⟨(s.heap.push { cls:=.type "range",data:=.fields #[.int lo t,.int hi u,.int 1 v] }).objs.size,[(s.heap.push { cls:=.type "range",data:=.fields #[.int lo t,.int hi u,.int 1 v] }).objs.size],_,_,H,rfl,
  I1.kept (t':=tk) fun b o e=>Heap.get?_push_of_some _ e,ss _ lo (hi-lo).toNat,?_,fun b hb=>?_,q⟩
 ·have e1:lo+((0:Nat):Int)*1=lo:=by simp
  have e2:(((hi-lo).toNat:Nat):Int)-((0:Nat):Int)=Builtin.Range.rangeSize lo hi 1:=by rw[rangeSize_one]; split <;> lia
  show IsRangeIter _ _ (lo+((0:Nat):Int)*1) ((((hi-lo).toNat:Nat):Int)-((0:Nat):Int)) 1
  rw[e1,e2]
  exact Heap.get?_push_size _ rfl
 ·have e:b=(s.heap.push { cls:=.type "range",data:=.fields #[.int lo t,.int hi u,.int 1 v] }).objs.size:=by simpa using hb
  subst e
  exact I1.fpOk (Nat.le_refl _) (I1.hok.fresh (Nat.le_refl _))
def iRng1(ta:TA):TI:=fun σ H R=>ta σ H fun vs H1=>∃ j:Int,vs=[.int j]/\-(2 ^ 62)<=j/\j < 2 ^ 62/\R (Itr 0 j.toNat) H1
def iRng2(ta:TA):TI:=fun σ H R=>ta σ H fun vs H1=>∃ i j:Int,vs=[.int i,.int j]/\(-(2 ^ 62)<=i/\i < 2 ^ 62/\-(2 ^ 62)<=j/\j < 2 ^ 62)/\R (Itr i (j-i).toNat) H1
theorem uS{a:Expr}{ta:TA}{p pos:Pos}(hg:Gl X "range")(hm:X.mg "range" = none)(ha:PA X [a] ta)(hs:starEach [a] X.env=[(false,eval a X.env)]:=by rfl):PI X tg (.Call (.Name "range" p) [a] [] pos) (iRng1 ta):=by
 intro pins s σ H R I h
 refine Call_ (fX I hg hm boot_range (PyProof.Rows.callWith_type1 (thn (ha pos pins s σ H _ I h) fun us s1 ⟨vs,H1,I1,r1,q1⟩=>?_) hs rfl))
 obtain⟨j,e,q1,q2,q⟩:=q1
 subst e
 cases r1 with
 | cons r rr =>
  cases rr
  obtain⟨t,rfl⟩:=r
  exact call_range_1 (qN I1 (by lia) (by lia) q1 q2 (by simpa using q))
theorem uR(hg:Gl X "range")(hm:X.mg "range" = none)(ha:PA X [a,b] ta)(hs:starEach [a,b] X.env=[(false,eval a X.env),(false,eval b X.env)]:=by rfl)(hs2:starEach [b] X.env=[(false,eval b X.env)]:=by rfl) :
  PI X tg (.Call (.Name "range" p) [a,b] [] pos) (iRng2 ta):=by
 intro pins s σ H R I h
 refine Call_ (fX I hg hm boot_range (PyProof.Rows.callWith_type1 (thn (ha pos pins s σ H _ I h) fun us s1 ⟨vs,H1,I1,r1,q1⟩=>?_) (by rw[hs,hs2]) (by rw[hs2]; rfl)))
 obtain⟨i,j,e,⟨q1,q2,q3,q4⟩,q⟩:=q1
 subst e
 cases r1 with
 | cons r rr =>
  cases rr with
  | cons r' rr =>
   cases rr
   obtain⟨t,rfl⟩:=r
   obtain⟨t',rfl⟩:=r'
   exact call_range_2 (qN I1 q1 q2 q3 q4 q)
def tFor(wi:TI)(g:TG)(tb:TS):TS:=fun D σ H=>wi σ H fun J H1=>∃ W:Nat->Nat->St->Hp->Prop,(∃ m,W 0 m σ H1)/\∀ i m σ H,W i m σ H ->
 (J.stop i H/\D.nx σ H)\/(J.go i H/\∃ N:St->Hp->Prop,(∀ σ' H',N σ' H'->∃ m',m' < m/\W (i+1) m' σ' H')/\∀ x H',J.yld i H x H'->g x σ H' fun σ2 H2=>tb { D with nx:=N,ct:=N,bk:=D.nx } σ2 H2)
def fT(fp:List Addr)(h:Heap):List (Addr×Obj):=fp.filterMap fun b=>(h.get? b).map fun o=>(b,o)
theorem eJ(hb:b∈fp)(e:h.get? b=some o):(b,o)∈fT fp h:=List.mem_filterMap.mpr ⟨b,hb,by rw[e]; rfl⟩
theorem mQ(hp:p∈fT fp h):p.1∈fp/\h.get? p.1=some p.2:=by
 obtain⟨b,hb,e⟩:=List.mem_filterMap.mp hp
 cases q:h.get? b with
 | none=>rw[q] at e; cases e
 | some o =>
  rw[q] at e
  have e':(b,o)=p:=Option.some.inj e
  subst e'
  exact⟨hb,q⟩
theorem Inv.pinned(I:Inv X pins σ H s)(hf:∀ b∈fp,tM X pins H b)(ho:∀ b∈fp,∃ o,s.heap.get? b=some o/\∀ v,o.data≠.cell v):Inv X (pins++fT fp s.heap) σ H s :=
 I.pins_of fun p hp=>(List.mem_append.mp hp).elim (fun z=>I.pin p (List.mem_append_right _ z)) fun z=>by
  obtain⟨hb,e⟩:=mQ z
  obtain⟨f0,f1,f2,_⟩:=hf p.1 hb
  obtain⟨o,e',d⟩:=ho p.1 hb
  rw[e] at e'; cases e'
  exact⟨e,f0,f1,f2,d⟩
theorem Inv.unpinned(I:Inv X (pins++pl) σ H s):Inv X pins σ H s:=I.pins_of fun p hp=>I.pin p (List.mem_append_right _ (List.mem_append_left _ hp))
theorem CP(hp:PassesOwn (model X.prog X.w) X.A X.env X.xe)(hc:X.calm=true)(hi:PI X tg iter wi)(hg:PG X tg g)(hb:PSs X body tb)
  (hs:∀ x,foldedSetIterable iter X.env x=pure x:=by intro _; rfl):PS X (.For tg iter body [] pos) (tFor wi g tb):=by
 intro pins s σ H D I h
 refine wpAny_For (thn (hi pins s σ H _ I h) fun v s1 h1=>thn h1 fun itv s2 h2=>?_) hs
 obtain⟨it,fp,tn,J,H2,e,I2,T,st2,f2,W,⟨m0,w0⟩,turn⟩:=h2
 subst e
 -- what stays true of the iterator's objects through the loop
 have stat:∀ {H':Hp},(∀ b∈fp,H' b=none)->∀ b∈fp,tM X pins H' b:=fun hn b hb=>⟨hn b hb,(f2 b hb).2⟩
 refine codeAny_forLoop_any (fun n s'=>∃ i σ' H',Inv X pins σ' H' s'/\tn i s'.heap/\(∀ b∈fp,H' b=none)/\W i n σ' H') ?_ m0 ⟨0,σ,H2,I2,st2,fun b hb=>(f2 b hb).1,w0⟩
 rintro n s3 ⟨i,σ3,H3,I3,st3,fr3,w3⟩
 rcases turn i n σ3 H3 w3 with ⟨stop,qn⟩ | ⟨go,N,hN,step⟩
 ·refine wpAny_passesOwn hp (thn (T.done X rfl rfl rfl hc i pins s3 σ3 H3 X.xe I3 (stat fr3) st3 stop) fun r s4 ⟨hr,I4⟩=>?_)
  subst hr
  exact wpAny_execs_nil ⟨σ3,H3,I4,qn⟩
 ·refine wpAny_passesOwn hp (thn (T.item X rfl rfl rfl hc i pins s3 σ3 H3 X.xe I3 (stat fr3) st3 go) fun r s4 ⟨u,hr,h4⟩=>?_)
  subst hr
  refine wpAny_passesOwn hp (thn h4 fun _ s5 ⟨x,H5,I5,r5,y5,st5,fr5⟩=>?_)
  have I5':=I5.pinned (stat fr5) (T.obj _ _ st5)
  refine wpAny_passesOwn hp (thn (hg _ s5 σ3 H5 x u _ I5' r5 (step x H5 y5)) fun _ s6 ⟨σ6,H6,I6,q6⟩=>?_)
  refine wpAny_passesOwn hp (thn (hb _ s6 σ6 H6 _ I6 q6) fun f s7 q7=>?_)
  have again:∀ {σ7:St}{H7:Hp},Inv X (pins++fT fp s5.heap) σ7 H7 s7->N σ7 H7->∃ m,m < n/\∃ i σ' H',Inv X pins σ' H' s7/\tn i s7.heap/\(∀ b∈fp,H' b=none)/\W i m σ' H':=fun {σ7 H7} I7 n7=>by
   obtain⟨m',hm,w7⟩:=hN σ7 H7 n7
   refine⟨m',hm,i+1,σ7,H7,I7.unpinned,T.keep _ _ _ st5 fun b hb o e=>(I7.pin (b,o) (List.mem_append_right _ (List.mem_append_right _ (eJ hb e)))).1,fun b hb=>?_,w7⟩
   obtain⟨o,e,d⟩:=T.obj _ _ st5 b hb
   exact(I7.pin (b,o) (List.mem_append_right _ (List.mem_append_right _ (eJ hb e)))).2.1
  cases f with
  | next=>obtain⟨σ7,H7,I7,n7⟩:=q7; exact again I7 n7
  | cont=>obtain⟨σ7,H7,I7,n7⟩:=q7; exact again I7 n7
  | brk=>obtain⟨σ7,H7,I7,q7⟩:=q7; exact⟨σ7,H7,I7.unpinned,q7⟩
  | ret v=>obtain⟨x7,σ7,H7,I7,r7,q7⟩:=q7; exact⟨x7,σ7,H7,I7.unpinned,r7,q7⟩
end
end L2
namespace L2
open PySem PySem.Spec PyProof.Rows
abbrev R2:=V->V->Hp->VK->Prop
def OpR(X:Cx)(f:Value->Value->Sem Value)(r:R2):Prop :=
 ∀ (pins:List (Addr×Obj)) (s:Shared) (σ:St) (H:Hp) (x y:V) (v u:Value) (Q:VK),Inv X pins σ H s->aJ x v->aJ y u->r x y H Q ->
  wpAny (model X.prog X.w) X.A (f v u) (EP X pins σ Q) X.xe s
def UnR(X:Cx)(f:Value->Sem Value)(r:V->Hp->VK->Prop):Prop :=
 ∀ (pins:List (Addr×Obj)) (s:Shared) (σ:St) (H:Hp) (x:V) (v:Value) (Q:VK),Inv X pins σ H s->aJ x v->r x H Q ->
  wpAny (model X.prog X.w) X.A (f v) (EP X pins σ Q) X.xe s
def fE(X:Cx)(f:Value)(r:List V->Hp->VK->Prop):Prop :=
 ∀ (pins:List (Addr×Obj)) (s:Shared) (σ:St) (H:Hp) (xs:List V) (us:List Value) (Q:VK),Inv X pins σ H s->ar xs us->r xs H Q ->
  wpAny (model X.prog X.w) X.A (call f us) (EP X pins σ Q) X.xe s
def tOp(r:R2)(ta tb:TE):TE:=fun σ H Q=>ta σ H fun x H1=>tb σ H1 fun y H2=>r x y H2 Q
def rI(C:Int->Int->Prop)(g:Int->Int->V):R2:=fun x y H Q=>∃ i j,x=.int i/\y=.int j/\C i j/\Q (g i j) H
def rI0(g:Int->Int->V):R2:=fun x y H Q=>∃ i j,x=.int i/\y=.int j/\Q (g i j) H
section
variable{X:Cx}{a b c:Expr}{ta tb tc:TE}{pos:Pos}
theorem binT(ha:PE X a ta)(hb:PE X b tb){pins:List (Addr×Obj)}{s:Shared}{σ:St}{H:Hp}{R:V->V->Hp->Prop}(I:Inv X pins σ H s)
  (h:ta σ H fun x H1=>tb σ H1 fun y H2=>R x y H2) {Q:Value->Shared->Prop}{f:Value->Value->Sem Value}
  (hf:∀ v u s2 x y H2,Inv X pins σ H2 s2->aJ x v->aJ y u->R x y H2->wpAny (model X.prog X.w) X.A (f v u) Q X.xe s2) :
  wpAny (model X.prog X.w) X.A (eval a X.env) (fun v s₁=>wpAny (model X.prog X.w) X.A (eval b X.env) (fun u s₂=>wpAny (model X.prog X.w) X.A (f v u) Q X.xe s₂) X.xe s₁) X.xe s:=by
 refine thn (ha pins s σ H _ I h) fun v s1 ⟨x,H1,I1,r1,q1⟩=>?_
 refine thn (hb pins s1 σ H1 _ I1 q1) fun u s2 ⟨y,H2,I2,r2,q2⟩=>?_
 exact hf v u s2 x y H2 I2 r1 r2 q2
theorem pe_op{op:Operator}{r:R2}(ho:OpR X (binaryOp op) r)(ha:PE X a ta)(hb:PE X b tb):PE X (.BinOp a op b pos) (tOp r ta tb):=by
 intro pins s σ H Q I h
 exact wpAny_BinOp (binT ha hb I h fun v u s2 x y H2 I2 rx ry q=>ho pins s2 σ H2 x y v u Q I2 rx ry q)
theorem opI{f:Value->Value->Sem Value}{C:Int->Int->Prop}{g:Int->Int->Int}
  (rule:∀ (i j:Int) (t u:Tok) (s:Shared) (Q:Value->Shared->Prop) (E:Value->Shared->Prop),C i j->Q (.int (g i j) s.toks) { s with toks:=s.toks+1 }->wpAny (model X.prog X.w) X.A (f (.int i t) (.int j u)) Q E s) :
  OpR X f (rI C fun i j=>.int (g i j)):=by
 intro pins s σ H x y v u Q I rx ry h
 obtain⟨i,j,rfl,rfl,hc,q⟩:=h
 obtain⟨t,rfl⟩:=rx
 obtain⟨t',rfl⟩:=ry
 exact rule i j t t' s _ _ hc ⟨.int (g i j),H,I.tok _,⟨_,rfl⟩,q⟩
theorem opI0{f:Value->Value->Sem Value}{g:Int->Int->Int}
  (rule:∀ (i j:Int) (t u:Tok) (s:Shared) (Q:Value->Shared->Prop) (E:Value->Shared->Prop),Q (.int (g i j) s.toks) { s with toks:=s.toks+1 }->wpAny (model X.prog X.w) X.A (f (.int i t) (.int j u)) Q E s) :
  OpR X f (rI0 fun i j=>.int (g i j)):=by
 intro pins s σ H x y v u Q I rx ry h
 obtain⟨i,j,rfl,rfl,q⟩:=h
 obtain⟨t,rfl⟩:=rx
 obtain⟨t',rfl⟩:=ry
 exact rule i j t t' s _ _ ⟨.int (g i j),H,I.tok _,⟨_,rfl⟩,q⟩
theorem opB0{f:Value->Value->Sem Value}{g:Int->Int->Bool}
  (rule:∀ (i j:Int) (t u:Tok) (s:Shared) (Q:Value->Shared->Prop) (E:Value->Shared->Prop),Q (.bool (g i j)) s->wpAny (model X.prog X.w) X.A (f (.int i t) (.int j u)) Q E s) :
  OpR X f (rI0 fun i j=>.bl (g i j)):=by
 intro pins s σ H x y v u Q I rx ry h
 obtain⟨i,j,rfl,rfl,q⟩:=h
 obtain⟨t,rfl⟩:=rx
 obtain⟨t',rfl⟩:=ry
 exact rule i j t t' s _ _ ⟨.bl (g i j),H,I,rfl,q⟩
def CPow(i j:Int):Prop:=0<=j/\j<=1000000/\i.natAbs < 2 ^ 64
def CMul(i j:Int):Prop:=(-(2 ^ 64) < i/\i < 2 ^ 64)\/(-(2 ^ 64) < j/\j < 2 ^ 64)
theorem CMul.ok(h:CMul i j):IntMulOk i j:=by
 rcases h with ⟨h1,h2⟩ | ⟨h1,h2⟩
 ·exact .of_left (intBits_le_64 h1 h2)
 ·exact .of_right (intBits_le_64 h1 h2)
theorem Dj:OpR X (binaryOp .Add) (rI0 fun i j=>.int (i+j)):=opI0 fun _ _ _ _ _ _ _ q=>add_int q
theorem Dd:OpR X (binaryOp .Sub) (rI0 fun i j=>.int (i-j)):=opI0 fun _ _ _ _ _ _ _ q=>sub_int q
theorem Dg:OpR X (binaryOp .Mult) (rI CMul fun i j=>.int (i*j)):=opI fun _ _ _ _ _ _ _ hc q=>mul_int q hc.ok
theorem Dh:OpR X (binaryOp .Mod) (rI (fun _ j=>0 < j) fun i j=>.int (i % j)):=opI fun i j _ _ _ _ _ hc q=>by
 have h1:(0:Int) < j:=hc
 exact mod_int' (by lia) (by rw[Int.fmod_eq_emod_of_nonneg i (by lia)]; exact q)
theorem Df:OpR X (binaryOp .Pow) (rI CPow fun i j=>.int (i ^ j.toNat)):=opI fun _ _ _ _ _ _ _ hc q=>pow_int_small hc.1 hc.2.1 hc.2.2 q
theorem De:OpR X (binaryOp .LShift) (rI CPow fun i j=>.int (i*2 ^ j.toNat)):=opI fun _ _ _ _ _ _ _ hc q=>lshift_int_small hc.1 hc.2.1 hc.2.2 q
end
section
variable{X:Cx}{a b c:Expr}{ta tb tc:TE}{pos:Pos}
theorem op_lt:OpR X (compareOp .Lt) (rI0 fun i j=>.bl (decide (i < j))):=opB0 fun _ _ _ _ _ _ _ q=>lt_int q
theorem op_gt:OpR X (compareOp .Gt) (rI0 fun i j=>.bl (decide (j < i))):=opB0 fun _ _ _ _ _ _ _ q=>gt_int q
theorem OpR.or(h:OpR X f r)(h':OpR X f r'):OpR X f (fun x y H Q=>r x y H Q\/r' x y H Q):=by
 intro pins s σ H x y v u Q I rx ry q
 rcases q with q | q
 ·exact h pins s σ H x y v u Q I rx ry q
 ·exact h' pins s σ H x y v u Q I rx ry q
theorem Aw(ho:OpR X (compareOp op) r)(ha:PE X a ta)(hb:PE X b tb)(hm:behindInMarks op b=false):PE X (.Compare a [op] [b] pos) (tOp r ta tb):=by
 intro pins s σ H Q I h
 exact wpAny_Compare1 (binT ha hb I h fun v u s2 x y H2 I2 rx ry q=>ho pins s2 σ H2 x y v u Q I2 rx ry q) hm
def Cp(t:TE):TT:=fun σ H Q=>t σ H fun x H'=>∃ k,x=.bl k/\Q k H'
theorem An(ho:OpR X (compareOp op) r)(ha:PE X a ta)(hb:PE X b tb)(hm:behindInMarks op b=false):PT X (.Compare a [op] [b] pos) (Cp (tOp r ta tb)):=by
 intro pins s σ H Q I h
 refine wpAny_isTrue_Compare1 (thn (ha pins s σ H _ I h) fun v s1 ⟨x,H1,I1,r1,q1⟩=>thn (hb pins s1 σ H1 _ I1 q1) fun u s2 ⟨y,H2,I2,r2,q2⟩ =>
  thn (ho pins s2 σ H2 x y v u _ I2 r1 r2 q2) fun c s3 ⟨z,H3,I3,r3,k,e,q3⟩=>?_) hm
 subst e
 cases r3
 exact wpAny_truthy_bool ⟨H3,I3,q3⟩
theorem kA:(sizeLine:Nat) < 2 ^ 63:=by rw[sizeLine_eq]; decide
theorem sG:OpR X (binaryOp .Add) (fun x y H Q=>∃ i j,x=.str i/\y=.str j/\i.length+j.length<=sizeLine/\Q (.str (i++j)) H):=by
 intro pins s σ H x y v u Q I rx ry h
 obtain⟨i,j,rfl,rfl,hz,q⟩:=h
 obtain⟨t,rfl⟩:=rx
 obtain⟨t',rfl⟩:=ry
 exact add_str (fun t' tk=>⟨.str (i++j),H,I.tok _,⟨_,rfl⟩,q⟩) hz
theorem zV(r:ar [x] us):∃ u,us=[u]/\aJ x u:=by
 cases r with
 | cons r1 r2=>cases r2; exact⟨_,rfl,r1⟩
end
end L2
namespace L2
open PySem PySem.Spec PyProof.Rows
structure ObjM(h:Heap)(x dx C:Addr)(mA:Str->Option Value):Prop where
 obj:h.get? x=some (PySem.W.instObj C dx)
 ns:h.Ns1 dx mA
 ne:dx≠x
section
variable{prog:Program}{w:World}{A:Around}{E:Value->Shared->Prop}{s:Shared}{K:PySem.W.Frag}{x dx C f:Addr}{mA:Str->Option Value}{name:Str}{v:Value}
end
theorem zN.some_of(r:zN (some v) o):∃ u,o=some u/\aJ v u:=by
 cases o with
 | none=>exact(show False from r).elim
 | some u=>exact⟨u,rfl,r⟩
section
variable{P:Program}{w:World}{H H':Hp}{h h':Heap}{a C dx:Addr}{fs fs':List (Str×V)}
end
structure Cls(K:PySem.W.Frag)(C:Addr):Prop where
 pg:PySem.W.plainGet K C Str.empty=true
 hd:PySem.W.hasDictIn K C=true
 po:PySem.W.plainOver K C=true
 sa:PySem.W.findIn K (.ref C) "__setattr__" = some (some (.builtin "object.__setattr__"))
structure Con(K:PySem.W.Frag)(C:Addr)(f:Str)(v:V)(u:Value):Prop where
 at_:PySem.W.findIn K (.ref C) f=some (some u)
 rel:aJ v u
 get:PySem.W.specialIn K u "__get__" = some none
 cp:PySem.W.copiedNames.contains f=false
structure Meth(K:PySem.W.Frag)(C:Addr)(m:Str)(f:Addr):Prop where
 at_:PySem.W.findIn K (.ref C) m=some (some (.ref f))
 fn:PySem.W.isFn K (.ref f)=true
 kp:PySem.W.keepIn K (.ref f)=true
section
variable{X:Cx}{pins:List (Addr×Obj)}{σ:St}{H:Hp}{s:Shared}{a C dx:Addr}{fs:List (Str×V)}{f:Str}{v:V}{A:Around}{E:Value->Shared->Prop}
end
section
variable{X:Cx}{o e value:Expr}{f:Str}{pos pos' tpos:Pos}{ta tv:TE}
end
section
variable{X:Cx}{pins:List (Addr×Obj)}{σ:St}{H:Hp}{s:Shared}{A:Around}{E:Value->Shared->Prop}{Q:Value->Shared->Prop}{c:Value}{b:Bool}
inductive TyOf(K:PySem.W.Frag)(H:Hp):V->Value->Prop where
 | non:TyOf K H .non (.type "NoneType")
 | bl (x:Bool):TyOf K H (.bl x) (.type "bool")
 | int (i:Int):TyOf K H (.int i) (.type "int")
 | str (x:Str):TyOf K H (.str x) (.type "str")
 | flt (x:UInt64):TyOf K H (.flt x) (.type "float")
 | lst {a:Addr}{xs:List V} (e:H a=some (.lst xs)):TyOf K H (.ref a) (.type "list")
 | frz {a:Addr}{o:Obj}{xs:List V} (e:H a=some (.frz o (.lst xs))):TyOf K H (.ref a) (.type "list")
 | tup {a:Addr}{xs:List V} (e:H a=some (.tup xs)):TyOf K H (.ref a) (.type "tuple")
 | dK {a:Addr}{kvs:List (Key×V)} (e:H a=some (.dK kvs)):TyOf K H (.ref a) (.type "dict")
 | dT {a:Addr}{kvs:List (List Key×V)} (e:H a=some (.dT kvs)):TyOf K H (.ref a) (.type "dict")
 | ins {a C dx:Addr}{fs:List (Str×V)} (e:H a=some (.ins C dx fs)) (cl:Cls K C) (ha:PySem.W.findIn K (.ref C) "__class__" = some (some (.builtin "object.__class__")))
   (hn:PySem.W.specialIn K (.builtin "object.__class__") "__get__" = some (some (.builtin "getset_descriptor.__get__"))) (htk:PySem.W.takesIn K (.builtin "object.__class__")=some true)
   (hm:PySem.W.mroIn K C (.type "object")=some true):TyOf K H (.ref a) (.ref C)
end
end L2
namespace L2
open PySem PySem.Spec PyProof.Rows
structure Room(k:Nat)(A:Around):Prop where
 hd:A.handled=none
 dp:A.depth+3*k+5 < recursionLimit
 un:A.units+16*k+200 < cLine
theorem Room.mono(r:Room k A)(h:j<=k):Room j A:=⟨r.hd,by have:=r.dp; lia,by have:=r.un; lia⟩
theorem Room.deeper(r:Room (k+1) A)(env:Env):Room k (A.deeper env) :=
 ⟨r.hd,by have:=r.dp; show A.depth+1+3*k+5 < _; lia,by have:=r.un; show A.units+3+16*k+200 < _; lia⟩
theorem Room.in1(r:Room (k+1) A):Room k A.in1 :=
 ⟨r.hd,by have:=r.dp; show A.depth+3*k+5 < _; lia,by have:=r.un; show A.units+1+16*k+200 < _; lia⟩
theorem Room.depth(r:Room k A):A.depth < recursionLimit:=by have:=r.dp; lia
def tNil:TA:=fun _ H Q=>Q [] H
def tCons(ta:TE)(tr:TA):TA:=fun σ H Q=>ta σ H fun x H1=>tr σ H1 fun xs H2=>Q (x::xs) H2
section
variable{X:Cx}{e:Expr}{es:List Expr}{te:TE}{t:TA}{pos:Pos}
theorem Dc:PA X [] tNil:=fun _ _ _ _ H Q I h=>Calls.spliced_nil ⟨[],H,I,.nil,h⟩
theorem Az(ha:PE X e te)(hr:PA X es t)(hs:starEach (e::es) X.env=(false,eval e X.env)::starEach es X.env:=by rfl):PA X (e::es) (tCons te t):=by
 intro pos pins s σ H Q I h
 rw[hs]
 show wpAny _ _ (spliced ((false,eval e X.env)::backTo pos (starEach es X.env))) _ _ s
 refine Calls.spliced_cons (thn (ha pins s σ H _ I h) fun u s1 ⟨x,H1,I1,r1,q1⟩=>?_)
 exact thn (hr pos pins s1 σ H1 _ I1 q1) fun us s2 ⟨xs,H2,I2,r2,q2⟩=>⟨x::xs,H2,I2,.cons r1 r2,q2⟩
def tTup(t:TA):TE:=fun σ H Q=>t σ H fun xs H1=>xs.length<=sizeLine/\∀ p,H1 p=none->Q (.ref p) (upd H1 p (.tup xs))
def tLst(t:TA):TE:=fun σ H Q=>t σ H fun xs H1=>xs.length<=sizeLine/\∀ p,H1 p=none->Q (.ref p) (upd H1 p (.lst xs))
theorem CU{x1}(h:PA X es t):PE X (.Tuple es x1 pos) (tTup t):=by
 intro pins s σ H Q I hq
 refine wpAny_Tuple_spliced (thn (h pos pins s σ H _ I hq) fun us s1 ⟨xs,H1,I1,r,z,q⟩=>⟨by rw[← r.length]; exact z,?_⟩)
 have hf:H1 s1.heap.objs.size=none:=I1.hok.fresh (Nat.le_refl _)
 refine⟨.ref s1.heap.objs.size,upd H1 s1.heap.objs.size (.tup xs),I1.laid (t':=s1.toks) (fun b u e=>Heap.get?_push_of_some _ e) (Nat.le_refl _) ?_,rfl,q _ hf⟩
 exact⟨z,us,r,⟨_,Heap.get?_push_size _ rfl,rfl,⟨_,rfl⟩,rfl⟩⟩
theorem CZ(h:PA X es t):PE X (.List es pos) (tLst t):=by
 intro pins s σ H Q I hq
 refine wpAny_List_spliced (thn (h pos pins s σ H _ I hq) fun us s1 ⟨xs,H1,I1,r,z,q⟩=>⟨by rw[← r.length]; exact z,?_⟩)
 have hf:H1 s1.heap.objs.size=none:=I1.hok.fresh (Nat.le_refl _)
 refine⟨.ref s1.heap.objs.size,upd H1 s1.heap.objs.size (.lst xs),I1.laid (t':=s1.toks) (fun b u e=>Heap.get?_push_of_some _ e) (Nat.le_refl _) ?_,rfl,q _ hf⟩
 exact⟨z,us,0,r,Heap.get?_push_size _ rfl⟩
end
abbrev Sp:=List V->Hp->VK->XK->Prop
abbrev CXT:=List Env->Hp->Shared->XK->Value->Shared->Prop
structure Env0(P:Program)(w:World)(K:PySem.W.Frag)(mg:Str->Option Value)(base:Heap)(A:Around)(outer:List Env)(s:Shared)(H:Hp):Prop where
 frames:A.frames=some outer
 mod:Mod K mg base
 bs:∀ b o,base.get? b=some o->s.heap.get? b=some o/\H b=none
 bsz:base.objs.size<=s.heap.objs.size
 funs:s.heap.FunFrames base outer
 frf:∀ b∈frs outer,H b=none
 hok:HOk P w H s.heap
 bare:AllBare s.gens
inductive CE(outer:List Env)(P:Program)(w:World)(H:Hp)(s:Shared)(Q:VK)(u:Value)(s':Shared):Prop
 | mk (v:_) (H':_) (f0:s'.os=s.os) (f1:AllBare s'.gens) (f2:Un (frs outer) [] H H' s.heap s'.heap) (f3:HOk P w H' s'.heap) (f4:aJ v u) (f5:Q v H')
def CR(CX:CXT)(outer:List Env)(P:Program)(w:World)(H:Hp)(s:Shared)(Q:VK)(E:XK)(r:Result)(s':Shared):Prop :=
 match r with
 | .ok (.ret u)=>CE outer P w H s Q u s'
 | .ok _=>False
 | .error e=>CX outer H s E e s'
structure FnOk(P:Program)(w:World)(K:PySem.W.Frag)(mg:Str->Option Value)(base:Heap)(CX:CXT)(k:Nat)(f:Addr)(fd:FuncData)(ps:List Str)(sp:Sp):Prop where
 len:∀ vs H Q E,sp vs H Q E->vs.length=ps.length
 run:∀ (A:Around) (outer:List Env) (s:Shared) (H:Hp) (args:Args) (us:List Value) (vs:List V) (Q:VK) (E:XK),Room k A->Env0 P w K mg base A outer s H->BindsTo s fd args (ps.zip us)->ar vs us->sp vs H Q E ->
  codeAny (model P w) A (.call (.ref f) args) (CR CX outer P w H s Q E) s
theorem Env0.in1{P:Program}{w:World}{K:PySem.W.Frag}{mg:Str->Option Value}{base:Heap}{A:Around}{outer:List Env}{s:Shared}{H:Hp}(e:Env0 P w K mg base A outer s H) :
  Env0 P w K mg base A.in1 outer s H:=⟨e.frames,e.mod,e.bs,e.bsz,e.funs,e.frf,e.hok,e.bare⟩
section
variable{X:Cx}{pins:List (Addr×Obj)}{σ:St}{H:Hp}{s s':Shared}
theorem Inv.env0(I:Inv X pins σ H s):Env0 X.prog X.w X.K X.mg X.base X.A X.stack s H :=
 ⟨I.ok.frames,I.ok.mod,I.bs,Nat.le_trans I.ok.bsz I.sz,I.stack,I.stkFree,I.hok,I.bare⟩
theorem Inv.after(I:Inv X pins σ H s)(h:CE X.stack X.prog X.w H s Q u s'):EP X pins σ Q u s':=by
 obtain⟨v,H',os,bare,un,hok,r,q⟩:=h
 obtain⟨hh,g,d,t,os'⟩:=s'
 obtain rfl:os'=s.os:=os
 exact⟨v,H',I.call (h':=hh) (g':=g) (d':=d) (t':=t) (ch:=[]) un hok bare (fun b z=>absurd z (by simp)),r,q⟩
end
def Cr(sp:Sp)(dvs:List V)(E:XK)(t:TA):TE:=fun σ H Q=>t σ H fun vs H1=>sp (vs++dvs) H1 Q E
def om(K:PySem.W.Frag)(fd:FuncData)(ps:List Str)(ds:List Value):Prop :=
 ∀ (s:Shared) (us:List Value),K.In s.heap->(us++ds).length=ps.length->BindsTo s fd ⟨us,[]⟩ (ps.zip (us++ds))
theorem om.all{K:PySem.W.Frag}{fd:FuncData}{ps:List Str}(h:∀ us:List Value,us.length=ps.length->bindArgs fd ⟨us,[]⟩=pure (ps.zip us)):om K fd ps []:=fun s us _ hl=>by
 rw[List.append_nil] at hl ⊢
 exact .of_eq (h us hl)
def wS(CX:CXT)(X:Cx)(E:XK):Prop:=∀ (pins:List (Addr×Obj)) (σ:St) (H:Hp) (s:Shared) (e:Value) (s':Shared),Inv X pins σ H s->CX X.stack H s E e s'->X.xe e s'
section
variable{X:Cx}{CX:CXT}{k:Nat}{f C:Addr}{fd:FuncData}{ps:List Str}{sp:Sp}{dvs:List V}{ds:List Value}{E:XK}{x m:Str}{p pos apos:Pos}{e o:Expr}{es:List Expr}{ta:TE}{t:TA}
theorem CA(F:FnOk X.prog X.w X.K X.mg X.base CX k f fd ps sp)(hr:Room k X.A)(hb:om X.K fd ps ds)(hd:ar dvs ds)(hx:wS CX X E)
  (I:Inv X pins σ H s) (r:ar vs us) (h:sp (vs++dvs) H Q E):wpAny (model X.prog X.w) X.A (call (.ref f) us) (EP X pins σ Q) X.xe s:=by
 have r2:ar (vs++dvs) (us++ds):=r.append hd
 have hl:(us++ds).length=ps.length:=by rw[← r2.length]; exact F.len _ _ _ _ h
 refine wpAny_call (codeAny_mono (F.run X.A X.stack s H ⟨us,[]⟩ (us++ds) (vs++dvs) Q E hr I.env0 (hb s us I.kIn hl) r2 h) fun r s' hq=>?_)
 cases r with
 | error e=>exact hx pins σ H s e s' I hq
 | ok fl =>
  cases fl with
  | ret u=>exact I.after hq
  | next=>exact False.elim hq
  | brk=>exact False.elim hq
  | cont=>exact False.elim hq
theorem Ax(F:FnOk X.prog X.w X.K X.mg X.base CX k f fd ps sp)(hr:Room k X.A)(hg:Gl X x)(hm:X.mg x=some (.ref f))(hk:PySem.W.keepIn X.K (.ref f)=true)(hb:om X.K fd ps ds)(hd:ar dvs ds)(hx:wS CX X E)
  (ha:PA X (e::es) t) (hdb:(x==("__debug__":Str))=false:=by decide) (he:starEach (e::es) X.env=(false,eval e X.env)::starEach es X.env:=by rfl) (hpl:(backTo pos (starEach es X.env)).any (·.1)=false:=by rfl) :
  PE X (.Call (.Name x p) (e::es) [] pos) (Cr sp dvs E t):=by
 intro pins s σ H Q I h
 refine wpAny_Call_Name_kw (Ba I hg hm ?_ hdb)
 refine PySem.W.callWith_K (h₀:=X.base) I.ok.mod.kin hk (thn (ha pos pins s σ H _ I h) fun us s1 ⟨vs,H1,I1,r,q⟩=>⟨I1.kIn,?_⟩) he hpl
 exact CA F hr hb hd hx I1 r q
structure Mk(K:PySem.W.Frag)(C f:Addr):Prop where
 makes:PySem.W.makesIn K C=true
 init:PySem.W.findIn K (.ref C) "__init__" = some (some (.ref f))
 fn:PySem.W.isFn K (.ref f)=true
 kp:PySem.W.keepIn K (.ref C)=true
end
section
variable{X:Cx}{CX:CXT}{k:Nat}{f C:Addr}{fd:FuncData}{ps ks:List Str}{sp:Sp}{E:XK}{x m:Str}{p pos apos kpos:Pos}{e o:Expr}{es:List Expr}{kws:List Keyword}{te ta:TE}{t tk:TA}{nm:Option Str}
structure KBinds(K:PySem.W.Frag)(fd:FuncData)(ps ks:List Str)(g:List Value->List Value->List Value)(gV:List V->List V->List V):Prop where
 to:∀ (s:Shared) (us ws:List Value),K.In s.heap->(g us ws).length=ps.length->BindsTo s fd ⟨us,ks.zip ws⟩ (ps.zip (g us ws))
 rel:∀ {vs:List V}{us:List Value}{zs:List V}{ws:List Value},ar vs us->ar zs ws->ar (gV vs zs) (g us ws)
variable{g:List Value->List Value->List Value}{gV:List V->List V->List V}
end
structure FnScope(N P:List Str)(sc:Scope):Prop where
 kind:sc.kind=.function
 co:sc.isCoroutine=false
 gen:sc.isGenerator=false
 nd:N.Nodup
 pre:N.take P.length=P
 par:∀ x∈P,sc.names.lookup x=some .local\/sc.names.lookup x=some .cell
 nofree:∀ y∈sc.names,y.2≠.free
theorem nW{kindOf:Str->Option NameKind}{x:Str}:∀ {binds:List (Str×Value)}{m:Str->Option Value},(∀ v,(x,v)∉binds)->bindL kindOf binds m x=m x
 | [],_,_=>rfl
 | (n,v)::r,m,h=>by
  unfold bindL
  rw[nW fun w hw=>h w (List.mem_cons_of_mem _ hw)]
  split
  ·have:x≠n:=by rintro rfl; exact h v List.mem_cons_self
   simp[this]
  ·rfl
theorem nY{kindOf:Str->Option NameKind}{x:Str}:∀ {binds:List (Str×Value)}{m:Str->Option Value},(∀ v,(x,v)∉binds)->bindC kindOf binds m x=m x
 | [],_,_=>rfl
 | (n,v)::r,m,h=>by
  unfold bindC
  rw[nY fun w hw=>h w (List.mem_cons_of_mem _ hw)]
  split
  ·rfl
  ·have:x≠n:=by rintro rfl; exact h v List.mem_cons_self
   simp[this]
theorem nX{kindOf:Str->Option NameKind}{x:Str}{v:Value}:∀ {P:List Str}{vs:List Value}{i:Nat}{m:Str->Option Value},P.Nodup->P[i]?=some x->vs[i]?=some v->kindOf x=some .local ->
  bindL kindOf (P.zip vs) m x=some v
 | [],_,_,_,_,h,_,_=>by simp at h
 | _::_,[],_,_,_,_,h,_=>by simp at h
 | p::P,w::vs,0,m,nd,h1,h2,hk=>by
  simp at h1 h2; subst h1; subst h2
  show bindL kindOf ((p,w)::P.zip vs) m p=_
  unfold bindL
  rw[nW fun v hv=>(List.nodup_cons.mp nd).1 (List.of_mem_zip hv).1,if_pos hk]
  simp
 | p::P,w::vs,i+1,m,nd,h1,h2,hk=>by
  show bindL kindOf ((p,w)::P.zip vs) m x=_
  unfold bindL
  exact nX (i:=i) (List.nodup_cons.mp nd).2 (by simpa using h1) (by simpa using h2) hk
theorem nZ{kindOf:Str->Option NameKind}{x:Str}{v:Value}:∀ {P:List Str}{vs:List Value}{i:Nat}{m:Str->Option Value},P.Nodup->P[i]?=some x->vs[i]?=some v->kindOf x≠some .local ->
  bindC kindOf (P.zip vs) m x=some v
 | [],_,_,_,_,h,_,_=>by simp at h
 | _::_,[],_,_,_,_,h,_=>by simp at h
 | p::P,w::vs,0,m,nd,h1,h2,hk=>by
  simp at h1 h2; subst h1; subst h2
  show bindC kindOf ((p,w)::P.zip vs) m p=_
  unfold bindC
  rw[nY fun v hv=>(List.nodup_cons.mp nd).1 (List.of_mem_zip hv).1,if_neg hk]
  simp
 | p::P,w::vs,i+1,m,nd,h1,h2,hk=>by
  show bindC kindOf ((p,w)::P.zip vs) m x=_
  unfold bindC
  exact nZ (i:=i) (List.nodup_cons.mp nd).2 (by simpa using h1) (by simpa using h2) hk
def start(N:List Str)(vs:List V):St:=vs.map some++List.replicate (N.length-vs.length) none
def nS(CX:CXT)(P:Program)(w:World)(K:PySem.W.Frag)(mg:Str->Option Value)(base:Heap)(N:List Str)(qual:Str)(scope:Scope)(f:Addr)(cd:Value)(A:Around)(outer:List Env)(s:Shared)(H:Hp)(E:XK):Cx where
 prog:=P
 w:=w
 K:=K
 mg:=mg
 base:=base
 A:=A.deeper (envOfC qual scope s.heap.objs.size f cd)
 N:=N
 s₀:=s
 H₀:=H
 env:=envOfC qual scope s.heap.objs.size f cd
 outer:=outer
 stack:=envOfC qual scope s.heap.objs.size f cd::outer
 ex:=[]
 calm:=true
 fn:=fun _=>true
 pn:=[]
 xe:=fun e s'=>wpAny (model P w) (A.deeper (envOfC qual scope s.heap.objs.size f cd)) (leaving (envOfC qual scope s.heap.objs.size f cd) e) (fun _ s''=>CX outer H s E e s'') (fun e' s''=>CX outer H s E e' s'') s'
theorem rR{sc:Scope}{n:Nat}{x:Str}(h:sc.names.lookup x=some .cell):∃ c,(cellsFrom n sc.names []).lookup x=some c:=by
 have q:=PySem.W.cellsFrom_some sc.names n [] (.inl h)
 exact Option.isSome_iff_exists.mp q
theorem nA{CX:CXT}{P:Program}{w:World}{K:PySem.W.Frag}{mg:Str->Option Value}{base:Heap}{N ps:List Str}{qual:Str}{scope:Scope}{f:Addr}{cd:Value}{A:Around}{outer:List Env}{s s1:Shared}{H:Hp}{E:XK}{us:List Value}{vs:List V}
  (S:FnScope N ps scope) (hd:A.handled=none) (e0:Env0 P w K mg base A outer s H) (hl:vs.length=ps.length) (r:ar vs us)
  (x:InCallC s s.heap.objs.size (bindL (envOfC qual scope s.heap.objs.size f cd).kindOf (ps.zip us) fun _=>none) (cellsFrom (s.heap.objs.size+1) scope.names []) (bindC (envOfC qual scope s.heap.objs.size f cd).kindOf (ps.zip us) fun _=>none) s1) :
  Inv (nS CX P w K mg base N qual scope f cd A outer s H E) [] (start N vs) H s1:=by
 have hpl:ps.length<=N.length:=by have:=congrArg List.length S.pre; rw[List.length_take] at this; lia
 obtain⟨h1,tk,rfl,hk⟩:=x.done
 have noA:∀ b:Addr,b∉(nS CX P w K mg base N qual scope f cd A outer s H E).ex:=fun b z=>absurd (show b∈([]:List Addr) from z) (by simp)
 refine⟨⟨e0.mod,S.kind,rfl,rfl,Nat.le_refl _,fun y z c h1 h2=>?_,fun y hy=>?_,fun y c _ h=>?_,fun _=>hd,Around.frames_deeper e0.frames,.inr ⟨rfl,rfl⟩,fun b z=>absurd z (noA b),e0.bs,e0.bsz,fun b _ _=>noA b,fun b z=>absurd z (noA b),e0.funs,e0.frf⟩,
  rfl,e0.bare,Un.kept hk,⟨_,x.toInCall.ns,fun i y v h1 h2 h3=>?_⟩,fun y c h=>⟨_,x.cell y c h⟩,e0.hok.fresh (Nat.le_refl _),fun y c h=>?_,fun p hp=>absurd (show p∈([]:List (Addr×Obj)) from hp) (by simp),e0.hok.kept hk,?_⟩
 ·exact name_of_addr x.apart (PySem.mem_of_lookup h1) (PySem.mem_of_lookup h2)
 ·have hy:scope.names.lookup y=some .cell\/scope.names.lookup y=some .free:=hy
  rcases hy with hy | hy
  ·exact rR hy
  ·exact absurd rfl (S.nofree _ (PySem.mem_of_lookup hy))
 ·exact Nat.le_of_lt (x.above y c (PySem.mem_of_lookup h))
 ·have hi:i < vs.length:=by
   unfold start at h2
   by_cases hi:i < vs.length
   ·exact hi
   ·rw[List.getElem?_append_right (by simpa using hi)] at h2
    rw[List.getElem?_replicate] at h2
    split at h2 <;> cases h2
  have ha:vs[i]?=some v:=by
   unfold start at h2
   rw[List.getElem?_append_left (by simpa using hi),List.getElem?_map] at h2
   cases e:vs[i]? with
   | none=>rw[e] at h2; cases h2
   | some a=>rw[e] at h2; cases h2; rfl
  obtain⟨u,hu,rv⟩:=r.get ha
  have hp:ps[i]?=some y:=by
   rw[← S.pre,List.getElem?_take_of_lt (by lia)]; exact h1
  have ndP:ps.Nodup:=by rw[← S.pre]; exact S.nd.sublist (List.take_sublist _ _)
  refine⟨u,rv,?_⟩
  rcases S.par y (List.mem_of_getElem? hp) with k | k
  ·exact .inl ⟨k,nX ndP hp hu k⟩
  ·obtain⟨c,e⟩:=rR (n:=s.heap.objs.size+1) k
   refine .inr ⟨.inl k,c,e,?_⟩
   have q:=x.cell y c e
   rw[nZ ndP hp hu (by show scope.names.lookup y≠_; rw[k]; decide)] at q
   exact q
 ·exact e0.hok.fresh (Nat.le_of_lt (x.above y c (PySem.mem_of_lookup h)))
 ·unfold start
  show _=N.length
  rw[List.length_append,List.length_map,List.length_replicate]
  lia
theorem En{CX:CXT}{P:Program}{w:World}{K:PySem.W.Frag}{mg:Str->Option Value}{base:Heap}{k:Nat}{f:Addr}{name qual:Str}{params:Arguments}{body:List Stmt}{scope:Scope}{dV kV doc pm cdv ct oc:Value}{an od:Option Addr}
  {osl:Array (Option Value)}{N ps:List Str}{sp:Sp} (lk:K.lookup f=some ⟨oc,od,.func (PySem.W.fnOf name qual params body scope dV kV doc pm an cdv ct),osl⟩) (hcd:PySem.W.codeIn K cdv qual=true) (S:FnScope N ps scope)
  (len:∀ vs H Q E,sp vs H Q E->vs.length=ps.length)
  (hbody:∀ (A:Around) (outer:List Env) (s:Shared) (H:Hp) (vs:List V) (Q:VK) (E:XK),Room k (A.deeper (envOfC qual scope s.heap.objs.size f cdv))->sp vs H Q E ->
   ∃ t,PSs (nS CX P w K mg base N qual scope f cdv A outer s H E) body t/\t { nx:=fun _ H'=>Q .non H',rt:=Q } (start N vs) H) :
  FnOk P w K mg base CX (k+1) f (PySem.W.fnOf name qual params body scope dV kV doc pm an cdv ct) ps sp:=by
 refine⟨len,fun A outer s H args us vs Q E hr e0 hb r hsp=>?_⟩
 have hl:=len _ _ _ _ hsp
 have KX:K.In s.heap:=e0.mod.kin.keeps fun b o e=>(e0.bs b o e).1
 have lim:s.heap.NoLimit:=e0.mod.nolimit.keeps fun b o e=>(e0.bs b o e).1
 have hkind:∀ y∈ps.zip us,scope.names.lookup y.1=some .local\/(scope.names.lookup y.1=some .cell/\((cellsFrom (s.heap.objs.size+1) scope.names []).lookup y.1).isSome=true):=fun ⟨n,v⟩ hy=>by
  rcases S.par n (List.of_mem_zip hy).1 with q | q
  ·exact .inl q
  ·exact .inr ⟨q,PySem.W.cellsFrom_some _ _ _ (.inl q)⟩
 refine codeAny_call_function hr.depth (KX _ _ lk) rfl S.co S.gen rfl (PySem.W.codeRec_of KX hcd) (hb _ _ _ _ ?_)
 refine wpAny_newFunctionEnv_cells S.kind hkind fun env he s1 x=>?_
 subst he
 refine⟨lim.keeps x.toInCall.keep,codeAny_func ?_⟩
 obtain⟨t,ht,hq⟩:=hbody A outer s H vs Q E (hr.deeper _) hsp
 have I:Inv (nS CX P w K mg base N qual scope f cdv A outer s H E) [] (start N vs) H s1:=nA S hr.hd e0 hl r x
 refine wpAny_mono (ht [] s1 (start N vs) H _ I hq) (fun fl s' hs=>?_) fun e s' hs=>hs
 have fin:∀ {σ':St}{H':Hp}{v:V}{u:Value},Inv (nS CX P w K mg base N qual scope f cdv A outer s H E) [] σ' H' s'->aJ v u->Q v H'->CE outer P w H s Q u s' :=
  fun {σ' H' v u} J rv q=>⟨v,H',J.os,J.bare,J.base,J.hok,rv,q⟩
 cases fl with
 | ret u =>
  obtain⟨v,σ',H',J,rv,q⟩:=hs
  exact fin J rv q
 | next =>
  obtain⟨σ',H',J,q⟩:=hs
  exact fin (v:=V.non) (u:=Value.none) J rfl q
 | brk =>
  obtain⟨_,_,_,q⟩:=hs
  exact False.elim q
 | cont =>
  obtain⟨_,_,_,q⟩:=hs
  exact False.elim q
end L2
namespace L2
open PySem PySem.Spec PyProof.Rows
section
variable{X:Cx}{x:Str}{p pos:Pos}{e:Expr}{es:List Expr}{t:TA}{id T:String}{r:List V->Hp->VK->Prop}
def tCB(r:List V->Hp->VK->Prop)(t:TA):TE:=fun σ H Q=>t σ H fun vs H1=>r vs H1 Q
theorem xB(hc:fE X (.builtin id) r)(hg:Gl X x)(hm:X.mg x=none)(hv:bootBuiltins x=some (.builtin id))(ha:PA X (e::es) t)(hn:x≠"__name__":=by decide)(hdb:(x==("__debug__":Str))=false:=by decide)
  (he:starEach (e::es) X.env=(false,eval e X.env)::starEach es X.env:=by rfl) (hpl:(backTo pos (starEach es X.env)).any (·.1)=false:=by rfl):PE X (.Call (.Name x p) (e::es) [] pos) (tCB r t):=by
 intro pins s σ H Q I h
 refine wpAny_Call_Name_kw (fX I hg hm hv ?_ hn hdb)
 exact PyProof.Rows.callWith_builtin1 (thn (ha pos pins s σ H _ I h) fun us s1 ⟨vs,H1,I1,r1,q1⟩=>hc pins s1 σ H1 vs us Q I1 r1 q1) he hpl
theorem uU(hc:fE X (.type T) r)(hg:Gl X x)(hm:X.mg x=none)(hv:bootBuiltins x=some (.type T))(ha:PA X (e::es) t)(hn:x≠"__name__":=by decide)(hdb:(x==("__debug__":Str))=false:=by decide)
  (he:starEach (e::es) X.env=(false,eval e X.env)::starEach es X.env:=by rfl) (hpl:(backTo pos (starEach es X.env)).any (·.1)=false:=by rfl):PE X (.Call (.Name x p) (e::es) [] pos) (tCB r t):=by
 intro pins s σ H Q I h
 refine wpAny_Call_Name_kw (fX I hg hm hv ?_ hn hdb)
 exact PyProof.Rows.callWith_type1 (thn (ha pos pins s σ H _ I h) fun us s1 ⟨vs,H1,I1,r1,q1⟩=>hc pins s1 σ H1 vs us Q I1 r1 q1) he hpl
end
end L2
namespace HT
open PySem PyProof.Rows
theorem rcLt_int(A:Around)(s:Shared)(a:Int)(t:Tok)(c:Int)(u:Tok)(prog:Program)(w:World)(E:Value->Shared->Prop)(Q:Value->Shared->Prop)(h:Q (.bool (decide (a < c))) s) :
  wpAny (model prog w) A (richCompare .Lt (.int a t) (.int c u)) Q E s :=
 (PyProof.Rows.lt_int h:wpAny (model prog w) A (compareOp .Lt (.int a t) (.int c u)) Q E s)
section
open PySem.SeqAt
open PySem.AutoSeq1 (wpAny_loadPart')
open PySem.MeetsSeq PySem.MeetsSeq2 PySem.MeetsSeq3
end
section
variable{prog:Program}{w:World}{A:Around}{E:Value->Shared->Prop}{s:Shared}
theorem cat_tup(ht:IsTup s.heap t vs.toArray)(hb:IsTup s.heap b ws.toArray)(hv:vs≠[])
  (h1:ws=[]->Q (.ref t) s) (h2:ws≠[]->Q (.ref s.heap.objs.size) { s with heap:=s.heap.push { cls:=.type "tuple",data:=.seq (vs++ws).toArray } })
  (hsz:vs.length+ws.length<=sizeLine):wpAny (model prog w) A (binaryOp .Add (.ref t) (.ref b)) Q E s:=by
 obtain⟨⟨cls,dd,data,sl⟩,ho,hc,n,hd⟩:=id ht
 obtain⟨⟨cls2,dd2,data2,sl2⟩,ho2,hc2,n2,hd2⟩:=id hb
 simp only at hc hd hc2 hd2
 subst hc hd hc2 hd2
 have e:vs.toArray++ws.toArray=(vs++ws).toArray:=by simp
 by_cases hw:ws=[]
 ·exact concat_meets ⟨_,ho,rfl⟩ ⟨_,ho2,rfl⟩ noFill_tuple_add seq_tuple_add PySem.F.slot_tuple_add PySem.F.entry_tuple_add (PySem.F.args_tuple_add_2 _ _)
   (tuple_addW1 t b vs.toArray ws.toArray n n2 dd dd2 sl sl2 (by simpa using hv) (by simp[hw])) ⟨ho,ho2,h1 hw⟩
 ·refine concat_meets ⟨_,ho,rfl⟩ ⟨_,ho2,rfl⟩ noFill_tuple_add seq_tuple_add PySem.F.slot_tuple_add PySem.F.entry_tuple_add (PySem.F.args_tuple_add_2 _ _)
   (tuple_addW2 t b vs.toArray ws.toArray n n2 dd dd2 sl sl2 (by simpa using hv) (by simpa using hw) (by rw[List.size_toArray,List.size_toArray]; exact hsz)) ⟨ho,ho2,?_⟩
  rw[e]
  exact h2 hw
def sIx(n d:Nat):Option Int->Nat
 | none=>d
 | some v=>if v < 0 then (v+(n:Int)).toNat else min v.toNat n
theorem Cy(n d:Nat)(hd:d<=n)(o:Option Int):sIx n d o<=n:=by
 cases o with
 | none=>exact hd
 | some v =>
  show (if v < 0 then (v+(n:Int)).toNat else min v.toNat n)<=n
  by_cases hv:v < 0
  ·rw[if_pos hv]; lia
  ·rw[if_neg hv]; exact Nat.min_le_right _ _
theorem wG(v:Int)(n d:Nat):(if v < 0 then max (v+(n:Int)) 0 else min v (n:Int))=((sIx n d (some v):Nat):Int):=by
 show (if v < 0 then max (v+(n:Int)) 0 else min v (n:Int))=(((if v < 0 then (v+(n:Int)).toNat else min v.toNat n):Nat):Int)
 by_cases hv:v < 0
 ·simp only[if_pos hv]; lia
 ·simp only[if_neg hv]; lia
theorem tG(lo hi:Option Int)(n:Nat):Builtin.Slice.sliceAdjust lo hi 1 (n:Int)=(((sIx n 0 lo:Nat):Int),((sIx n n hi:Nat):Int)):=by
 have h1:¬ ((1:Int) < 0):=by lia
 unfold Builtin.Slice.sliceAdjust
 simp only[h1,if_false]
 refine Prod.ext ?_ ?_
 ·cases lo with
  | none=>rfl
  | some v=>exact wG v n 0
 ·cases hi with
  | none=>rfl
  | some v=>exact wG v n n
theorem sF(i j:Nat):Builtin.Slice.slicePlaces (i:Int) (j:Int) 1=j-i:=by
 unfold Builtin.Slice.slicePlaces
 have h1:(1:Int) > 0:=by lia
 simp only[h1,if_true,Int.ediv_one]
 split <;> lia
theorem kq(p:IsPart v o)(h:Q o s):wpAny (model prog w) A (Builtin.Slice.slicePartIndex v) Q E s:=by
 cases p with
 | none=>exact slicePart_none h
 | int i t=>exact slicePart_int h
theorem du{sl:Addr}{vl vu:Value}{lo hi:Option Int}{n:Nat}{Q:Int×Int×Nat->Shared->Prop}(hs:s.heap.IsSliceOf sl vl vu .none)(pl:IsPart vl lo)(pu:IsPart vu hi)
  (h:Q (((sIx n 0 lo:Nat):Int),1,sIx n n hi-sIx n 0 lo) s):wpAny (model prog w) A (Builtin.Slice.sliceApplied (.ref sl) (pure (n:Int))) Q E s:=by
 obtain⟨os,hos,hcs,hds⟩:=id hs
 unfold Builtin.Slice.sliceApplied Builtin.Slice.sliceFields
 refine wpAny_bind (wpAny_bind (wpAny_field hos hds (x:=vl) rfl (wpAny_bind (wpAny_field hos hds (x:=vu) rfl (wpAny_bind (wpAny_field hos hds (x:=.none) rfl (wpAny_pure ?_)))))))
 refine wpAny_bind (slicePart_none ?_)
 show wpAny _ _ (if ((1:Int)==0)=true then _ else _) _ _ s
 rw[if_neg (by decide)]
 refine wpAny_bind (kq pl (wpAny_bind (kq pu (wpAny_bind (wpAny_pure ?_)))))
 show wpAny _ _ (match Builtin.Slice.sliceAdjust lo hi 1 (n:Int) with | (lo,hi)=>pure (lo,(1:Int),Builtin.Slice.slicePlaces lo hi 1)) _ _ s
 rw[tG lo hi n]
 show wpAny _ _ (pure (((sIx n 0 lo:Nat):Int),(1:Int),Builtin.Slice.slicePlaces ((sIx n 0 lo:Nat):Int) ((sIx n n hi:Nat):Int) 1)) _ _ s
 rw[sF]
 exact wpAny_pure h
theorem xx(xs:Array Value)(i k:Nat):((List.range k).filterMap fun (m:Nat)=>xs[((i:Int)+(m:Int)*1).toNat]?).toArray=((xs.toList.drop i).take k).toArray:=by
 have e:(fun (m:Nat)=>xs[((i:Int)+(m:Int)*1).toNat]?)=fun m=>xs[i+m]?:=by
  funext m
  have:((i:Int)+(m:Int)*1).toNat=i+m:=by lia
  rw[this]
 rw[e]
 have:=pick_run xs i k
 rw[List.filterMap_map] at this
 have e2:((fun x=>xs[x]?) ∘ fun x=>i+x)=fun m=>xs[i+m]?:=rfl
 rw[e2] at this
 rw[this]
theorem getItem_tuple_cut{t sl:Addr}{items:Array Value}{vl vu:Value}{lo hi:Option Int}{Q:Value->Shared->Prop}(ht:IsTup s.heap t items)(hs:s.heap.IsSliceOf sl vl vu .none)(pl:IsPart vl lo)(pu:IsPart vu hi)
  (hw:¬ (sIx items.size 0 lo=0/\sIx items.size items.size hi=items.size))
  (h:Q (.ref s.heap.objs.size) { s with heap:=s.heap.push { cls:=.type "tuple",data:=.seq ((items.toList.drop (sIx items.size 0 lo)).take (sIx items.size items.size hi-sIx items.size 0 lo)).toArray } })
  (hsz:items.size<=sizeLine):wpAny (model prog w) A (getItem (.ref t) (.ref sl)) Q E s:=by
 have htake:sizeOk (.seq ((items.toList.drop (sIx items.size 0 lo)).take (sIx items.size items.size hi-sIx items.size 0 lo)).toArray):=by
  show ((items.toList.drop (sIx items.size 0 lo)).take (sIx items.size items.size hi-sIx items.size 0 lo)).toArray.size<=sizeLine
  rw[List.size_toArray,List.length_take,List.length_drop,Array.length_toList]
  lia
 have hj:sIx items.size items.size hi<=items.size:=Cy _ _ (Nat.le_refl _) hi
 obtain⟨os,hos,hcs,hds⟩:=id hs
 have hTs:s.TypeIs (.ref sl) "slice":=⟨os,hos,hcs⟩
 unfold getItem
 try with_reducible refine wpAny_holding ?_
 first | refine wpAny_bind (wpAny_pure ?_) | skip
 refine wpAny_bind (wpAny_sequenceKey ht.typeIs (by decide) ?_)
 refine wpAny_bind (wpAny_callSpecial?_slot (name:=Str.ofString "__getitem__") ht.typeIs PyProof.Rows.slot_tuple_getitem
  (wpAny_call_entry PyProof.Rows.slot_tuple_getitem ht.typeIs entry_tuple_getitem ?_ (args_tuple_getitem _ _)))
 show wpAny _ _ (Builtin.Tuple.tupleItemsOf (.ref t) >>= _) _ _ s
 refine wpAny_bind (tupleItemsOf_ ht ?_)
 refine wpAny_bind (wpAny_typeOf hTs ?_)
 rw[if_pos (by decide)]
 refine wpAny_bind (du hs pl pu ?_)
 have hno:¬ ((((sIx items.size 0 lo:Nat):Int)==0&&(1:Int)==1&&(sIx items.size items.size hi-sIx items.size 0 lo)==items.size)=true):=by
  intro q
  rw[Bool.and_eq_true,Bool.and_eq_true] at q
  have q1:((sIx items.size 0 lo:Nat):Int)=0:=eq_of_beq q.1.1
  have q2:sIx items.size items.size hi-sIx items.size 0 lo=items.size:=eq_of_beq q.2
  exact hw ⟨by lia,by lia⟩
 show wpAny _ _ (if (((sIx items.size 0 lo:Nat):Int)==0&&(1:Int)==1&&(sIx items.size items.size hi-sIx items.size 0 lo)==items.size)=true then _ else _) _ _ s
 rw[if_neg hno,xx]
 first
  | exact wpAny_bind (m:=Builtin.Tuple.tupleExact _) (wpAny_newObj_type (wpAny_pure ⟨_,rfl,wpAny_pure h⟩) htake)
  | exact wpAny_bind (m:=Builtin.Tuple.tupleExact _) (wpAny_newObj_type (wpAny_bind (wpAny_pure (wpAny_pure ⟨_,rfl,wpAny_pure h⟩))) htake)
  | exact wpAny_bind (wpAny_bind (m:=Builtin.Tuple.tupleExact _) (wpAny_newObj_type (wpAny_pure (wpAny_pure ⟨_,rfl,wpAny_pure h⟩)) htake))
  | exact wpAny_bind (wpAny_bind (m:=Builtin.Tuple.tupleExact _) (wpAny_newObj_type (wpAny_pure ⟨_,rfl,wpAny_pure h⟩) htake))
end
end HT
namespace L2
open PySem PySem.Spec PyProof.Rows
abbrev TO:=St->Hp->(Option Int->Hp->Prop)->Prop
def PO(X:Cx)(e:Option Expr)(t:TO):Prop :=
 ∀ (pins:List (Addr×Obj)) (s:Shared) (σ:St) (H:Hp) (Q:Option Int->Hp->Prop),Inv X pins σ H s->t σ H Q ->
  wpAny (model X.prog X.w) X.A (evalPart e X.env) (fun u s'=>∃ o H',Inv X pins σ H' s'/\IsPart u o/\Q o H') X.xe s
def zW:TO:=fun _ H Q=>Q none H
def tPart(t:TE):TO:=fun σ H Q=>t σ H fun x H1=>∃ i,x=.int i/\Q (some i) H1
section
variable{X:Cx}{e:Expr}{te:TE}{lo hi:Option Expr}{tl th:TO}{pos p2:Pos}
theorem As:PO X none zW:=by
 intro pins s σ H Q I h
 rw[evalPart_none]
 exact wpAny_pure ⟨none,H,I,.none,h⟩
theorem Ar(h:PE X e te):PO X (some e) (tPart te):=by
 intro pins s σ H Q I hw
 rw[evalPart_some]
 refine thn (h pins s σ H _ I hw) fun u s1 ⟨x,H1,I1,r1,q1⟩=>?_
 obtain⟨i,rfl,q⟩:=q1
 obtain⟨t,rfl⟩:=r1
 exact⟨some i,H1,I1,.int i t,q⟩
def SlR(X:Cx)(r:V->Option Int->Option Int->Hp->VK->Prop):Prop :=
 ∀ (pins:List (Addr×Obj)) (s:Shared) (σ:St) (H:Hp) (x:V) (v vl vu:Value) (lo hi:Option Int) (sl:Addr) (Q:VK),Inv X pins σ H s->aJ x v->s.heap.IsSliceOf sl vl vu .none->IsPart vl lo->IsPart vu hi->r x lo hi H Q ->
  ∃ T id,typeLookup (.type T) "__getitem__" = pure (some (.builtin id))/\s.TypeIs v T/\wpAny (model X.prog X.w) X.A (getItem v (.ref sl)) (EP X pins σ Q) X.xe s
def tSl(r:V->Option Int->Option Int->Hp->VK->Prop)(te:TE)(tl th:TO):TE:=fun σ H Q=>te σ H fun x H1=>tl σ H1 fun l H2=>th σ H2 fun u H3=>r x l u H3 Q
theorem xA(hr:SlR X r)(he:PE X e te)(hl:PO X lo tl)(hu:PO X hi th):PE X (.Subscript e (.Slice lo hi none p2) pos) (tSl r te tl th):=by
 intro pins s σ H Q I h
 refine Subscript_ (thn (he pins s σ H _ I h) fun v s1 ⟨x,H1,I1,r1,q1⟩=>?_)
 refine wpAny_Slice (thn (hl pins s1 σ H1 _ I1 q1) fun vl s2 ⟨l,H2,I2,pl,q2⟩=>thn (hu pins s2 σ H2 _ I2 q2) fun vu s3 ⟨u,H3,I3,pu,q3⟩=>?_)
 rw[evalPart_none]
 refine wpAny_pure ?_
 have I4:Inv X pins σ H3 { s3 with heap:=s3.heap.push { cls:=.type "slice",data:=.fields #[vl,vu,.none] } }:=I3.kept (t':=s3.toks) fun b ob q=>Heap.get?_push_of_some _ q
 obtain⟨T,id,hT,ht,hg⟩:=hr pins { s3 with heap:=s3.heap.push { cls:=.type "slice",data:=.fields #[vl,vu,.none] } } σ H3 x v vl vu l u s3.heap.objs.size Q I4 r1 (Heap.IsSliceOf.new ..) pl pu q3
 show wpAny (model X.prog X.w) X.A (subscriptTail e (.Slice lo hi none p2) v (.ref s3.heap.objs.size)) (EP X pins σ Q) X.xe { s3 with heap:=s3.heap.push { cls:=.type "slice",data:=.fields #[vl,vu,.none] } }
 exact tail_any (ops:=[.ref s3.heap.objs.size,v]) ht hT hg (by with_unfolding_all rfl)
def zK(xs:List V)(lo hi:Option Int):List V:=(xs.drop (HT.sIx xs.length 0 lo)).take (HT.sIx xs.length xs.length hi-HT.sIx xs.length 0 lo)
theorem jm(xs:List V)(lo hi:Option Int):(zK xs lo hi).length<=xs.length:=by
 unfold zK
 rw[List.length_take,List.length_drop]
 lia
def rSlT(K:PySem.W.Frag):V->Option Int->Option Int->Hp->VK->Prop:=fun x lo hi H Q=>∃ a xs,x=.ref a/\SqT K H a xs /\
 ¬ (HT.sIx xs.length 0 lo=0/\HT.sIx xs.length xs.length hi=xs.length)/\∀ p,H p=none->Q (.ref p) (upd H p (.tup (zK xs lo hi)))
theorem Cu:SlR X (rSlT X.K):=by
 intro pins s σ H x v vl vu lo hi sl Q I rx hs pl pu h
 obtain⟨a,xs,rfl,hx,hw,q⟩:=h
 cases rx
 obtain⟨its,r,ht,hz⟩:=I.tuple hx
 have hlen:its.toArray.size=xs.length:=by rw[List.size_toArray]; exact r.length.symm
 refine⟨"tuple",_,PyProof.Rows.slot_tuple_getitem.lookup,ht.typeIs,?_⟩
 refine HT.getItem_tuple_cut ht hs pl pu (by rw[hlen]; exact hw) ?_ (by rw[hlen]; exact hz)
 rw[hlen]
 refine⟨.ref s.heap.objs.size,_,I.laid (t':=s.toks) (o:=.tup (zK xs lo hi)) (fun b ob q=>Heap.get?_push_of_some _ q) (Nat.le_refl _) ?_,rfl,q _ (I.hok.fresh (Nat.le_refl _))⟩
 exact⟨Nat.le_trans (jm xs lo hi) hz,_,(r.drop (HT.sIx xs.length 0 lo)).take (HT.sIx xs.length xs.length hi-HT.sIx xs.length 0 lo),yL.new _ _⟩
def rCatT(K:PySem.W.Frag):R2:=fun x y H Q=>∃ a b xs ys,x=.ref a/\y=.ref b/\SqT K H a xs/\SqT K H b ys/\xs≠[]/\xs.length+ys.length<=sizeLine /\
 (ys=[]->Q (.ref a) H)/\(ys≠[]->∀ p,H p=none->Q (.ref p) (upd H p (.tup (xs++ys))))
theorem ar.nil_iff(r:ar xs us):us=[]↔xs=[]:=by
 cases r with
 | nil=>simp
 | cons _ _=>simp
theorem AF:OpR X (binaryOp .Add) (rCatT X.K):=by
 intro pins s σ H x y v u Q I rx ry h
 obtain⟨a,b,xs,ys,rfl,rfl,ha,hb,hx,hz,q1,q2⟩:=h
 cases rx
 cases ry
 obtain⟨its,r1,p1,_⟩:=I.tuple ha
 obtain⟨its2,r2,p2,_⟩:=I.tuple hb
 refine HT.cat_tup p1 p2 (fun z=>hx (r1.nil_iff.mp z)) (fun z=>⟨.ref a,H,I,rfl,q1 (r2.nil_iff.mp z)⟩) (fun z=>?_) (by rw[← r1.length,← r2.length]; exact hz)
 refine⟨.ref s.heap.objs.size,_,I.laid (t':=s.toks) (o:=.tup (xs++ys)) (fun b ob q=>Heap.get?_push_of_some _ q) (Nat.le_refl _) ?_,rfl,q2 (fun w=>z (r2.nil_iff.mpr w)) _ (I.hok.fresh (Nat.le_refl _))⟩
 exact⟨by rw[List.length_append]; exact hz,_,r1.append r2,yL.new _ _⟩
end
end L2
namespace L2
open PySem PySem.Spec PyProof.Rows
def ixN(n:Nat)(i:Int):Option Nat:=if 0<=i then (if i < n then some i.toNat else none) else if -(n:Int)<=i then some (i+n).toNat else none
def atI{α:Type}(xs:List α)(i:Int):Option α:=(ixN xs.length i).bind fun j=>xs[j]?
theorem wd(h:ixN n i=some j):seqIndex? i n=some j/\j < n/\-(n:Int)<=i/\i < n:=by
 unfold ixN at h
 by_cases h0:0<=i
 ·rw[if_pos h0] at h
  by_cases h1:i < n
  ·rw[if_pos h1] at h
   have e:i.toNat=j:=Option.some.inj h
   exact⟨by rw[seqIndex_of h0 h1,e],by lia,by lia,h1⟩
  ·rw[if_neg h1] at h; cases h
 ·rw[if_neg h0] at h
  by_cases h1:-(n:Int)<=i
  ·rw[if_pos h1] at h
   have e:(i+n).toNat=j:=Option.some.inj h
   exact⟨by rw[seqIndex_neg (by lia) h1,e],by lia,h1,by lia⟩
  ·rw[if_neg h1] at h; cases h
theorem pO{α:Type}{xs:List α}{i:Int}{v:α}(h:atI xs i=some v):∃ j,seqIndex? i xs.length=some j/\xs[j]?=some v/\j < xs.length/\-(xs.length:Int)<=i/\i < xs.length:=by
 unfold atI at h
 cases e:ixN xs.length i with
 | none=>rw[e] at h; cases h
 | some j =>
  rw[e] at h
  obtain⟨h1,h2,h3,h4⟩:=wd e
  exact⟨j,h1,h,h2,h3,h4⟩
theorem ay{α:Type}{xs:List α}{j:Nat}{v:α}(h:xs[j]?=some v):atI xs (j:Int)=some v:=by
 have hj:j < xs.length:=(List.getElem?_eq_some_iff.mp h).1
 have e:ixN xs.length (j:Int)=some j:=by
  unfold ixN
  rw[if_pos (by lia),if_pos (by lia)]; simp
 unfold atI; rw[e]; exact h
def pQ(b:Expr):Prop:=∀ o i,subscripted b false o i=operate [o,i] (getItem o i)
def IxR(X:Cx)(r:R2):Prop :=
 ∀ (value slice:Expr) (pins:List (Addr×Obj)) (s:Shared) (σ:St) (H:Hp) (x y:V) (v u:Value) (Q:VK),Inv X pins σ H s->aJ x v->aJ y u->r x y H Q ->
  subscripted slice false v u=operate [v,u] (getItem v u)->wpAny (model X.prog X.w) X.A (subscriptTail value slice v u) (EP X pins σ Q) X.xe s
def MtR(X:Cx)(id:String)(r:V->List V->Hp->VK->Prop):Prop :=
 ∀ (pins:List (Addr×Obj)) (s:Shared) (σ:St) (H:Hp) (x:V) (xs:List V) (v:Value) (us:List Value) (Q:VK),Inv X pins σ H s->aJ x v->ar xs us->r x xs H Q ->
  wpAny (model X.prog X.w) X.A (call (.builtin id) (v::us)) (EP X pins σ Q) X.xe s
section
variable{X:Cx}{a b:Expr}{ta tb:TE}{pos:Pos}
theorem IxR.or(h:IxR X r)(h':IxR X r'):IxR X (fun x y H Q=>r x y H Q\/r' x y H Q):=by
 intro value slice pins s σ H x y v u Q I rx ry q hs
 rcases q with q | q
 ·exact h value slice pins s σ H x y v u Q I rx ry q hs
 ·exact h' value slice pins s σ H x y v u Q I rx ry q hs
theorem pe_ix(hr:IxR X r)(ha:PE X a ta)(hb:PE X b tb)(hs:pQ b):PE X (.Subscript a b pos) (tOp r ta tb):=by
 intro pins s σ H Q I h
 exact Subscript_ (binT ha hb I h fun v u s2 x y H2 I2 rx ry q=>hr a b pins s2 σ H2 x y v u Q I2 rx ry q (hs _ _))
def rIxL(K:PySem.W.Frag):R2:=fun x y H Q=>∃ p xs i v,x=.ref p/\y=.int i/\SqL K H p xs/\atI xs i=some v/\Q v H
def rIxT(K:PySem.W.Frag):R2:=fun x y H Q=>∃ p xs i v,x=.ref p/\y=.int i/\SqT K H p xs/\atI xs i=some v/\Q v H
def rIxS:R2:=fun x y H Q=>∃ z i c,x=.str z/\y=.int i/\z.length<=sizeLine/\atI z.cps.toList i=some c/\Q (.str ⟨#[c]⟩) H
theorem Bi:IxR X (rIxL X.K):=by
 intro value slice pins s σ H x y v u Q I rx ry h hs
 obtain⟨p,xs,i,z,rfl,rfl,hq,he,q⟩:=h
 cases rx
 obtain⟨t,rfl⟩:=ry
 obtain⟨its,r,pl,hz⟩:=I.list hq
 obtain⟨j,h1,h2,h3,h4,h5⟩:=pO he
 obtain⟨w,ew,rw'⟩:=r.get h2
 have hl:=r.length
 have hn:=kA
 have fin:EP X pins σ Q w s:=⟨z,H,I,rw',q⟩
 by_cases h0:0<=i
 ·have hj:i.toNat=j:=by
   rw[seqIndex_of h0 h5] at h1
   exact Option.some.inj h1
  exact item_listR pl.isList h0 (by lia) (by rw[hj]; simpa using ew) fin hs
 ·have hj:(i+(its.toArray.size:Int)).toNat=j:=by
   rw[seqIndex_neg (by lia) h4] at h1
   rw[List.size_toArray,← hl]
   exact Option.some.inj h1
  exact subscriptTail_builtinR (x:=w) pl.isList.typeIs slot_list_getitem.lookup
   (wpAny_getItem_list_neg (Q:=fun r s'=>r=w/\EP X pins σ Q r s') pl.isList (by lia) (by rw[List.size_toArray] <;> lia) (by lia) (by rw[hj]; simpa using ew) ⟨rfl,fin⟩) hs
theorem DY:IxR X (rIxT X.K):=by
 intro value slice pins s σ H x y v u Q I rx ry h hs
 obtain⟨p,xs,i,z,rfl,rfl,hq,he,q⟩:=h
 cases rx
 obtain⟨t,rfl⟩:=ry
 obtain⟨its,r,pl,hz⟩:=I.tuple hq
 obtain⟨j,h1,h2,h3,h4,h5⟩:=pO he
 obtain⟨w,ew,rw'⟩:=r.get h2
 have hl:=r.length
 have hn:=kA
 have fin:EP X pins σ Q w s:=⟨z,H,I,rw',q⟩
 exact subscriptTail_builtinR (x:=w) pl.typeIs slot_tuple_getitem.lookup
  (getItem_tuple (j:=j) (Q:=fun r s'=>r=w/\EP X pins σ Q r s') pl (by lia) (by lia) (by rw[List.size_toArray,← hl]; exact h1) (by simpa using ew) ⟨rfl,fin⟩) hs
theorem DZ:IxR X rIxS:=by
 intro value slice pins s σ H x y v u Q I rx ry h hs
 obtain⟨z,i,c,rfl,rfl,hz,he,q⟩:=h
 obtain⟨t,rfl⟩:=rx
 obtain⟨t',rfl⟩:=ry
 obtain⟨j,h1,h2,h3,h4,h5⟩:=pO he
 have hl:z.cps.toList.length=z.length:=by simp[Str.length]
 rw[hl] at h1 h4 h5
 have hn:=kA
 exact tail_any (typeIs_str s z t) slot_str_getitem.lookup (getItem_str (c:=c) (by
  have e1:decide (i < -(2 ^ 63:Int))=false:=decide_eq_false (by lia)
  have e2:decide (i ≥ 2 ^ 63)=false:=decide_eq_false (by lia)
  rw[e1,e2,Bool.or_false]) (by rw[h1]; simpa using h2) ⟨.str ⟨#[c]⟩,H,I.tok _,⟨_,rfl⟩,q⟩) hs
def rIx(K:PySem.W.Frag):R2:=fun x y H Q=>rIxL K x y H Q\/rIxT K x y H Q\/rIxS x y H Q
theorem Ea:IxR X (rIx X.K):=Bi.or (DY.or DZ)
theorem sL(its:List Value)(n j:Nat)(u:Value):Obj.mapSeq (·.setIfInBounds j u) { cls:=.type "list",data:=.seq its.toArray n }={ cls:=.type "list",data:=.seq (its.set j u).toArray n }:=by
 simp[Obj.mapSeq]
theorem Inv.lst(I:Inv X pins σ H s)(h:H p=some (.lst xs)) :
  ∃ (its:List Value) (n:Nat),ar xs its/\s.heap.get? p=some { cls:=.type "list",data:=.seq its.toArray n }/\xs.length<=sizeLine:=by
 obtain⟨z,its,n,r,e⟩:=I.hok p _ h
 exact⟨its,n,r,e,z⟩
theorem Inv.lstUpd{pins:List (Addr×Obj)}{σ:St}{H:Hp}{s:Shared}{p:Addr}{xs ys:List V}{its its':List Value}{n n':Nat}{f:Obj->Obj}(I:Inv X pins σ H s)(h:H p=some (.lst xs))
  (ho:s.heap.get? p=some { cls:=.type "list",data:=.seq its.toArray n }) (hf:f { cls:=.type "list",data:=.seq its.toArray n }={ cls:=.type "list",data:=.seq its'.toArray n' }) (r:ar ys its') (hz:ys.length<=sizeLine) (t:Nat) :
  Inv X pins σ (upd H p (.lst ys)) { s with heap:=s.heap.update p f,toks:=t }:=by
 have e:(s.heap.update p f).get? p=some { cls:=.type "list",data:=.seq its'.toArray n' }:=by
  rw[Heap.get?_update_self f ho (by rw[hf] <;> rfl),hf]
 refine I.write (x:=p) (e:=p) (by rw[h]; trivial) (.inl rfl) (fun b u hb q=>(Heap.get?_update_other _ _ (Ne.symm hb)).trans q) ⟨_,e⟩ ?_
 exact⟨hz,its',n',r,e⟩
def rSetL:V->V->V->Hp->(Hp->Prop)->Prop:=fun o i v H Q=>∃ p xs k j,o=.ref p/\i=.int k/\H p=some (.lst xs)/\ixN xs.length k=some j/\Q (upd H p (.lst (xs.set j v)))
theorem xn:PSet X rSetL:=by
 intro pins s σ H o i v ov iv u Q I ro ri rv h
 obtain⟨p,xs,k,j,rfl,rfl,hp,hj,q⟩:=h
 cases ro
 obtain⟨t,rfl⟩:=ri
 obtain⟨its,n,r,ho,hz⟩:=I.lst hp
 obtain⟨h1,h2,h3,h4⟩:=wd hj
 have hl:=r.length
 have hn:=kA
 have I':Inv X pins σ (upd H p (.lst (xs.set j v))) { s with heap:=s.heap.update p (Obj.mapSeq (·.setIfInBounds j u)) } :=
  I.lstUpd hp ho (sL its n j u) (r.set rv j) (by rw[List.length_set]; exact hz) s.toks
 by_cases h0:0<=k
 ·have hk:k.toNat=j:=by
   rw[seqIndex_of h0 h4] at h1
   exact Option.some.inj h1
  exact PySem.W.ki_setAt ho h0 (by lia) (by rw[List.size_toArray,← hl]; exact h4) (by rw[hk]; exact⟨_,I',q⟩)
 ·have hk:(k+(its.toArray.size:Int)).toNat=j:=by
   rw[seqIndex_neg (by lia) h3] at h1
   rw[List.size_toArray,← hl]
   exact Option.some.inj h1
  exact PySem.W.ki_setBack ho (by lia) (by rw[List.size_toArray,← hl]; exact h3) (by lia) (by rw[hk]; exact⟨_,I',q⟩)
theorem mK(lo hi:Option Int)(n:Nat):(sliceBounds lo hi none n).1=((HT.sIx n 0 lo:Nat):Int)/\(sliceBounds lo hi none n).2.1=((HT.sIx n n hi:Nat):Int)/\(sliceBounds lo hi none n).2.2=1:=by
 refine⟨?_,?_,rfl⟩
 ·cases lo with
  | none=>simp[sliceBounds,HT.sIx]
  | some i =>
   simp only[sliceBounds,HT.sIx,Option.getD_none,show (1:Int) > 0 by decide,if_true]
   by_cases h:i < 0
   ·simp only[h,if_true] <;> lia
   ·simp only[h,if_false] <;> lia
 ·cases hi with
  | none=>simp[sliceBounds,HT.sIx]
  | some i =>
   simp only[sliceBounds,HT.sIx,Option.getD_none,show (1:Int) > 0 by decide,if_true]
   by_cases h:i < 0
   ·simp only[h,if_true] <;> lia
   ·simp only[h,if_false] <;> lia
theorem kX(its:List Value)(lo hi:Option Int):slicePick its.toArray lo hi none=((its.drop (HT.sIx its.length 0 lo)).take (HT.sIx its.length its.length hi-HT.sIx its.length 0 lo)).toArray:=by
 obtain⟨h1,h2,h3⟩:=mK lo hi its.toArray.size
 unfold slicePick
 rw[h1,h2,h3]
 simp only[sliceRange_one,pick_run,List.size_toArray] <;> rfl
def rSlL(K:PySem.W.Frag):V->Option Int->Option Int->Hp->VK->Prop:=fun x lo hi H Q=>∃ a xs,x=.ref a/\SqL K H a xs/\∀ p,H p=none->Q (.ref p) (upd H p (.lst (zK xs lo hi)))
theorem Aa:SlR X (rSlL X.K):=by
 intro pins s σ H x v vl vu lo hi sl Q I rx hs pl pu h
 obtain⟨a,xs,rfl,hx,q⟩:=h
 cases rx
 obtain⟨its,r,ht,hz⟩:=I.list hx
 have hlen:=r.length
 refine⟨"list",_,slot_list_getitem.lookup,ht.isList.typeIs,?_⟩
 refine wpAny_getItem_list_slice ht.isList hs pl pu .none (by simp) ?_ (by rw[List.size_toArray] <;> lia)
 rw[kX,← hlen]
 refine⟨.ref s.heap.objs.size,_,I.laid (t':=s.toks) (o:=.lst (zK xs lo hi)) (fun b ob q=>Heap.get?_push_of_some _ q) (Nat.le_refl _) ?_,rfl,q _ (I.hok.fresh (Nat.le_refl _))⟩
 exact⟨Nat.le_trans (jm xs lo hi) hz,_,0,(r.drop (HT.sIx xs.length 0 lo)).take (HT.sIx xs.length xs.length hi-HT.sIx xs.length 0 lo),Heap.get?_push_size _ rfl⟩
theorem nV:fE X (.builtin "len") (fun xs H Q=>∃ p ys,xs=[.ref p]/\(SqL X.K H p ys\/SqT X.K H p ys)/\Q (.int ys.length) H):=by
 intro pins s σ H xs us Q I r h
 obtain⟨p,ys,rfl,hq,q⟩:=h
 obtain⟨u,rfl,rx⟩:=zV r
 cases rx
 have hn:=kA
 rcases hq with hq | hq
 ·obtain⟨its,r',pl,hz⟩:=I.list hq
  have hlen:=r'.length
  exact Calls.call_len_list pl.isList (by simp only[List.size_toArray] <;> lia) ⟨.int ys.length,H,I.tok _,⟨s.toks+1,by rw[List.size_toArray,hlen]⟩,q⟩
 ·obtain⟨its,r',pl,hz⟩:=I.tuple hq
  have hlen:=r'.length
  exact len_tuple pl (by simp only[List.size_toArray] <;> lia) ⟨.int ys.length,H,I.tok _,⟨s.toks+1,by rw[List.size_toArray,hlen]⟩,q⟩
theorem nU:fE X (.builtin "len") (fun xs H Q=>∃ z,xs=[.str z]/\z.length<=sizeLine/\Q (.int z.length) H):=by
 intro pins s σ H xs us Q I r h
 obtain⟨z,rfl,hz,q⟩:=h
 obtain⟨u,rfl,t,rfl⟩:=zV r
 have hn:=kA
 exact len_str (by lia) ⟨.int z.length,H,I.tok _,⟨_,rfl⟩,q⟩
theorem fE.or(h:fE X f r)(h':fE X f r'):fE X f (fun xs H Q=>r xs H Q\/r' xs H Q):=by
 intro pins s σ H xs us Q I rs q
 rcases q with q | q
 ·exact h pins s σ H xs us Q I rs q
 ·exact h' pins s σ H xs us Q I rs q
theorem lW:fE X (.type "tuple") (fun xs H Q=>∃ p ys,xs=[.ref p]/\((SqL X.K H p ys/\∀ l,H l=none->Q (.ref l) (upd H l (.tup ys)))\/(SqT X.K H p ys/\Q (.ref p) H))):=by
 intro pins s σ H xs us Q I r h
 obtain⟨p,ys,rfl,h⟩:=h
 obtain⟨u,rfl,rx⟩:=zV r
 cases rx
 rcases h with ⟨hq,q⟩ | ⟨hq,q⟩
 ·obtain⟨its,r',pl,hz⟩:=I.list hq
  have hlen:=r'.length
  refine call_tuple_list pl.isList (fun h' kp=>?_) (by simp only[List.size_toArray] <;> lia)
  have I1:Inv X pins σ H { s with heap:=h' }:=I.kept (t':=s.toks) kp
  have I2:Inv X pins σ (upd H h'.objs.size (.tup ys)) { s with heap:=h'.push { cls:=.type "tuple",data:=.seq its.toArray } } :=
   I1.laid (t':=s.toks) (fun b o e=>Heap.get?_push_of_some _ e) (Nat.le_refl _) (show bW X.prog X.w _ _ _ (.tup ys) from ⟨hz,its,r',yL.new _ _⟩)
  exact⟨.ref h'.objs.size,_,I2,rfl,q _ (I1.hok.fresh (Nat.le_refl _))⟩
 ·obtain⟨its,r',pl,hz⟩:=I.tuple hq
  exact call_tuple_same pl ⟨.ref p,H,I,rfl,q⟩
def tyV(K:PySem.W.Frag)(T:String)(x:V)(H:Hp):Prop:=match x with
 | .str _=>T = "str"
 | .int _=>T = "int"
 | .ref p=>(T = "list"/\∃ xs,SqL K H p xs)\/(T = "tuple"/\∃ o,K.lookup p=some o/\o.cls=.type "tuple"/\o.dict=none) \/
   (T = "dict"/\((∃ kvs,H p=some (.dK kvs))\/∃ kvs,H p=some (.dT kvs)))\/(T = "set"/\∃ S n,H p=some (.set S n))
 | _=>False
theorem Cj(I:Inv X pins σ H s)(r:aJ x v)(ty:tyV X.K T x H) :
  s.TypeIs v T/\∀ a,v=.ref a->∃ ob,s.heap.get? a=some ob/\ob.dict=none:=by
 cases x with
 | str z =>
  obtain⟨t,rfl⟩:=r
  cases (show T = "str" from ty)
  exact⟨typeIs_str s z t,fun _ e=>nomatch e⟩
 | int i =>
  obtain⟨t,rfl⟩:=r
  cases (show T = "int" from ty)
  exact⟨typeIs_int s i t,fun _ e=>nomatch e⟩
 | ref p =>
  cases r
  rcases ty with ⟨rfl,xs,hq⟩ | ⟨rfl,o,hk,hc,hd⟩ | ⟨rfl,hk⟩ | ⟨rfl,S,n,hk⟩
  ·obtain⟨its,_,pl,_⟩:=I.list hq
   refine⟨pl.isList.typeIs,fun a e=>?_⟩
   cases e
   obtain⟨o,n,e,c,hd,_⟩:=pl
   exact⟨o,e,hd⟩
  ·refine⟨⟨o,I.kIn p o hk,hc⟩,fun a e=>?_⟩
   cases e
   exact⟨o,I.kIn _ o hk,hd⟩
  ·have z:∃ o,s.heap.get? p=some o/\o.ExactDict:=by
    rcases hk with ⟨kvs,hk⟩ | ⟨kvs,hk⟩
    ·obtain⟨_,_,_,_,o,_,_,e,ex,_⟩:=I.hok p _ hk
     exact⟨o,e,ex⟩
    ·obtain⟨_,_,_,_,o,_,_,e,ex,_⟩:=I.hok p _ hk
     exact⟨o,e,ex⟩
   obtain⟨o,e,ex⟩:=z
   refine⟨⟨o,e,ex.1⟩,fun a e2=>?_⟩
   cases e2
   exact⟨o,e,ex.2.1⟩
  ·obtain⟨o,_,_,_,e,ex,_⟩:=I.hok p _ hk
   refine⟨⟨o,e,ex.1⟩,fun a e2=>?_⟩
   cases e2
   exact⟨o,e,ex.2.1⟩
 | _=>exact False.elim ty
def tBM(K:PySem.W.Frag)(T:String)(r:V->List V->Hp->VK->Prop)(to:TE)(t:TA):TE:=fun σ H Q=>to σ H fun x H1=>tyV K T x H1/\t σ H1 fun xs H2=>r x xs H2 Q
variable{o e:Expr}{es:List Expr}{to:TE}{t:TA}{name:Str}{apos cpos:Pos}{T id:String}{r:V->List V->Hp->VK->Prop}
theorem pe_bm(pa:PlainAttrs T)(slot:Slot T name id)(hty:typeOf (.builtin id)=pure (.type "method_descriptor"))(hm:MtR X id r)(ho:PE X o to)(ha:PA X (e::es) t)
  (hbase:attributeBase o name X.env (eval o X.env)=eval o X.env:=by rfl)
  (hfew:((backTo cpos (starEach (e::es) X.env)).all (fun x=>!x.1)&&(backToKw cpos (keywordEach [] X.env)).all (fun x=>x.1.isSome)
   && decide ((e::es).length+([]:List Keyword).length+(if ([]:List Keyword).isEmpty then 0 else 1) < 30))=true:=by rfl)
  (hline:(apos.endLine==cpos.line)=true:=by rfl) (hs:starEach (e::es) X.env=(false,eval e X.env)::starEach es X.env:=by rfl) (hplain:(backTo cpos (starEach es X.env)).any (·.1)=false:=by rfl) :
  PE X (.Call (.Attribute o name apos) (e::es) [] cpos) (tBM X.K T r to t):=by
 intro pins s σ H Q I h
 refine wpAny_Call_method_late hbase hfew hline rfl (thn (ho pins s σ H _ I h) fun v s1 ⟨x,H1,I1,r1,ty,q1⟩=>?_)
 obtain⟨h1,h2⟩:=Cj I1 r1 ty
 refine⟨T,id,pa,slot,hty,h1,h2,?_⟩
 have hA:=ha cpos pins s1 σ H1 _ I1 q1
 rw[hs] at hA ⊢
 refine Calls.callWith_builtin (by show (false||(backTo cpos (starEach es X.env)).any (·.1))=false; rw[hplain] <;> rfl) (Calls.evalArgs_plain ?_)
 exact thn hA fun us s2 ⟨vs,H2,I2,r2,q2⟩=>hm pins s2 σ H2 x vs v us Q I2 r1 r2 q2
/- xs.append(e),list.index on a module's tuple .. are MtR facts of 06m -/
end
end L2
namespace L2
open PySem PySem.Spec PyProof.Rows
def MtM(X:Cx)(id:String)(r:V->List V->Hp->VK->Prop):Prop :=
 ∀ (pins:List (Addr×Obj)) (s:Shared) (σ:St) (H:Hp) (x:V) (xs:List V) (v:Value) (us:List Value) (Q:VK),Inv X pins σ H s->aJ x v->ar xs us->r x xs H Q ->
  wpAny (model X.prog X.w) X.A (call (.builtin id) (v::us)) (EP X pins σ Q) X.xe s
theorem ar.one:∀ {x:V}{us:List Value},ar [x] us->∃ u,us=[u]/\aJ x u
 | _,_,.cons r .nil=>⟨_,rfl,r⟩
theorem ar.two:∀ {x y:V}{us:List Value},ar [x,y] us->∃ u v,us=[u,v]/\aJ x u/\aJ y v
 | _,_,_,.cons r (.cons q .nil)=>⟨_,_,rfl,r,q⟩
section
variable{X:Cx}{pins:List (Addr×Obj)}{σ:St}{H:Hp}{s:Shared}{l b:Addr}{xs ys zs:List V}
theorem Inv.lset{its its':List Value}{n:Nat}{f:Array Value->Array Value}{t':Nat}(I:Inv X pins σ H s)(hH:H l=some (.lst xs))
  (e:s.heap.get? l=some { cls:=.type "list",data:=.seq its.toArray n }) (hf:f its.toArray=its'.toArray) (hv:ar ys its') (hz:ys.length<=sizeLine) :
  Inv X pins σ (upd H l (.lst ys)) { s with heap:=s.heap.update l (Obj.mapSeq f),toks:=t' }:=by
 have q:=PySem.IsL.update e f
 rw[hf] at q
 refine I.write (x:=l) (e:=l) (by rw[hH]; exact trivial) (.inl rfl) (fun b' u hb hu=>(Heap.get?_update_other s.heap (Obj.mapSeq f) (Ne.symm hb)).trans hu) ⟨_,q⟩ ?_
 exact⟨hz,its',_,hv,q⟩
theorem Inv.lnew(I:Inv X pins σ H s)(hv:ar ys its)(hz:ys.length<=sizeLine) :
  Inv X pins σ (upd H s.heap.objs.size (.lst ys)) { s with heap:=s.heap.push { cls:=.type "list",data:=.seq its.toArray },toks:=t' } :=
 I.laid (fun _ _ q=>Heap.get?_push_of_some _ q) (Nat.le_refl _) ⟨hz,its,0,hv,Heap.get?_push_size _ rfl⟩
theorem Inv.fresh(I:Inv X pins σ H s):H s.heap.objs.size=none:=I.hok.fresh (Nat.le_refl _)
theorem Inv.lstM(I:Inv X pins σ H s)(hH:H l=some (.lst xs)):xs.length<=sizeLine/\∃ (its:List Value) (n:Nat),ar xs its/\xs.length=its.length/\s.heap.get? l=some { cls:=.type "list",data:=.seq its.toArray n }:=by
 obtain⟨z,its,n,r,e⟩:=I.hok l _ hH
 exact⟨z,its,n,r,r.length,e⟩
theorem xI(h:n<=sizeLine):Builtin.List.listTooLong n=false:=by
 unfold Builtin.List.listTooLong
 exact decide_eq_false (by lia)
end
section
variable{X:Cx}
def Ag:V->List V->Hp->VK->Prop:=fun x vs H Q=>∃ l xs y,x=.ref l/\vs=[y]/\H l=some (.lst xs)/\xs.length < sizeLine/\Q .non (upd H l (.lst (xs++[y])))
theorem vz:MtM X "list.append" Ag:=by
 intro pins s σ H x vs v us Q I rx rv h
 obtain⟨l,xs,y,rfl,rfl,hH,hz,q⟩:=h
 cases rx
 obtain⟨u,rfl,ru⟩:=rv.one
 obtain⟨z,its,n,r,hl,e⟩:=I.lstM hH
 refine call_meets F.slot_list_append ⟨_,e,rfl⟩ F.entry_list_append (F.args_list_append_2 _ _) (PySem.list_append l its.toArray n u (by rw[List.size_toArray]; lia)) ⟨e,?_⟩
 refine⟨.non,_,I.lset (its':=its++[u]) hH e (by simp) (r.append (.cons ru .nil)) ?_,rfl,q⟩
 rw[List.length_append,List.length_singleton]
 lia
def Af:V->List V->Hp->VK->Prop:=fun x vs H Q=>∃ l b xs zs,x=.ref l/\vs=[.ref b]/\H l=some (.lst xs)/\H b=some (.lst zs)/\xs.length+zs.length<=sizeLine/\Q .non (upd H l (.lst (xs++zs)))
theorem vt:MtM X "list.extend" Af:=by
 intro pins s σ H x vs v us Q I rx rv h
 obtain⟨l,b,xs,zs,rfl,rfl,hH,hB,hz,q⟩:=h
 cases rx
 obtain⟨u,rfl,ru⟩:=rv.one
 cases ru
 obtain⟨z,its,n,r,hl,e⟩:=I.lstM hH
 obtain⟨z2,its2,n2,r2,hl2,e2⟩:=I.lstM hB
 have hsz:its.toArray.size+its2.toArray.size<=sizeLine:=by rw[List.size_toArray,List.size_toArray]; lia
 have hlong:¬ (!its.toArray.isEmpty&&Builtin.List.listTooLong (its.toArray.size+its2.toArray.size))=true:=by
  rw[xI hsz,Bool.and_false]
  exact Bool.false_ne_true
 refine call_meets F.slot_list_extend ⟨_,e,rfl⟩ F.entry_list_extend (F.args_list_extend_2 _ _)
  (AutoSeq1.list_extend_list_list_0 l its.toArray n b its2.toArray n2 hlong (by rw[List.size_toArray]; lia) (by lia)) ⟨e,e2,?_⟩
 refine⟨.non,_,I.lset (its':=its++its2) hH e (by simp) (r.append r2) ?_,rfl,q⟩
 rw[List.length_append]
 lia
def rCat:R2:=fun x y H Q=>∃ l b xs zs,x=.ref l/\y=.ref b/\H l=some (.lst xs)/\H b=some (.lst zs)/\xs.length+zs.length<=sizeLine/\∀ p,H p=none->Q (.ref p) (upd H p (.lst (xs++zs)))
theorem Di:OpR X (binaryOp .Add) rCat:=by
 intro pins s σ H x y v u Q I rx ry h
 obtain⟨l,b,xs,zs,rfl,rfl,hH,hB,hz,q⟩:=h
 cases rx
 cases ry
 obtain⟨z,its,n,r,hl,e⟩:=I.lstM hH
 obtain⟨z2,its2,n2,r2,hl2,e2⟩:=I.lstM hB
 refine PySem.P.add_list e e2 ?_ (by rw[List.size_toArray,List.size_toArray]; lia)
 have ea:its.toArray++its2.toArray=(its++its2).toArray:=by simp
 rw[ea]
 exact⟨.ref _,_,I.lnew (t':=s.toks) (r.append r2) (by rw[List.length_append]; lia),rfl,q _ I.fresh⟩
end
section
variable{prog:Program}{w:World}{A:Around}{E:Value->Shared->Prop}{s:Shared}
end
section
variable{X:Cx}
end
end L2
namespace Att
open PySem PySem.W PySem.Calls PyProof.Rows
theorem jc:∀ (ns:List Int) (vs:List Value),WellAll P h vs (ns.map WData.int)->IntsAre vs ns:=by
 intro ns
 induction ns with
 | nil =>
  intro vs w
  rw[List.map_nil] at w
  cases w
  exact .nil
 | cons n ns ih =>
  intro vs w
  rw[List.map_cons] at w
  cases w with
  | cons a b =>
   cases a
   exact .cons _ _ (ih _ b)
theorem uI{l:OpenLaw}{n:Nat}(hn:l.most=some n){P:Params}{h:Heap}{args:List WData}{vals:List Value}
  (hpre:l.row.toRowW.claim.pre args=true) (hwl:WellAll P h vals args) :
  ∃ a vs ns,vals=[Value.ref a]/\args=[WData.list (ns.map WData.int)]/\h.get? a=some { cls:=.type "list",data:=.seq vs.toArray }/\IntsAre vs ns/\ns.length<=n:=by
 have hsh:WShape.hasAll [] args [.list .int]=true:=(pre_splitW hpre).1
 have hc:l.pre.holds [] { args:=args }=true:=(pre_splitW hpre).2
 obtain⟨d,r,rfl,h1,h2⟩:=hasAllW_cons hsh
 obtain rfl:=hasAllW_nil h2
 obtain⟨xs,rfl,h3⟩:=hasW_list h1
 obtain⟨ns,rfl⟩:=items_int h3
 have hlen:ns.length<=n:=by
  unfold OpenLaw.pre at hc
  have h4:(WTm.not (.lt (.lit (.int (n:Int))) (.len (.arg 0)))).holds [] { args:=[.list (ns.map .int)] }=true:=by
   have h4:=(holds_andW hc).1
   rw[hn] at h4
   exact h4
  have h5:=condW_of h4 (w_not (w_lt w_lit (w_len_list (w_arg rfl))))
  rw[List.length_map] at h5
  refine Nat.le_of_not_lt fun q=>?_
  have q':(n:Int) < ((ns.length:Nat):Int):=by lia
  first
   | (rw[decide_eq_true q'] at h5; exact absurd h5 (by decide))
   | (simp at h5; lia)
 cases hwl with
 | cons w1 w2 =>
  cases w2
  cases w1 with
  | list ho hall=>exact⟨_,_,ns,rfl,rfl,ho,jc ns _ hall,hlen⟩
theorem uP(l:OpenLaw)(args:List WData):l.row.toRowW.claim.post args (.bool true) args=true :=
 postW_of (r:=l.row.toRowW) (X:=(true==true))
  (show WShape.has [] (.bool true) .bool=true by first | rfl | decide | simp[WShape.has,WShape.arms,WShape.armsAll])
  (show (WTm.eq .res (.lit (.bool true))).value [] { args:=args,res:=some (.bool true),after:=args }=some (.bool (true==true)) from w_eq_bool (w_res rfl) w_lit) rfl
theorem attach_call{l:OpenLaw}{n:Nat}{q:Program}{loose:List Str}{XP:(Str->Option Value)->Heap->Prop}{YP:World->Heap->Prop}{d:DefRec}
  (hn:l.most=some n) (hdf:d.params.defaults=[])
  (call:∀ (w:World) (s₀ s₁:Shared) (mg mb:Str->Option Value) (fa:Addr) (o:Obj) (pm cd doc:Value) (a:Addr) (vs:List Value) (ns:List Int),
   Ground q loose [] XP w s₀ mg mb s₁.heap->YP w s₁.heap ->
   s₁.heap.get? fa=some o->o.data=.func (docDef d.name d.params d.body d.scope pm cd doc)->s₁.heap.CodeRec cd d.name->mg d.name=some (.ref fa) ->
   s₁.heap.get? a=some { cls:=.type "list",data:=.seq vs.toArray }->IntsAre vs ns->ns.length<=n->s₁.gens = #[] ->
   codeAny (model l.prog w) callerA (.call (.ref fa) ⟨[.ref a],[]⟩) (fun r s'=>r=.ok (.ret (.bool true))/\OldK s₁.heap s'.heap/\s'.os=s₁.os/\AllBare s'.gens) s₁) :
  WalkO q loose XP YP l.row.toRowW d [] (fun f vs=>PySem.call f vs):=by
 intro w s₀ s₁ mg mb G Y fa o pm cd doc dV kV ho hd hcd hD hmg hg args vals as hpre hlay hrd hwl hlo
 obtain rfl:dV=.none:=Dflts.none hD hdf
 obtain rfl:kV=.none:=Dflts.noKw hD
 obtain⟨a,vs,ns,rfl,rfl,hobj,hints,hlen⟩:=uI hn hpre hwl
 refine enter_call (codeAny_mono (call w s₀ s₁ mg mb fa o pm cd doc a vs ns G Y ho (fd_plain hd) hcd hmg hobj hints hlen hg) fun r s' hq=>?_)
 obtain⟨rfl,h2,h3,h4⟩:=hq
 exact⟨.inl ⟨.bool true,.bool true,[],rfl,fun _=>rfl,.bool true,uP l _,fun _=>⟨List.Pairwise.nil,fun _ hm=>(nomatch hm)⟩⟩,h2,h3,h4⟩
section
variable{prog:Program}{w:World}{A:Around}{E:Value->Shared->Prop}{s:Shared}{K:Frag}
def noObjs(h:Heap):Heap:={ h with objs:=#[] }
theorem noObjs_get(h:Heap)(b:Addr):(noObjs h).get? b=none:=by
 cases e:(noObjs h).get? b with
 | none=>rfl
 | some o=>exact absurd (Heap.lt_size e) (Nat.not_lt_zero _)
def ledger(h:Heap)(L d:Addr):List (Addr×Obj):=(List.range h.objs.size).filterMap fun a=>if a=L\/a=d then none else (h.get? a).map fun o=>(a,o)
theorem mem_ledger:(a,o)∈ledger h L d↔a≠L/\a≠d/\h.get? a=some o:=by
 unfold ledger
 rw[List.mem_filterMap]
 constructor
 ·rintro⟨b,_,e⟩
  split at e
  ·cases e
  ·rename_i hb
   obtain⟨o',ho,e'⟩:=Option.map_eq_some_iff.mp e
   cases e'
   exact⟨fun q=>hb (.inl q),fun q=>hb (.inr q),ho⟩
 ·rintro⟨n1,n2,ho⟩
  refine⟨a,List.mem_range.mpr (Heap.lt_size ho),?_⟩
  rw[if_neg (show ¬ (a=L\/a=d) from fun q=>q.elim n1 n2),ho] <;> rfl
theorem news_ledger(hne:d≠L)(ho:h.get? d=some od):News (noObjs h) L h ([]++(d,od)::ledger h L d):=by
 rintro⟨a,o⟩ hp
 rcases List.mem_cons.mp hp with e | hp
 ·cases e
  exact⟨ho,hne,noObjs_get _ _⟩
 ·obtain⟨n1,n2,e⟩:=mem_ledger.mp hp
  exact⟨e,n1,noObjs_get _ _⟩
theorem fr_all(n:h.Ns L m):Fr (noObjs h) L h m :=
 ⟨n,fun b o e=>(by rw[noObjs_get] at e; cases e),Nat.zero_le _⟩
end
end Att
namespace L2
open PySem PySem.Spec PyProof.Rows
theorem mh:∀ {vs:List Value}{ns:List Int},IntsAre vs ns->ar (ns.map V.int) vs
 | _,_,.nil=>.nil
 | _,_,.cons n t h=>.cons ⟨t,rfl⟩ (mh h)
end L2
namespace L2
open PySem PySem.Spec PyProof.Rows
abbrev KOf{K:PySem.W.Frag}{h:Heap}(_:K.In h):PySem.W.Frag:=K
end L2
namespace L2
open PySem PySem.Spec PyProof.Rows
def fy(s:Stmt):Arguments:=match s with
 | .FunctionDef _ a _ _ _ _ _ _ _ _=>a
 | _=>{ posonlyargs:=[],args:=[],vararg:=none,kwonlyargs:=[],kw_defaults:=[],kwarg:=none,defaults:=[] }
def bu(s:Stmt):List Stmt:=match s with
 | .FunctionDef _ _ b _ _ _ _ _ _ _=>b
 | _=>[]
def am(s:Stmt):Scope:=match s with
 | .FunctionDef _ _ _ _ _ _ sc _ _ _=>sc
 | _=>{ kind:=.function,names:=[],isGenerator:=false,isCoroutine:=false }
abbrev CX0:CXT:=fun _ _ _ _ _ _=>False
abbrev E0:XK:=fun _ _ _=>False
theorem pass0:wS CX0 X E0:=fun _ _ _ _ _ _ _ h=>h.elim
structure Fun(K:PySem.W.Frag)(x qual:Str)(st:Stmt)(f:Addr)(fd:FuncData):Prop where
 ex:∃ (oc:Value) (od:Option Addr) (kV doc pm:Value) (an:Option Addr) (cdv ct:Value) (osl:Array (Option Value)),
  fd=PySem.W.fnOf x qual (fy st) (bu st) (am st) .none kV doc pm an cdv ct/\K.lookup f=some ⟨oc,od,.func fd,osl⟩/\PySem.W.codeIn K cdv qual=true
 kp:PySem.W.keepIn K (.ref f)=true
section
variable{P:Program}{w:World}{K:PySem.W.Frag}{mg:Str->Option Value}{base:Heap}
theorem Fun.ok{x qual:Str}{st:Stmt}{f:Addr}{fd:FuncData}{N ps:List Str}{k:Nat}{sp:Sp}(F:Fun K x qual st f fd)(S:FnScope N ps (am st))(len:∀ vs H Q E,sp vs H Q E->vs.length=ps.length)
  (hbody:∀ (cdv:Value) (A:Around) (outer:List Env) (s:Shared) (H:Hp) (vs:List V) (Q:VK) (E:XK),Room k (A.deeper (envOfC qual (am st) s.heap.objs.size f cdv))->sp vs H Q E ->
   ∃ t,PSs (nS CX0 P w K mg base N qual (am st) f cdv A outer s H E).nox (bu st) t/\t { nx:=fun _ H'=>Q .non H',rt:=Q } (start N vs) H):FnOk P w K mg base CX0 (k+1) f fd ps sp:=by
 obtain⟨oc,od,kV,doc,pm,an,cdv,ct,osl,rfl,lk,hcd⟩:=F.ex
 refine En lk hcd S len fun A outer s H vs Q E hr hsp=>?_
 obtain⟨t,h,q⟩:=hbody cdv A outer s H vs Q E hr hsp
 exact⟨t,h.nox,q⟩
theorem Fun.binds{x qual:Str}{st:Stmt}{f:Addr}{fd:FuncData}{ps:List Str}(F:Fun K x qual st f fd)
  (h:∀ (kV doc pm:Value) (an:Option Addr) (cdv ct:Value) (us:List Value),us.length=ps.length->bindArgs (PySem.W.fnOf x qual (fy st) (bu st) (am st) .none kV doc pm an cdv ct) ⟨us,[]⟩=pure (ps.zip us)):om K fd ps []:=by
 obtain⟨oc,od,kV,doc,pm,an,cdv,ct,osl,rfl,lk,hcd⟩:=F.ex
 exact .all (h kV doc pm an cdv ct)
theorem El{x qual:Str}{st:Stmt}{f:Addr}{oc:Value}{od an:Option Addr}{osl:Array (Option Value)}{kV doc pm cdv ct:Value}(l:K.lookup f=some ⟨oc,od,.func (PySem.W.fnOf x qual (fy st) (bu st) (am st) .none kV doc pm an cdv ct),osl⟩)
  (c:PySem.W.codeIn K cdv qual=true) (k:PySem.W.keepIn K (.ref f)=true):Fun K x qual st f (PySem.W.fnOf x qual (fy st) (bu st) (am st) .none kV doc pm an cdv ct):=⟨⟨oc,od,kV,doc,pm,an,cdv,ct,osl,rfl,l,c⟩,k⟩
end
theorem aO(h:n<=1000):n < sizeLine:=Nat.lt_of_le_of_lt h (by decide)
section
variable{X:Cx}
theorem pv(i:Nat)(hN:X.N[i]?=some x:=by rfl)(hv:Vis X.env.scope x:=by first | exact Or.inl rfl | exact Or.inr (Or.inl rfl) | exact Or.inr (Or.inr rfl))(hd:(x==("__debug__":Str))=false:=by decide)
  (hcd:(x==("__classdict__":Str))=false:=by decide):PE X (.Name x pos) (tVar i):=yV hN hv hd hcd
end
theorem bH{A B:Prop}(h:B):if false=true then A else B:=by
 rw[if_neg Bool.false_ne_true]
 exact h
theorem bQ{A B:Prop}(h:A):if true=true then A else B:=by
 rw[if_pos rfl]
 exact h
end L2
namespace L2
open PySem PySem.Spec PyProof.Rows
section
variable{κ:Type}[DecidableEq κ]
def tK(kvs:List (κ×V))(k:κ):Option V:=(kvs.find? fun kv=>decide (kv.1=k)).map (·.2)
def putK(kvs:List (κ×V))(k:κ)(v:V):List (κ×V) :=
 if (kvs.any fun kv=>decide (kv.1=k))=true then kvs.map (fun kv=>if kv.1=k then (kv.1,v) else kv) else kvs++[(k,v)]
theorem pT{p:κ×V}{r:List (κ×V)}{k:κ}(e:p.1=k):tK (p::r) k=some p.2:=by simp[tK,List.find?_cons,e]
theorem pU{p:κ×V}{r:List (κ×V)}{k:κ}(e:¬ p.1=k):tK (p::r) k=tK r k:=by simp[tK,List.find?_cons,e]
theorem KV.val{kvs:List (κ×V)}{vs:List (κ×Value)}(r:KV kvs vs)(k:κ):zN (tK kvs k) (valueAt vs k):=by
 unfold KV at r
 induction r with
 | nil=>exact True.intro
 | @cons p q ps qs h t ih =>
  obtain⟨h1,h2⟩:=h
  by_cases e:p.1=k
  ·have e':q.1=k:=h1.symm.trans e
   have b:valueAt (q::qs) k=some q.2:=by simp[valueAt,List.find?_cons,e']
   rw[pT e,b]; exact h2
  ·have e':¬ q.1=k:=fun z=>e (h1.trans z)
   have b:valueAt (q::qs) k=valueAt qs k:=by simp[valueAt,List.find?_cons,e']
   rw[pU e,b]; exact ih
theorem KV.any(r:KV kvs vs)(k:κ):(kvs.any fun kv=>decide (kv.1=k))=vs.any fun kv=>decide (kv.1=k):=by
 unfold KV at r
 induction r with
 | nil=>rfl
 | cons h t ih=>rw[List.any_cons,List.any_cons,ih,h.1]
theorem KV.repl(r:KV kvs vs)(k:κ)(ry:aJ y u) :
  KV (kvs.map fun kv=>if kv.1=k then (kv.1,y) else kv) (vs.map fun kv=>if kv.1=k then (kv.1,u) else kv):=by
 unfold KV at r ⊢
 induction r with
 | nil=>exact .nil
 | @cons p q ps qs h t ih =>
  rw[List.map_cons,List.map_cons]
  refine .cons ?_ ih
  obtain⟨h1,h2⟩:=h
  by_cases e:p.1=k
  ·rw[if_pos e,if_pos (h1.symm.trans e)]; exact⟨h1,ry⟩
  ·rw[if_neg e,if_neg (fun z=>e (h1.trans z))]; exact⟨h1,h2⟩
theorem KV.put(r:KV kvs vs)(k:κ)(ry:aJ y u):KV (putK kvs k y) (stored vs k u):=by
 unfold putK stored
 rw[r.any k]
 by_cases e:(vs.any fun kv=>decide (kv.1=k))=true
 ·rw[if_pos e,if_pos e]; exact r.repl k ry
 ·rw[if_neg e,if_neg e]; exact Paired.snoc r ⟨rfl,ry⟩
theorem KV.length(r:KV kvs vs):kvs.length=vs.length:=Paired.length r
end
theorem Bg(r:aJ (kV k) u):(bV P w).is k u=true:=by
 cases k with
 | inl i=>obtain⟨t,e⟩:=(show ∃ t,u=Value.int i t from r); subst e; exact oX P w i t
 | inr x=>obtain⟨t,e⟩:=(show ∃ t,u=Value.str x t from r); subst e; exact oW P w x t
theorem ny:∀ {ks:List Key}{us:List Value},ar (ks.map kV) us->ItemsAre (bV P w) ks us
 | [],_,r=>by rw[List.map_nil] at r; cases r; exact .nil
 | k::ks,_,r=>by
  rw[List.map_cons] at r
  cases r with
  | cons h t=>exact .cons (Bg h) (ny t)
abbrev KT(H:Hp):List (List Key×V)->List (List Key×Addr×Value)->Prop:=Paired fun p q=>p.1=q.1/\H q.2.1=some (.tup (p.1.map kV))/\aJ p.2 q.2.2
theorem KT.val{H:Hp}{kvs:List (List Key×V)}{xs:List (List Key×Addr×Value)}(r:KT H kvs xs)(k:List Key):zN (tK kvs k) ((atKey xs k).map (·.2)):=by
 induction r with
 | nil=>exact True.intro
 | @cons p q ps qs h t ih =>
  obtain⟨h1,_,h2⟩:=h
  by_cases e:p.1=k
  ·have e':q.1=k:=h1.symm.trans e
   have b:atKey (q::qs) k=some q.2:=by simp[atKey,List.find?_cons,e']
   rw[pT e,b]; exact h2
  ·have e':¬ q.1=k:=fun z=>e (h1.trans z)
   have b:atKey (q::qs) k=atKey qs k:=by simp[atKey,List.find?_cons,e']
   rw[pU e,b]; exact ih
section
variable{P:Program}{w:World}{H:Hp}{h:Heap}{a:Addr}
theorem CB(ok:HOk P w H h)(e:Rd H a u):bW P w H h a u:=e.ok ok
theorem EF(ok:HOk P w H h)(e:Rd H a (.dK kvs)):kvs.length<=sizeLine/\(a==sysModules)=false/\∃ vs,KV kvs vs/\h.DictOf (bV P w) a vs :=
 show bW P w H h a (.dK kvs) from CB ok e
theorem zo(ok:HOk P w H h)(e:H a=some (.tup (ks.map kV))):(tupleKind (bV P w)).is h ks a:=by
 obtain⟨_,its,r,o,h1,h2,⟨n,h3⟩,_⟩:=(show bW P w H h a (.tup (ks.map kV)) from ok a _ e)
 exact⟨o,its.toArray,n,h1,h2,h3,by simpa using ny r⟩
theorem Ev(ok:HOk P w H h)(e:Rd H a (.dT kvs)):kvs.length<=sizeLine/\(a==sysModules)=false /\
  ∃ xs,KT H kvs xs/\h.DictOfH (tupleKind (bV P w)) a xs:=by
 obtain⟨z,y,xs,r,o,es,ep,h1,h2,h3,h4,h5⟩:=(show bW P w H h a (.dT kvs) from CB ok e)
 refine⟨z,y,xs,r,o,es,ep,h1,h2,h3,h4,fun x hx=>?_,h5⟩
 have all:∀ {l:List (List Key×V)}{m:List (List Key×Addr×Value)},KT H l m->∀ x∈m,(tupleKind (bV P w)).is h x.1 x.2.1:=by
  intro l m q
  induction q with
  | nil=>intro x hx; exact nomatch hx
  | @cons p q ps qs hq t ih =>
   intro x hx
   rcases List.mem_cons.mp hx with e | hx
   ·subst e
    exact zo ok (by rw[← hq.1]; exact hq.2.1)
   ·exact ih x hx
 exact all r x hx
end
def DGet(H:Hp)(a:Addr)(y:V)(r:Option V):Prop :=
 (∃ kvs k,Rd H a (.dK kvs)/\y=kV k/\r=tK kvs k)\/∃ kvs k b,Rd H a (.dT kvs)/\y=.ref b/\H b=some (.tup (k.map kV))/\r=tK kvs k
section
variable{X:Cx}{pins:List (Addr×Obj)}{σ:St}{H:Hp}{s:Shared}{a:Addr}{y v:V}{u r:Value}{o:Option V}{A:Around}{E:Value->Shared->Prop}
theorem Inv.big(I:Inv X pins σ H s):sysModules < s.heap.objs.size:=by
 have h:mainGlobals < s.heap.objs.size:=(I.mod.glob.keeps I.bk).lt
 exact Nat.lt_trans (by decide) h
theorem wD(hu:A.units+1 < cLine)(I:Inv X pins σ H s)(g:DGet H a y (some v))(ry:aJ y u)(h:∀ w' s',Inv X pins σ H s'->aJ v w'->Q w' s') :
  wpAny (model X.prog X.w) A (getItem (.ref a) u) Q E s:=by
 rcases g with ⟨kvs,k,e,ey,l⟩ | ⟨kvs,k,b,e,ey,eb,l⟩
 ·subst ey
  obtain⟨z,hd,vs,rel,dd⟩:=EF I.hok e
  obtain⟨w',hw,rw'⟩:=zN.some_of (v:=v) (o:=valueAt vs k) (by rw[l]; exact rel.val k)
  exact wpAny_getItem_of (Bg ry) dd.mapOf hw (h w' _ (I.tok _) rw')
 ·subst ey
  cases (show u=Value.ref b from ry)
  obtain⟨z,hd,xs,rel,dd⟩:=Ev I.hok e
  obtain⟨w',hw,rw'⟩:=zN.some_of (v:=v) (o:=(atKey xs k).map (·.2)) (by rw[l]; exact rel.val k)
  obtain⟨p,hp,hp2⟩:=Option.map_eq_some_iff.mp hw
  refine wpAny_getItem_heap (tupleKind_room_in1 hu) (zo I.hok eb) dd hp ?_
  rw[hp2]
  exact h w' _ (I.tok _) rw'
theorem BG(I:Inv X pins σ H s)(mu:Mut (H a))(hs:Heap.SameBut a s.heap h')(he:∃ q,h'.get? a=some q)(new:bW X.prog X.w (upd H a ob) h' a ob) :
  Inv X pins σ (upd H a ob) { s with heap:=h',toks:=t' } :=
 I.write (x:=a) (e:=a) mu (.inl rfl) (fun b q hb z=>(hs.2 b hb).trans z) he new
theorem EG(z:kvs.length<=sizeLine)(hd:(a==sysModules)=false)(rel:KV kvs vs)(dd:h'.DictOf (bV P w) a vs) :
  bW P w H' h' a (.dK kvs):=⟨z,hd,vs,rel,dd⟩
end
section
variable{X:Cx}{pins:List (Addr×Obj)}{σ:St}{H:Hp}{s:Shared}{a:Addr}{kvs:List (Key×V)}{k:Key}{u:Value}{A:Around}{E:Value->Shared->Prop}
end
def Ca(i:Expr):Prop:=∀ ov iv,subscripted i false ov iv=operate [ov,iv] (getItem ov iv)
theorem uA{prog:Program}{w:World}{A:Around}{E:Value->Shared->Prop}{s:Shared}{env:Env}{value slice:Expr}{pos:Pos}{T id:String}{Q:Value->Shared->Prop}
  (hl:typeLookup (.type T) "__getitem__" = pure (some (.builtin id))) (hs:Ca slice)
  (h:wpAny (model prog w) A (eval value env) (fun o s₁=>wpAny (model prog w) A (eval slice env) (fun i s₂=>s₂.TypeIs o T/\wpAny (model prog w) A (getItem o i) Q E s₂) E s₁) E s) :
  wpAny (model prog w) A (eval (.Subscript value slice pos) env) Q E s:=by
 refine Subscript_ (wpAny_mono h (fun o s₁ h₁=>wpAny_mono h₁ (fun i s₂ h₂=>?_) fun _ _ x=>x) fun _ _ x=>x)
 obtain⟨hT,h₂⟩:=h₂
 unfold subscriptTail
 refine wpAny_bind ?_
 rw[getitemInPython_of_ne hT.not_modules]
 refine wpAny_bind (wpAny_specialOf hT hl ?_)
 have fin:wpAny (model prog w) A (subscripted slice false o i) (fun r s₃=>wpAny (model prog w) A (letTemporaryGo value o r >>= fun _=>pure r) Q E s₃) E s₂:=by
  rw[hs o i]
  exact wpAny_operating (wpAny_mono h₂ (fun r s₃ h₃=>wpAny_bind (wpAny_letTemporaryGo (wpAny_pure h₃))) fun _ _ x=>x)
 first
  | exact wpAny_pure (wpAny_bind fin)
  | exact wpAny_bind (wpAny_pure (wpAny_bind fin))
  | exact wpAny_bind fin
theorem pG(I:Inv X pins σ H s)(g:DGet H a y o):s.TypeIs (.ref a) "dict":=by
 rcases g with ⟨kvs,k,e,_,_⟩ | ⟨kvs,k,b,e,_,_,_⟩
 ·obtain⟨_,_,vs,_,dd⟩:=EF I.hok e
  exact dd.typeIs
 ·obtain⟨_,_,xs,_,dd⟩:=Ev I.hok e
  exact dd.typeIs
def tDGet(td ty:TE):TE:=fun σ H Q=>td σ H fun x H1=>ty σ H1 fun y H2=>∃ a v,x=.ref a/\DGet H2 a y (some v)/\Q v H2
section
variable{X:Cx}{o i e value:Expr}{pos pos' tpos:Pos}{td ty tv:TE}
theorem Av(hu:X.A.units+1 < cLine)(ho:PE X o td)(hi:PE X i ty)(hs:Ca i):PE X (.Subscript o i pos) (tDGet td ty):=by
 intro pins s σ H Q I h
 refine uA PySem.F.slot_dict_getitem.lookup hs (thn (ho pins s σ H _ I h) fun u s1 ⟨x,H1,I1,rx,q1⟩=>thn (hi pins s1 σ H1 _ I1 q1) fun iv s2 ⟨y,H2,I2,ry,a,v,ex,g,q2⟩=>?_)
 subst ex
 obtain rfl:u=Value.ref a:=rx
 exact⟨pG I2 g,wD hu I2 g ry fun w' s3 I3 rw'=>⟨v,H2,I3,rw',q2⟩⟩
end
section
variable{X:Cx}{pos:Pos}
end
end L2
namespace DL
open PySem
theorem fB(env:Env):∀ (names:List (Str×NameKind)) (acc:List (Str×Addr)),
  (∀ p∈names,p.2=NameKind.free->∃ c,env.cells.lookup p.1=some c) ->
  ∃ cl,(forIn (m:=Sem) names acc fun (p:Str×NameKind) (r:List (Str×Addr)) =>
    if (p.2==NameKind.free)=true then (do let a ← cellOf env p.1; pure (ForInStep.yield ((p.1,a)::r))) else pure (ForInStep.yield r))=pure cl /\
   (∀ z c,cl.lookup z=some c->acc.lookup z=some c\/env.cells.lookup z=some c) /\
   (∀ z c,acc.lookup z=some c->∃ c',cl.lookup z=some c') /\
   (∀ p∈names,p.2=NameKind.free->∃ c,cl.lookup p.1=some c)
 | [],acc,_=>⟨acc,rfl,fun _ _ h=>.inl h,fun z c h=>⟨c,h⟩,fun _ h=>nomatch h⟩
 | (n,k)::aN,acc,hyp=>by
  by_cases hk:k=NameKind.free
  ·subst hk
   obtain⟨c0,hc0⟩:=hyp (n,.free) List.mem_cons_self rfl
   obtain⟨cl,e,h1,h2,h3⟩:=fB env aN ((n,c0)::acc) fun p hp=>hyp p (List.mem_cons_of_mem _ hp)
   have ce:cellOf env n=pure c0:=by unfold cellOf; rw[hc0]
   have own:∃ c',cl.lookup n=some c':=h2 n c0 (by simp[List.lookup_cons])
   refine⟨cl,?_,fun z c hz=>?_,fun z c hz=>?_,fun p hp hf=>?_⟩
   ·rw[List.forIn_cons]
    simp only[beq_self_eq_true,if_true,ce,pure_bind]
    exact e
   ·rcases h1 z c hz with q | q
    ·rw[List.lookup_cons] at q
     by_cases hz':(z==n)=true
     ·rw[hz'] at q
      have:z=n:=by simpa using hz'
      subst this
      cases q
      exact .inr hc0
     ·have hz'':(z==n)=false:=by simpa using hz'
      rw[hz''] at q
      exact .inl q
    ·exact .inr q
   ·by_cases hz':z=n
    ·subst hz'; exact own
    ·refine h2 z c ?_
     rw[List.lookup_cons]
     have hz'':(z==n)=false:=by simpa using hz'
     rw[hz'']
     exact hz
   ·rcases List.mem_cons.mp hp with rfl | hp
    ·exact own
    ·exact h3 p hp hf
  ·have hb:(k==NameKind.free)=false:=by simpa using hk
   obtain⟨cl,e,h1,h2,h3⟩:=fB env aN acc fun p hp=>hyp p (List.mem_cons_of_mem _ hp)
   refine⟨cl,?_,h1,h2,fun p hp hf=>?_⟩
   ·rw[List.forIn_cons]
    simp only[hb,Bool.false_eq_true,if_false,pure_bind]
    exact e
   ·rcases List.mem_cons.mp hp with rfl | hp
    ·exact absurd hf hk
    ·exact h3 p hp hf
theorem hX(hyp:∀ p∈scope.names,p.2=NameKind.free->∃ c,env.cells.lookup p.1=some c) :
  ∃ cl,closureFor scope env=pure cl/\(∀ z c,cl.lookup z=some c->env.cells.lookup z=some c)/\(∀ p∈scope.names,p.2=NameKind.free->∃ c,cl.lookup p.1=some c):=by
 obtain⟨cl,e,h1,h2,h3⟩:=fB env scope.names [] hyp
 refine⟨cl,?_,fun z c hz=>?_,h3⟩
 ·unfold closureFor
  simp only[bind_pure]
  exact e
 ·rcases h1 z c hz with q | q
  ·simp at q
  ·exact q
theorem dJ{env:Env}:∀ {names:List (Str×NameKind)}{x:Str}{k:NameKind},
  (names.map fun (p:Str×NameKind)=>if (p.2==NameKind.free&&env.scope.kind==.function&&env.kindOf p.1==some .cell)=true then (p.1,NameKind.cell) else (p.1,p.2)).lookup x=some k ->
   (names.lookup x=some k\/(k=NameKind.cell/\names.lookup x=some .free))
 | [],_,_,h=>by simp at h
 | (n,j)::aN,x,k,h=>by
  have ih:=@dJ env aN x k
  rw[List.map_cons,List.lookup_cons] at h
  by_cases hx:(x==n)=true
  ·have hl:List.lookup x ((n,j)::aN)=some j:=by rw[List.lookup_cons,hx]
   rw[hl]
   by_cases hc:(j==NameKind.free&&env.scope.kind==.function&&env.kindOf n==some .cell)=true
   ·simp only[hc,if_true,hx] at h
    cases h
    have:j=NameKind.free:=by
     simp only[Bool.and_eq_true] at hc
     simpa using hc.1.1
    exact .inr ⟨rfl,by rw[this]⟩
   ·simp only[hc,Bool.false_eq_true,if_false,hx] at h
    exact .inl h
  ·have hx':(x==n)=false:=by simpa using hx
   have hl:List.lookup x ((n,j)::aN)=List.lookup x aN:=by rw[List.lookup_cons,hx']
   rw[hl]
   refine ih ?_
   by_cases hc:(j==NameKind.free&&env.scope.kind==.function&&env.kindOf n==some .cell)=true
   ·simp only[hc,if_true,hx'] at h
    exact h
   ·simp only[hc,Bool.false_eq_true,if_false,hx'] at h
    exact h
section
variable{prog:Program}{w:World}{A:Around}{R:Result->Shared->Prop}{s:Shared}
theorem kR(ifs:List Expr)(env:Env):compTests ifs env =
  (forIn ifs true fun c r=>if r=true then do let ok ← isTrue c env (eval c env); pure (ForInStep.yield ok) else pure (ForInStep.yield r)):=by
 unfold compTests
 simp only[bind_pure]
theorem tE(J:Nat->Shared->Prop)(ne:Value->Shared->Prop)
  (hne:∀ e s',ne e s'->notedBy (model prog w) A env (fun e s'=>R (.error e) s') e s')
  (turn:∀ n s,J n s->wpAny (model prog w) A (pyNext it) (fun r s1=>match r with
   | none=>R (.ok .next) s1
   | some v=>wpAny (model prog w) A (letOwnedTupleGo target it v) (fun _ s2=>wpAny (model prog w) A (assign target env v) (fun _ s3 =>
     wpAny (model prog w) A (compTests ifs env) (fun ok s4 =>
      if ok=true then wpAny (model prog w) A (eval elt env) (fun y s5=>wpAny (model prog w) A (call (.builtin "list.append") [acc,y]) (fun _ s6=>∃ m,m < n/\J m s6) ne s5) ne s4
      else ∃ m,m < n/\J m s4) ne s3) ne s2) ne s1) ne s)
  (n:Nat) (h:J n s):codeAny (model prog w) A (.compLoop (.ListComp elt [⟨target,iter,ifs,0⟩] scope pos) 0 it acc env) R s:=by
 refine codeAny_loop rfl J (fun n s hJ=>?_) n h
 show wpAny _ A ((compTurn (.ListComp elt [⟨target,iter,ifs,0⟩] scope pos) 0 it acc env).onRaise (fun x=>do noteFrame x env; theTreesLotGoes x)) _ _ s
 refine wpAny_noted ?_
 rw[compTurn_list]
 refine wpAny_bind (wpAny_standAt (wpAny_bind (wpAny_mono (turn n s hJ) (fun r s1 h1=>?_) hne)))
 cases r with
 | none=>exact wpAny_pure h1
 | some v =>
  refine wpAny_bind (wpAny_mono h1 (fun _ s2 h2=>?_) hne)
  refine wpAny_bind (wpAny_mono h2 (fun _ s3 h3=>?_) hne)
  rw[kR] at h3
  refine wpAny_bind (wpAny_mono h3 (fun ok s4 h4=>?_) hne)
  cases ok with
  | false=>exact wpAny_pure ⟨rfl,h4⟩
  | true =>
   exact wpAny_bind (wpAny_bind (wpAny_mono h4 (fun y s5 h5=>wpAny_bind (wpAny_mono h5 (fun _ s6 h6=>wpAny_pure (wpAny_pure ⟨rfl,h6⟩)) hne)) hne))
end
end DL
set_option maxRecDepth 100000
namespace L2
open PySem PySem.Spec PyProof.Rows DL
theorem gZ{env:Env}:∀ {names:List (Str×NameKind)}{x:Str},names.lookup x=some .free ->
  ((names.map fun (p:Str×NameKind)=>if (p.2==NameKind.free&&env.scope.kind==.function&&env.kindOf p.1==some .cell)=true then (p.1,NameKind.cell) else (p.1,p.2)).lookup x=some .cell \/
   (names.map fun (p:Str×NameKind)=>if (p.2==NameKind.free&&env.scope.kind==.function&&env.kindOf p.1==some .cell)=true then (p.1,NameKind.cell) else (p.1,p.2)).lookup x=some .free)
 | [],_,h=>by simp at h
 | (n,j)::aN,x,h=>by
  have ih:=@gZ env aN x
  rw[List.map_cons,List.lookup_cons]
  rw[List.lookup_cons] at h
  by_cases hc:(j==NameKind.free&&env.scope.kind==.function&&env.kindOf n==some .cell)=true
  ·by_cases hx:(x==n)=true
   ·simp[hc,hx]
   ·have hx':(x==n)=false:=by simpa using hx
    rw[hx'] at h
    simp only[hc,if_true,hx']
    exact ih h
  ·by_cases hx:(x==n)=true
   ·rw[hx] at h
    cases h
    right
    simp only[hc,Bool.false_eq_true,if_false,hx]
   ·have hx':(x==n)=false:=by simpa using hx
    rw[hx'] at h
    simp only[hc,Bool.false_eq_true,if_false,hx']
    exact ih h
def blk(X:Cx)(N':List Str)(scope:Scope)(cl:List (Str×Addr))(s₀:Shared)(H₀:Hp)(ex:List Addr):Cx :=
 { X with N:=N',s₀:=s₀,H₀:=H₀,env:=compEnvC scope cl s₀.heap.objs.size X.env,outer:=X.stack,ex:=ex,fn:=fun x=>scope.names.lookup x==some .cell,pn:=[],xe:=fun _ _=>False }
structure BlkSc(X:Cx)(N':List Str)(nt:Nat)(js:List Nat)(scope:Scope):Prop where
 kind:scope.kind=.function
 nocell:∀ y∈scope.names,y.2≠.cell
 loc:∀ y∈scope.names,y.2=.local->scope.names.lookup y.1=some .local
 free:∀ y∈scope.names,y.2=.free->(X.env.kindOf y.1=some .cell\/X.env.kindOf y.1=some .free)
 len:N'.length=nt+js.length
 fr:∀ (k j:Nat),js[k]?=some j->∃ x,N'[nt+k]?=some x/\X.N[j]?=some x/\scope.names.lookup x=some .free/\(X.env.kindOf x=some .cell\/X.env.kindOf x=some .free)
def bst(nt:Nat)(js:List Nat)(σ:St):St:=List.replicate nt none++js.map fun j=>(σ[j]?).join
theorem wN(nt:Nat)(js:List Nat)(σ:St):(bst nt js σ).length=nt+js.length:=by simp[bst]
theorem BN(h:(bst nt js σ)[i]?=some (some v)):∃ k j,i=nt+k/\js[k]?=some j/\σ[j]?=some (some v):=by
 unfold bst at h
 by_cases hi:i < nt
 ·rw[List.getElem?_append_left (by simpa using hi),List.getElem?_replicate] at h
  simp[hi] at h
 ·rw[List.getElem?_append_right (by simpa using Nat.not_lt.mp hi),List.length_replicate,List.getElem?_map] at h
  cases e:js[i-nt]? with
  | none=>rw[e] at h; cases h
  | some j =>
   rw[e] at h
   refine⟨i-nt,j,by lia,e,?_⟩
   have h':(σ[j]?).join=some v:=by simpa using h
   cases q:σ[j]? with
   | none=>rw[q] at h'; cases h'
   | some o=>rw[q] at h'; exact congrArg some h'
def PTs(X:Cx)(ifs:List Expr)(t:TT):Prop :=
 ∀ (pins:List (Addr×Obj)) (s:Shared) (σ:St) (H:Hp) (Q:Bool->Hp->Prop),Inv X pins σ H s->t σ H Q->wpAny (model X.prog X.w) X.A (compTests ifs X.env) (TP X pins σ Q) X.xe s
def ttNil:TT:=fun _ H Q=>Q true H
theorem Am:PTs X [] ttNil:=fun pins s σ H Q I h=>by
 rw[kR]
 exact wpAny_tests_nil ⟨H,I,h⟩
theorem Al(h:PT X c t):PTs X [c] t:=fun pins s σ H Q I hq=>by
 rw[kR]
 exact wpAny_tests_one (h pins s σ H Q I hq)
def tLC(nt:Nat)(js:List Nat)(wi:TI)(g:TG)(tt:TT)(te:TE):TE:=fun σ H Q=>wi σ H fun J H1=>∃ W:Nat->Nat->List V->St->Hp->Prop,(∃ m,W 0 m [] (bst nt js σ) H1) /\
 ∀ i m vs τ H,W i m vs τ H->(J.stop i H/\∀ p,H p=none->Q (.ref p) (upd H p (.lst vs))) \/
  (J.go i H/\∀ x H',J.yld i H x H'->g x τ H' fun τ2 H2=>tt τ2 H2 fun b H3=>if b=true then te τ2 H3 fun y H4=>vs.length < sizeLine/\∃ m',m' < m/\W (i+1) m' (vs++[y]) τ2 H4 else ∃ m',m' < m/\W (i+1) m' vs τ2 H3)
abbrev bY(its:List Value)(k:Nat):Obj:={ cls:=.type "list",data:=.seq its.toArray k }
section
variable{X:Cx}{pins:List (Addr×Obj)}{σ:St}{H:Hp}{s:Shared}
theorem Inv.blkOk(B:BlkSc X N' nt js scope)(I:Inv X pins σ H s)
  (hcl1:∀ z c,cl.lookup z=some c->X.env.cells.lookup z=some c) (hcl2:∀ p∈scope.names,p.2=NameKind.free->∃ c,cl.lookup p.1=some c) (hf:∀ b∈fp,tM X pins H b) (hfs:∀ b∈fp,b < s.heap.objs.size) :
  (blk X N' scope cl { s with heap:=s.heap.push ob } H (s.heap.objs.size::fp)).Ok:=by
 have J:Inv X pins σ H { s with heap:=s.heap.push ob }:=I.kept (t':=s.toks) fun b o e=>Heap.get?_push_of_some _ e
 have ltc:∀ z c,cl.lookup z=some c->c < s.heap.objs.size:=fun z c e=>by
  obtain⟨v,q⟩:=I.cell z c (hcl1 z c e)
  exact q.lt
 have hC:(s.heap.push ob).objs.size=s.heap.objs.size+1:=Heap.size_push ..
 refine⟨I.ok.mod,B.kind,I.ok.glob,I.ok.blt,Nat.le_refl _,fun y z c h1 h2=>I.ok.inj y z c (hcl1 y c h1) (hcl1 z c h2),fun y hy=>?_,fun y c h=>?_,I.ok.hd,I.ok.frames,.inl rfl,fun b hb=>?_,fun b o e=>?_,?_,fun b o e hb=>?_,fun b hb=>?_,J.stack,I.stkFree⟩
 ·have key:scope.names.lookup y=some .free:=by
   rcases hy with hy | hy
   ·rcases dJ (env:=X.env) (names:=scope.names) (x:=y) (k:=.cell) hy with q | ⟨_,q⟩
    ·exact absurd rfl (B.nocell _ (PySem.mem_of_lookup q))
    ·exact q
   ·rcases dJ (env:=X.env) (names:=scope.names) (x:=y) (k:=.free) hy with q | ⟨q,_⟩
    ·exact q
    ·cases q
  exact hcl2 (y,.free) (PySem.mem_of_lookup key) rfl
 ·exact absurd rfl (B.nocell _ (PySem.mem_of_lookup (beq_iff_eq.mp (show (scope.names.lookup y==some NameKind.cell)=true from h))))
 ·show b≠(s.heap.push ob).objs.size/\∀ x c,cl.lookup x=some c->c≠b
  rw[hC]
  rcases List.mem_cons.mp hb with rfl | hb
  ·exact⟨Nat.ne_of_lt (Nat.lt_succ_self _),fun x c e=>Nat.ne_of_lt (ltc x c e)⟩
  ·exact⟨Nat.ne_of_lt (Nat.lt_succ_of_lt (hfs b hb)),fun x c e=>(hf b hb).2.2.2.2.1 x c (hcl1 x c e)⟩
 ·exact⟨Heap.get?_push_of_some _ (I.bs b o e).1,(I.bs b o e).2⟩
 ·show X.base.objs.size<=(s.heap.push ob).objs.size
  rw[hC]
  exact Nat.le_succ_of_le (Nat.le_trans I.ok.bsz I.sz)
 ·rcases List.mem_cons.mp hb with rfl | hb
  ·exact absurd (Heap.lt_size (I.bs _ o e).1) (Nat.lt_irrefl _)
  ·rcases(hf b hb).2.2.2.1 with z | z
   ·exact I.ok.noex b o e z
   ·exact absurd (Nat.lt_of_lt_of_le (Heap.lt_size (I.ok.bs b o e).1) z) (Nat.lt_irrefl _)
 ·intro hz
  have hz':=I.stkSub b hz
  rcases List.mem_cons.mp hb with rfl | hb
  ·rcases List.mem_cons.mp hz' with q | q
   ·exact absurd I.lt (by rw[← q]; exact Nat.lt_irrefl _)
   ·exact I.nofs (Nat.le_refl _) q
  ·rcases List.mem_cons.mp hz' with q | q
   ·exact(hf b hb).2.1 q
   ·exact(hf b hb).2.2.1 q
theorem Inv.blkStart(B:BlkSc X N' nt js scope)(I:Inv X pins σ H s)
  (hcl1:∀ z c,cl.lookup z=some c->X.env.cells.lookup z=some c) (hcl2:∀ p∈scope.names,p.2=NameKind.free->∃ c,cl.lookup p.1=some c) (hf:∀ b∈fp,tM X pins H b) (hfs:∀ b∈fp,b < s.heap.objs.size)
  (old:∀ b o,(s.heap.push (bY [] 0)).get? b=some o->h1.get? b=some o) (hn:h1.Ns (s.heap.push (bY [] 0)).objs.size mm) :
  Inv (blk X N' scope cl { s with heap:=s.heap.push (bY [] 0) } H (s.heap.objs.size::fp)) [(s.heap.objs.size,bY [] 0)] (bst nt js σ) H { s with heap:=h1,toks:=tk }:=by
 have old2:∀ b o,s.heap.get? b=some o->h1.get? b=some o:=fun b o e=>old b o (Heap.get?_push_of_some _ e)
 have hC:(s.heap.push (bY [] 0)).objs.size=s.heap.objs.size+1:=Heap.size_push ..
 refine⟨I.blkOk B hcl1 hcl2 hf hfs,rfl,I.bare,Un.kept old,⟨mm,hn,fun i x v e1 e2 e3=>?_⟩,fun x c e=>?_,?_,fun x c e=>I.freeC x c (hcl1 x c e),fun p hp=>?_,I.hok.kept old2,?_⟩
 ·obtain⟨k,j,rfl,hj,hσ⟩:=BN e2
  obtain⟨x',n1,n2,lf,kf⟩:=B.fr k j hj
  have ex:x=x':=Option.some.inj (e1.symm.trans n1)
  subst ex
  obtain⟨m2,hn2,hl2⟩:=I.loc
  have vis:Vis X.env.scope x:=kf.elim (fun z=>.inr (.inl z)) fun z=>.inr (.inr z)
  obtain⟨u,r,look⟩:=hl2 j x v n2 hσ vis
  refine⟨u,r,?_⟩
  rcases look with ⟨q,_⟩ | ⟨q,c,hc,hcell⟩
  ·rcases kf with z | z <;> (rw[q] at z; cases z)
  ·obtain⟨c',hc'⟩:=hcl2 (x,.free) (PySem.mem_of_lookup lf) rfl
   have:c'=c:=Option.some.inj ((hcl1 x c' hc').symm.trans hc)
   subst this
   exact .inr ⟨gZ (env:=X.env) lf,c',hc',hcell.keeps old2⟩
 ·obtain⟨v,q⟩:=I.cell x c (hcl1 x c e)
  exact⟨v,q.keeps old2⟩
 ·exact I.hok.fresh (by show s.heap.objs.size<=(s.heap.push (bY [] 0)).objs.size; rw[hC]; exact Nat.le_succ _)
 ·have e:p=(s.heap.objs.size,bY [] 0):=by simpa [blk] using hp
  subst e
  refine⟨old _ _ (Heap.get?_push_size _ rfl),I.hok.fresh (Nat.le_refl _),?_,?_,fun v z=>by cases z⟩
  ·show s.heap.objs.size≠(s.heap.push (bY [] 0)).objs.size
   rw[hC]
   exact Nat.ne_of_lt (Nat.lt_succ_self _)
  ·intro hz
   rcases List.mem_cons.mp (I.stkSub _ hz) with q | q
   ·exact absurd I.lt (by rw[← q]; exact Nat.lt_irrefl _)
   ·exact I.nofs (Nat.le_refl _) q
 ·rw[wN]
  exact B.len.symm
theorem Inv.blkEnd(I:Inv X pins σ H s)
  (hf:∀ b∈fp,tM X pins H b)
  (I4:Inv (blk X N' scope cl { s with heap:=s.heap.push (bY [] 0) } H (s.heap.objs.size::fp)) [(s.heap.objs.size,bY its k)] τ H' s')
  (rv:ar vs its) (hl:vs.length<=sizeLine) (sb:Heap.SameBut (s.heap.push (bY [] 0)).objs.size s'.heap h') :
  Inv X pins σ (upd H' s.heap.objs.size (.lst vs)) { s' with heap:=h' }:=by
 have hC:(s.heap.push (bY [] 0)).objs.size=s.heap.objs.size+1:=Heap.size_push ..
 have hDC:s.heap.objs.size≠(s.heap.push (bY [] 0)).objs.size:=by rw[hC]; exact Nat.ne_of_lt (Nat.lt_succ_self _)
 obtain⟨oD,fD,_⟩:=I4.pin (s.heap.objs.size,bY its k) (by simp[blk])
 have oD':s'.heap.get? s.heap.objs.size=some (bY its k):=oD
 have fD':H' s.heap.objs.size=none:=fD
 have fC:H' (s.heap.push (bY [] 0)).objs.size=none:=I4.free
 have u:Un (frs X.stack) (s.heap.objs.size::fp) H H' (s.heap.push (bY [] 0)) s'.heap:=I4.base
 have ne:∀ b o,s.heap.get? b=some o->b≠s.heap.objs.size/\b≠(s.heap.push (bY [] 0)).objs.size:=fun b o e=>by
  have:=Heap.lt_size e
  exact⟨Nat.ne_of_lt this,by rw[hC]; exact Nat.ne_of_lt (Nat.lt_succ_of_lt this)⟩
 have up:∀ b o,s.heap.get? b=some o->(s.heap.push (bY [] 0)).get? b=some o:=fun b o e=>Heap.get?_push_of_some _ e
 have nx:∀ b o,s.heap.get? b=some o->b∉fp->b∉s.heap.objs.size::fp:=fun b o e hx hz=>by
  rcases List.mem_cons.mp hz with q | q
  ·exact(ne b o e).1 q
  ·exact hx q
 refine I.call' (s':={ s' with heap:=h' }) (ch:=fp) I4.os ⟨fun b o e n hb hx=>?_,fun b o e n hb hx=>?_,fun b o e n hx=>?_,fun b o e hx=>?_,fun b xs e=>?_,fun b o w e=>?_,fun b ps e=>?_⟩ (fun b w q=>?_) I4.bare fun b hb=>?_
 ·exact(sb.2 b (ne b o e).2).trans (u.keep b o (up b o e) n hb (nx b o e hx))
 ·obtain⟨sl,z⟩:=u.slot b o (up b o e) n hb (nx b o e hx)
  exact⟨sl,(sb.2 b (ne b o e).2).trans z⟩
 ·rw[ak (ne b o e).1]
  exact u.free b o (up b o e) n (nx b o e hx)
 ·obtain⟨o',z⟩:=u.there b o (up b o e) (nx b o e hx)
  exact⟨o',(sb.2 b (ne b o e).2).trans z⟩
 ·have z:=u.tups b xs e
  rw[ak (ad z fD')]
  exact z
 ·have z:=u.frzs b o w e
  rw[ak (ad z fD')]
  exact z
 ·obtain⟨more,z⟩:=u.tbls b ps e
  exact⟨more,by rw[ak (ad z fD')]; exact z⟩
 ·by_cases hb:b=s.heap.objs.size
  ·subst hb
   rw[aI] at q
   cases q
   exact⟨hl,its,k,rv,(sb.2 _ hDC).trans oD'⟩
  ·rw[ak hb] at q
   refine(I4.hok b w q).stay (fun c v hc r=>(sb.2 c ?_).trans r) (fun c z=>by rw[ak (ad z fD')]; exact z) fun c xs z=>by rw[ak (ad z fD')]; exact z
   rcases hc with rfl | hc
   ·exact ad q fC
   ·exact ad hc fC
 ·obtain⟨_,f1,_,f3,f4,f5⟩:=hf b hb
  exact⟨f3,f1,f4,f5⟩
theorem vK{elt tg iter:Expr}{ifs:List Expr}{scope:Scope}{pos:Pos}{N':List Str}{cl:List (Str×Addr)}{J:It}{fp:List Addr}{it:Addr}{tn:Nat->Heap->Prop}{g:TG}{tt:TT}{te:TE}{Q:VK}
  {W:Nat->Nat->List V->St->Hp->Prop}{R:Result->Shared->Prop}{s0:Shared}{H0:Hp}{D:Addr} (hc:X.calm=true)
  (hg:PG (blk X N' scope cl s0 H0 (D::fp)) tg g) (ht:PTs (blk X N' scope cl s0 H0 (D::fp)) ifs tt) (he:PE (blk X N' scope cl s0 H0 (D::fp)) elt te)
  (T:Turn X.prog X.w X.K tg J fp it tn) (hDf:D∉fp)
  (turn:∀ i m vs τ H,W i m vs τ H->(J.stop i H/\∀ p,H p=none->Q (.ref p) (upd H p (.lst vs))) \/
   (J.go i H/\∀ x H',J.yld i H x H'->g x τ H' fun τ2 H2=>tt τ2 H2 fun b H3=>if b=true then te τ2 H3 fun y H4=>vs.length < sizeLine/\∃ m',m' < m/\W (i+1) m' (vs++[y]) τ2 H4 else ∃ m',m' < m/\W (i+1) m' vs τ2 H3))
  (hstat:∀ b∈fp,b≠s0.heap.objs.size/\b∉frs X.stack/\∀ x c,cl.lookup x=some c->c≠b) (hDC:D≠s0.heap.objs.size) (hDs:D∉frs X.stack) (hDc:∀ x c,cl.lookup x=some c->c≠D)
  (fin:∀ τ H' s' vs its k,Inv (blk X N' scope cl s0 H0 (D::fp)) [(D,bY its k)] τ H' s'->ar vs its->vs.length<=sizeLine->Q (.ref D) (upd H' D (.lst vs))->R (.ok .next) s')
  (m0:Nat) {τ0:St}{s3:Shared}{H3:Hp} (I3:Inv (blk X N' scope cl s0 H0 (D::fp)) [(D,bY [] 0)] τ0 H3 s3) (st3:tn 0 s3.heap) (fr3:∀ b∈fp,H3 b=none) (w0:W 0 m0 [] τ0 H3) :
  codeAny (model X.prog X.w) X.A (.compLoop (.ListComp elt [⟨tg,iter,ifs,0⟩] scope pos) 0 (.ref it) (.ref D) (compEnvC scope cl s0.heap.objs.size X.env)) R s3:=by
 have fok:∀ {ob:Obj}{H':Hp},(∀ b∈fp,H' b=none)->∀ b∈fp,tM (blk X N' scope cl s0 H0 (D::fp)) [(D,ob)] H' b:=fun {ob H'} hn b hb=>by
  obtain⟨a1,a2,a3⟩:=hstat b hb
  refine⟨hn b hb,a1,a2,.inl (List.mem_cons_of_mem _ hb),a3,fun p hp z=>?_⟩
  have e:p=(D,ob):=by simpa [blk] using hp
  subst e
  exact hDf (by rw[show D=b from z]; exact hb)
 refine tE (fun n s'=>∃ i τ H' vs its k,Inv (blk X N' scope cl s0 H0 (D::fp)) [(D,bY its k)] τ H' s'/\tn i s'.heap/\(∀ b∈fp,H' b=none)/\ar vs its/\vs.length<=sizeLine/\W i n vs τ H')
  (fun _ _=>False) (fun _ _ z=>z.elim) ?_ m0 ⟨0,τ0,H3,[],[],0,I3,st3,fr3,.nil,Nat.zero_le _,w0⟩
 rintro n s' ⟨i,τ,H',vs,its,k,I',st',fr',rv,hl,w'⟩
 rcases turn i n vs τ H' w' with ⟨stop,q⟩ | ⟨go,step⟩
 ·refine thn (T.done (blk X N' scope cl s0 H0 (D::fp)) rfl rfl rfl hc i _ s' τ H' (fun _ _=>False) I' (fok fr') st' stop) fun r s4 ⟨hr,I4⟩=>?_
  subst hr
  exact fin τ H' s4 vs its k I4 rv hl (q D (I'.pin (D,bY its k) (by simp[blk])).2.1)
 ·refine thn (T.item (blk X N' scope cl s0 H0 (D::fp)) rfl rfl rfl hc i _ s' τ H' (fun _ _=>False) I' (fok fr') st' go) fun r s4 ⟨u,hr,h4⟩=>?_
  subst hr
  refine thn h4 fun _ s5 ⟨x,H5,I5,r5,y5,st5,fr5⟩=>?_
  have I5':=I5.pinned (fok fr5) (T.obj _ _ st5)
  refine thn (hg _ s5 τ H5 x u _ I5' r5 (step x H5 y5)) fun _ s6 ⟨τ6,H6,I6,q6⟩=>?_
  refine thn (ht _ s6 τ6 H6 _ I6 q6) fun ok s7 ⟨H7,I7,q7⟩=>?_
  have memF:∀ {b:Addr}{o:Obj},b∈fp->s5.heap.get? b=some o->(b,o)∈(blk X N' scope cl s0 H0 (D::fp)).pn++([(D,bY its k)]++fT fp s5.heap):=fun hb e=>List.mem_append_right _ (List.mem_append_right _ (eJ hb e))
  cases ok with
  | false =>
   obtain⟨m',hm,w7⟩:=(show ∃ m',m' < n/\W (i+1) m' vs τ6 H7 from q7)
   refine⟨m',hm,i+1,τ6,H7,vs,its,k,I7.unpinned,T.keep _ _ _ st5 fun b hb o e=>(I7.pin (b,o) (memF hb e)).1,fun b hb=>?_,rv,hl,w7⟩
   obtain⟨o,e,_⟩:=T.obj _ _ st5 b hb
   exact(I7.pin (b,o) (memF hb e)).2.1
  | true =>
   refine thn (he _ s7 τ6 H7 _ I7 q7) fun yv s8 ⟨y,H8,I8,r8,q8⟩=>?_
   obtain⟨hsz,m',hm,w8⟩:=q8
   obtain⟨oD,fD,_⟩:=I8.pin (D,bY its k) (List.mem_append_right _ (List.mem_append_left _ (by simp)))
   have fD':H8 D=none:=fD
   refine append_at (its:=its.toArray) (n:=k) oD (fun h9 sb9 o9=>?_) (by rw[List.size_toArray,← rv.length]; exact hl)
   have J8:Inv (blk X N' scope cl s0 H0 (D::fp)) (fT fp s5.heap) τ6 H8 s8:=I8.pins_of fun p hp=>I8.pin p (List.mem_append_right _ (List.mem_append_right _ hp))
   have J9:Inv (blk X N' scope cl s0 H0 (D::fp)) (fT fp s5.heap) τ6 H8 { s8 with heap:=h9 }:=J8.turned (t':=s8.toks) (it:=D) (fun b o hb e=>(sb9.2 b hb).trans e) fD' hDC (.inl List.mem_cons_self) hDc fun p hp z=>by
    have hp':p∈fT fp s5.heap:=by simpa [blk] using hp
    exact hDf (by rw[← z]; exact(mQ hp').1)
   have memG:∀ {b:Addr}{o:Obj},b∈fp->s5.heap.get? b=some o->(b,o)∈(blk X N' scope cl s0 H0 (D::fp)).pn++fT fp s5.heap:=fun hb e=>List.mem_append_right _ (eJ hb e)
   refine⟨m',hm,i+1,τ6,H8,vs++[y],its++[yv],k+1,J9.pins_of fun p hp=>?_,T.keep _ _ _ st5 fun b hb o e=>(J9.pin (b,o) (memG hb e)).1,fun b hb=>?_,rv.append (.cons r8 .nil),?_,w8⟩
   ·have e:p=(D,bY (its++[yv]) (k+1)):=by simpa using hp
    subst e
    refine⟨?_,fD',hDC,hDs,fun v z=>by cases z⟩
    rw[show bY (its++[yv]) (k+1)=({ cls:=.type "list",data:=.seq (its.toArray.push yv) (k+1) }:Obj) by rw[List.push_toArray]]
    exact o9
   ·obtain⟨o,e,_⟩:=T.obj _ _ st5 b hb
    exact(J9.pin (b,o) (memG hb e)).2.1
   ·rw[List.length_append]
    exact hsz
end
section
variable{X:Cx}
theorem pe_lc{elt tg iter:Expr}{ifs:List Expr}{scope:Scope}{pos:Pos}{N':List Str}{nt:Nat}{js:List Nat}{wi:TI}{g:TG}{tt:TT}{te:TE}(B:BlkSc X N' nt js scope)(hc:X.calm=true)(hi:PI X tg iter wi)
  (hg:∀ cl s0 H0 ex,PG (blk X N' scope cl s0 H0 ex) tg g) (ht:∀ cl s0 H0 ex,PTs (blk X N' scope cl s0 H0 ex) ifs tt) (he:∀ cl s0 H0 ex,PE (blk X N' scope cl s0 H0 ex) elt te)
  (hs:∀ x,foldedSetIterable iter X.env x=pure x:=by intro _; rfl):PE X (.ListComp elt [⟨tg,iter,ifs,0⟩] scope pos) (tLC nt js wi g tt te):=by
 intro pins s σ H Q I h
 rw[eval_ListComp]
 obtain⟨cl,ecl,hcl1,hcl2⟩:=hX (scope:=scope) (env:=X.env) fun p hp hf=>I.ok.has p.1 (B.free p hp hf)
 refine wpAny_comprehension_free (use:=none) rfl hs ecl B.kind B.loc ?_
 refine thn (hi pins s σ H _ I h) fun v s1 h1=>thn h1 fun itv s2 h2=>?_
 obtain⟨it,fp,tn,J,H2,e,I2,T,st2,f2,W,⟨m0,w0⟩,turn⟩:=h2
 subst e
 refine wpAny_newObj_type (wpAny_newFunctionEnv B.nocell (by intro y hy; simp at hy) (fun h1 hns1 hsb1=>?_) B.kind)
 have hfs:∀ b∈fp,b < s2.heap.objs.size:=fun b hb=>by
  obtain⟨o,e,_⟩:=T.obj _ _ st2 b hb
  exact Heap.lt_size e
 have hC:(s2.heap.push (bY [] 0)).objs.size=s2.heap.objs.size+1:=Heap.size_push ..
 have old:∀ b o,(s2.heap.push (bY [] 0)).get? b=some o->h1.get? b=some o:=fun b o e=>(hsb1.2 b (Nat.ne_of_lt (Heap.lt_size e))).trans (Heap.get?_push_of_some _ e)
 have I3:=I2.blkStart (tk:=s2.toks+([]:List (Str×Value)).length) B hcl1 hcl2 f2 hfs old hns1
 have st3:tn 0 h1:=T.keep _ _ _ st2 fun b _ o e=>old b o (Heap.get?_push_of_some _ e)
 have hDf:s2.heap.objs.size∉fp:=fun z=>Nat.lt_irrefl _ (hfs _ z)
 have hDs:s2.heap.objs.size∉frs X.stack:=fun z=>by
  rcases List.mem_cons.mp (I2.stkSub _ z) with q | q
  ·exact absurd I2.lt (by rw[← q]; exact Nat.lt_irrefl _)
  ·exact I2.nofs (Nat.le_refl _) q
 have hDC:s2.heap.objs.size≠(s2.heap.push (bY [] 0)).objs.size:=by rw[hC]; exact Nat.ne_of_lt (Nat.lt_succ_self _)
 have ltc:∀ z c,cl.lookup z=some c->c < s2.heap.objs.size:=fun z c e=>by
  obtain⟨v,q⟩:=I2.cell z c (hcl1 z c e)
  exact q.lt
 have hstat:∀ b∈fp,b≠(s2.heap.push (bY [] 0)).objs.size/\b∉frs X.stack/\∀ x c,cl.lookup x=some c->c≠b:=fun b hb=>by
  refine⟨by rw[hC]; exact Nat.ne_of_lt (Nat.lt_succ_of_lt (hfs b hb)),fun z=>?_,fun x c e=>(f2 b hb).2.2.2.2.1 x c (hcl1 x c e)⟩
  rcases List.mem_cons.mp (I2.stkSub b z) with q | q
  ·exact(f2 b hb).2.1 q
  ·exact(f2 b hb).2.2.1 q
 have loop:codeAny (model X.prog X.w) X.A (.compLoop (.ListComp elt [⟨tg,iter,ifs,0⟩] scope pos) 0 (.ref it) (.ref s2.heap.objs.size) (compEnvC scope cl (s2.heap.push (bY [] 0)).objs.size X.env))
   (compPost (model X.prog X.w) X.A X.xe none (EP X pins σ Q) (.ref s2.heap.objs.size) (s2.heap.push (bY [] 0)).objs.size) { s2 with heap:=h1,toks:=s2.toks+([]:List (Str×Value)).length }:=by
  refine vK (s0:={ s2 with heap:=s2.heap.push (bY [] 0) }) (H0:=H2) (N':=N') (Q:=Q) hc (hg _ _ _ _) (ht _ _ _ _) (he _ _ _ _) T hDf turn hstat hDC hDs (fun x c e=>Nat.ne_of_lt (ltc x c e)) ?_ m0 I3 st3 (fun b hb=>(f2 b hb).1) w0
  intro τ H' s' vs its k I4 rv hl q
  obtain⟨mm,hn,_⟩:=id I4.loc
  exact⟨mm,hn,fun h' sb=>⟨.ref s2.heap.objs.size,_,I2.blkEnd f2 I4 rv hl sb,rfl,q⟩⟩
 exact codeAny_compStart_list loop (T.self _ 0 _ _ _ st3 loop)
end
end L2
set_option maxRecDepth 100000
namespace L2
open PySem PySem.Spec PyProof.Rows DL
inductive D where
 | non | bl (b:Bool) | int (i:Int) | str (x:Str) | ty (n:String) | tup (ds:List D) | ref (n:Nat)
inductive MO where
 | lst (xs:List D)
 | fz (xs:List D)
 | kl (xs:List D)
 | dct (kvs:List (Str×D))
 | dkt (kvs:List (D×D))
 | dkq (kvs:List (D×D))
 | fdc (o:Obj) (kvs:List (Str×D))
 | tb (x:Str) (b:Bool)
abbrev Mem:=List MO
def MO.isL:MO->Bool
 | .dct _=>false
 | .dkt _=>false
 | .dkq _=>false
 | .fdc _ _=>false
 | .tb _ _=>false
 | _=>true
def jq(ks:List Str)(vs:List V):List (Key×V):=(ks.zip vs).map fun p=>(Sum.inr p.1,p.2)
mutual
inductive Rep(K:PySem.W.Frag)(ρ:List Addr)(H:Hp):D->V->Prop
 | non:Rep K ρ H .non .non
 | bl (b:Bool):Rep K ρ H (.bl b) (.bl b)
 | int (i:Int):Rep K ρ H (.int i) (.int i)
 | str (x:Str):Rep K ρ H (.str x) (.str x)
 | ty (n:String):Rep K ρ H (.ty n) (.ty n)
 | tup {a:Addr}{vs:List V}{ds:List D} (h:SqT K H a vs) (r:Reps K ρ H ds vs):Rep K ρ H (.tup ds) (.ref a)
 | ref {n:Nat}{a:Addr} (h:ρ[n]?=some a):Rep K ρ H (.ref n) (.ref a)
inductive Reps(K:PySem.W.Frag)(ρ:List Addr)(H:Hp):List D->List V->Prop
 | nil:Reps K ρ H [] []
 | cons {d:D}{v:V}{ds:List D}{vs:List V} (h:Rep K ρ H d v) (t:Reps K ρ H ds vs):Reps K ρ H (d::ds) (v::vs)
end
def KList(K:PySem.W.Frag)(a:Addr)(xs:List V):Prop :=
 ∃ (o:Obj) (its:Array Value) (n:Nat),K.lookup a=some o/\o.cls=.type "list"/\o.dict=none/\o.data=.seq its n/\its.size<=sizeLine/\ar xs its.toList
def cf:Nat->D->Bool
 | _,.str _=>true
 | _,.int _=>true
 | n+1,.tup ds=>ds.all (cf n)
 | _,_=>false
def hkD(w:World):Nat->D->Int
 | _,.str x=>hashStr w x
 | _,.int i=>hashInt i
 | n+1,.tup ds=>reduceHash (Builtin.Tuple.tupleHashOf (ds.map (hkD w n)))
 | _,_=>0
def dX(a:Addr)(xs:List (D×Addr×Value)):Program->World->Heap->Prop:=fun _ w h =>
 ∃ (o:Obj) (es:Array DictEntry),h.get? a=some o/\o.ExactDict/\o.data=.dict es xs.length/\es.toList=xs.map fun x=>⟨hkD w 8 x.1,.ref x.2.1,x.2.2⟩
def dQ(a:Addr)(e:Nat)(xs:List (D×Addr×Value)):Program->World->Heap->Prop:=fun _ w h =>
 ∃ (o:Obj) (es:Array DictEntry),h.get? a=some o/\o.ExactDict/\o.data=.dict es e/\es.toList=xs.map fun x=>⟨hkD w 8 x.1,.ref x.2.1,x.2.2⟩
def tJ(K:PySem.W.Frag)(ρ:List Addr)(H:Hp)(p:D×D)(q:D×Addr×Value):Prop:=p.1=q.1/\cf 8 p.1=true/\Rep K ρ H p.1 (.ref q.2.1)/\∃ v,Rep K ρ H p.2 v/\aJ v q.2.2
def tL(K:PySem.W.Frag)(ρ:List Addr)(H:Hp)(a:Addr):MO->Prop
 | .lst ds=>∃ vs,H a=some (.lst vs)/\Reps K ρ H ds vs
 | .fz ds=>∃ o vs,H a=some (.frz o (.lst vs))/\Reps K ρ H ds vs
 | .kl ds=>∃ vs,KList K a vs/\Reps K ρ H ds vs
 | .dct kvs=>∃ vs,H a=some (.dK (jq (kvs.map (·.1)) vs))/\Reps K ρ H (kvs.map (·.2)) vs
 | .dkt kvs=>kvs.length<=sizeLine/\(a==sysModules)=false/\(kvs.map (·.1)).Nodup/\∃ xs,H a=some (.ext (dX a xs))/\Paired (tJ K ρ H) kvs xs
 | .dkq kvs=>kvs.length<=sizeLine/\(a==sysModules)=false/\(kvs.map (·.1)).Nodup/\∃ xs,(∃ e,H a=some (.ext (dQ a e xs)))/\Paired (tJ K ρ H) kvs xs
 | .fdc o kvs=>∃ vs,H a=some (.frz o (.dK (jq (kvs.map (·.1)) vs)))/\Reps K ρ H (kvs.map (·.2)) vs
 | .tb x b=>(∃ c,PySem.W.tabIn K x=some (c,a)/\∀ h:Heap,K.In h->PySem.W.CodeHd h c a)/\∃ ps,H a=some (.tbl ps)/\(b=false->ps = #[])
def isK(mo:Option MO):Prop:=∃ ds,mo=some (.kl ds)
def ao(M:Mem)(n:Nat)(xs:List D):Prop:=M[n]?=some (.lst xs)\/M[n]?=some (.fz xs)\/M[n]?=some (.kl xs)
structure Sim(K:PySem.W.Frag)(ρ:List Addr)(M:Mem)(H:Hp):Prop where
 nd:∀ (n m:Nat) (a:Addr),n≠m->ρ[n]?=some a->ρ[m]?=some a->isK M[n]?\/isK M[m]?
 len:ρ.length=M.length
 obj:∀ (n:Nat) (a:Addr) (mo:MO),ρ[n]?=some a->M[n]?=some mo->tL K ρ H a mo
structure Grow(K:PySem.W.Frag)(ρ:List Addr)(H:Hp)(ρ':List Addr)(H':Hp):Prop where
 pre:ρ <+: ρ'
 tup:∀ a xs,SqT K H a xs->SqT K H' a xs
theorem Grow.refl{K:PySem.W.Frag}{ρ:List Addr}{H:Hp}:Grow K ρ H ρ H:=⟨List.prefix_rfl,fun _ _ h=>h⟩
theorem Grow.trans{K:PySem.W.Frag}{ρ ρ1 ρ2:List Addr}{H H1 H2:Hp}(a:Grow K ρ H ρ1 H1)(b:Grow K ρ1 H1 ρ2 H2):Grow K ρ H ρ2 H2:=⟨a.pre.trans b.pre,fun x xs h=>b.tup x xs (a.tup x xs h)⟩
theorem aw{α:Type}{l l':List α}(h:l <+: l'){n:Nat}{a:α}(e:l[n]?=some a):l'[n]?=some a:=by
 obtain⟨t,rfl⟩:=h
 rw[List.getElem?_append_left (List.getElem?_eq_some_iff.mp e).1]
 exact e
mutual
theorem Rep.grow{K:PySem.W.Frag}{ρ ρ':List Addr}{H H':Hp}(g:Grow K ρ H ρ' H'):∀ {d:D}{v:V},Rep K ρ H d v->Rep K ρ' H' d v
 | _,_,.non=>.non
 | _,_,.bl b=>.bl b
 | _,_,.int i=>.int i
 | _,_,.str x=>.str x
 | _,_,.ty n=>.ty n
 | _,_,.tup h r=>.tup (g.tup _ _ h) (Reps.grow g r)
 | _,_,.ref h=>.ref (aw g.pre h)
theorem Reps.grow{K:PySem.W.Frag}{ρ ρ':List Addr}{H H':Hp}(g:Grow K ρ H ρ' H'):∀ {ds:List D}{vs:List V},Reps K ρ H ds vs->Reps K ρ' H' ds vs
 | _,_,.nil=>.nil
 | _,_,.cons h t=>.cons (Rep.grow g h) (Reps.grow g t)
end
section
variable{K:PySem.W.Frag}{ρ ρ':List Addr}{H H':Hp}{M:Mem}
theorem Reps.length:∀ {ds:List D}{vs:List V},Reps K ρ H ds vs->ds.length=vs.length
 | _,_,.nil=>rfl
 | _,_,.cons _ t=>by rw[List.length_cons,List.length_cons,Reps.length t]
theorem Reps.append:∀ {ds es:List D}{vs ws:List V},Reps K ρ H ds vs->Reps K ρ H es ws->Reps K ρ H (ds++es) (vs++ws)
 | _,_,_,_,.nil,s=>s
 | _,_,_,_,.cons r t,s=>.cons r (Reps.append t s)
theorem Reps.get:∀ {ds:List D}{vs:List V}{i:Nat}{d:D},Reps K ρ H ds vs->ds[i]?=some d->∃ v,vs[i]?=some v/\Rep K ρ H d v
 | _,_,_,_,.nil,e=>by simp at e
 | _,_,0,_,.cons r _,e=>by simp at e; subst e; exact⟨_,rfl,r⟩
 | _,_,i+1,d,.cons _ t,e=>by
  obtain⟨v,h1,h2⟩:=Reps.get (i:=i) (d:=d) t (by simpa using e)
  exact⟨v,by simpa using h1,h2⟩
theorem Reps.getV:∀ {ds:List D}{vs:List V}{i:Nat}{v:V},Reps K ρ H ds vs->vs[i]?=some v->∃ d,ds[i]?=some d/\Rep K ρ H d v
 | _,_,_,_,.nil,e=>by simp at e
 | _,_,0,_,.cons r _,e=>by simp at e; subst e; exact⟨_,rfl,r⟩
 | _,_,i+1,d,.cons _ t,e=>by
  obtain⟨v,h1,h2⟩:=Reps.getV (i:=i) (v:=d) t (by simpa using e)
  exact⟨v,by simpa using h1,h2⟩
theorem Reps.take:∀ {ds:List D}{vs:List V} (n:Nat),Reps K ρ H ds vs->Reps K ρ H (ds.take n) (vs.take n)
 | _,_,0,_=>by simpa using .nil
 | _,_,_+1,.nil=>.nil
 | _,_,n+1,.cons r t=>.cons r (Reps.take n t)
theorem Reps.drop:∀ {ds:List D}{vs:List V} (n:Nat),Reps K ρ H ds vs->Reps K ρ H (ds.drop n) (vs.drop n)
 | _,_,0,r=>r
 | _,_,_+1,.nil=>.nil
 | _,_,n+1,.cons _ t=>Reps.drop n t
theorem SqT.laid(hp:H p=none)(h:SqT K H a xs):SqT K (upd H p o) a xs:=by
 rcases h with h | h
 ·rcases h with h | ⟨ob,h⟩
  ·exact .inl (.inl (by rw[ak (ad h hp)]; exact h))
  ·exact .inl (.inr ⟨ob,by rw[ak (ad h hp)]; exact h⟩)
 ·exact .inr h
theorem SqT.written(hp:H p=some (.lst vs))(h:SqT K H a xs):SqT K (upd H p o) a xs:=by
 rcases h with h | h
 ·rcases h with h | ⟨ob,h⟩
  ·exact .inl (.inl (by rw[ak (xK h hp (by intro z; cases z))]; exact h))
  ·exact .inl (.inr ⟨ob,by rw[ak (xK h hp (by intro z; cases z))]; exact h⟩)
 ·exact .inr h
theorem Grow.laid(hp:H p=none):Grow K ρ H ρ (upd H p o):=⟨List.prefix_rfl,fun _ _ h=>SqT.laid hp h⟩
theorem Grow.laidR(hp:H p=none):Grow K ρ H (ρ++[p]) (upd H p o):=⟨List.prefix_append _ _,fun _ _ h=>SqT.laid hp h⟩
theorem Sim.tracked(S:Sim K ρ M H){n:Nat}{a:Addr}(e:ρ[n]?=some a):(∃ o,H a=some o)\/isK M[n]?:=by
 have hn:n < M.length:=by rw[← S.len]; exact(List.getElem?_eq_some_iff.mp e).1
 have hm:M[n]?=some M[n]:=List.getElem?_eq_getElem hn
 have h:=S.obj n a _ e hm
 rw[hm]
 cases hmo:M[n] with
 | lst ds=>rw[hmo] at h; obtain⟨vs,h,_⟩:=h; exact .inl ⟨_,h⟩
 | fz ds=>rw[hmo] at h; obtain⟨o,vs,h,_⟩:=h; exact .inl ⟨_,h⟩
 | kl ds=>exact .inr ⟨ds,rfl⟩
 | dct kvs=>rw[hmo] at h; obtain⟨vs,h,_⟩:=h; exact .inl ⟨_,h⟩
 | dkt kvs=>rw[hmo] at h; obtain⟨_,_,_,xs,h,_⟩:=h; exact .inl ⟨_,h⟩
 | dkq kvs=>rw[hmo] at h; obtain⟨_,_,_,xs,⟨_,h⟩,_⟩:=h; exact .inl ⟨_,h⟩
 | fdc o kvs=>rw[hmo] at h; obtain⟨vs,h,_⟩:=h; exact .inl ⟨_,h⟩
 | tb x b=>rw[hmo] at h; obtain⟨_,ps,h,_⟩:=h; exact .inl ⟨_,h⟩
theorem tL.grow(g:Grow K ρ H ρ' H')(hs:H' a=H a\/isK (some mo))(h:tL K ρ H a mo):tL K ρ' H' a mo:=by
 cases mo with
 | lst ds =>
  obtain⟨vs,e,r⟩:=h
  rcases hs with hs | ⟨_,z⟩
  ·exact⟨vs,by rw[hs]; exact e,r.grow g⟩
  ·cases z
 | fz ds =>
  obtain⟨o,vs,e,r⟩:=h
  rcases hs with hs | ⟨_,z⟩
  ·exact⟨o,vs,by rw[hs]; exact e,r.grow g⟩
  ·cases z
 | fdc o kvs =>
  obtain⟨vs,e,r⟩:=h
  rcases hs with hs | ⟨_,z⟩
  ·exact⟨vs,by rw[hs]; exact e,r.grow g⟩
  ·cases z
 | tb x b =>
  obtain⟨c,ps,e,q⟩:=h
  rcases hs with hs | ⟨_,z⟩
  ·exact⟨c,ps,by rw[hs]; exact e,q⟩
  ·cases z
 | kl ds=>obtain⟨vs,e,r⟩:=h; exact⟨vs,e,r.grow g⟩
 | dct kvs =>
  obtain⟨vs,e,r⟩:=h
  rcases hs with hs | ⟨_,z⟩
  ·exact⟨vs,by rw[hs]; exact e,r.grow g⟩
  ·cases z
 | dkt kvs =>
  obtain⟨h1,h2,h3,xs,e,r⟩:=h
  rcases hs with hs | ⟨_,z⟩
  ·exact⟨h1,h2,h3,xs,by rw[hs]; exact e,Paired.mapP r fun _ _ ⟨q1,q2,q3,v,q4,q5⟩=>⟨q1,q2,q3.grow g,v,q4.grow g,q5⟩⟩
  ·cases z
 | dkq kvs =>
  obtain⟨h1,h2,h3,xs,e,r⟩:=h
  rcases hs with hs | ⟨_,z⟩
  ·exact⟨h1,h2,h3,xs,by rw[hs]; exact e,Paired.mapP r fun _ _ ⟨q1,q2,q3,v,q4,q5⟩=>⟨q1,q2,q3.grow g,v,q4.grow g,q5⟩⟩
  ·cases z
theorem Sim.keeps{p:Addr}{o:HO}(S:Sim K ρ M H)(hp:H p=none){n:Nat}{a:Addr}{mo:MO}(e1:ρ[n]?=some a)(e2:M[n]?=some mo):upd H p o a=H a\/isK (some mo):=by
 rcases S.tracked e1 with ⟨ob,hob⟩ | q
 ·exact .inl (ak (ad hob hp))
 ·rw[e2] at q
  exact .inr q
theorem Sim.laid{p:Addr}{o:HO}(S:Sim K ρ M H)(hp:H p=none):Sim K ρ M (upd H p o) :=
 ⟨S.nd,S.len,fun n a mo e1 e2=>(S.obj n a mo e1 e2).grow (Grow.laid hp) (S.keeps hp e1 e2)⟩
theorem aM{α:Type}{l:List α}{x y:α}{n:Nat}(h:(l++[x])[n]?=some y):l[n]?=some y\/(n=l.length/\y=x):=by
 by_cases hn:n < l.length
 ·rw[List.getElem?_append_left hn] at h
  exact .inl h
 ·have hn':n=l.length:=by
   have:=(List.getElem?_eq_some_iff.mp h).1
   rw[List.length_append,List.length_singleton] at this
   lia
  subst hn'
  rw[List.getElem?_append_right (Nat.le_refl _),Nat.sub_self] at h
  simp at h
  exact .inr ⟨rfl,h.symm⟩
theorem isK.more{mo:MO}{n:Nat}(h:isK M[n]?):isK (M++[mo])[n]?:=by
 obtain⟨ds,e⟩:=h
 exact⟨ds,by rw[List.getElem?_append_left (List.getElem?_eq_some_iff.mp e).1]; exact e⟩
theorem Sim.laidL{p:Addr}{ds:List D}{vs:List V}(S:Sim K ρ M H)(hp:H p=none)(r:Reps K ρ H ds vs):Sim K (ρ++[p]) (M++[.lst ds]) (upd H p (.lst vs)):=by
 have g:Grow K ρ H (ρ++[p]) (upd H p (.lst vs)):=Grow.laidR hp
 have old:∀ (n:Nat),ρ[n]?=some p->isK M[n]?:=fun n e=>by
  rcases S.tracked e with ⟨o,q⟩ | q
  ·rw[hp] at q; cases q
  ·exact q
 refine⟨fun n m a hnm e1 e2=>?_,by rw[List.length_append,List.length_append,S.len]; rfl,fun n a mo e1 e2=>?_⟩
 ·rcases aM e1 with f1 | ⟨f1,g1⟩
  ·rcases aM e2 with f2 | ⟨f2,g2⟩
   ·exact(S.nd n m a hnm f1 f2).elim (fun z=>.inl z.more) fun z=>.inr z.more
   ·subst g2
    exact .inl (old n f1).more
  ·rcases aM e2 with f2 | ⟨f2,g2⟩
   ·subst g1
    exact .inr (old m f2).more
   ·exact absurd (f1.trans f2.symm) hnm
 ·rcases aM e1 with f1 | ⟨f1,g1⟩
  ·have hn:n < M.length:=by rw[← S.len]; exact(List.getElem?_eq_some_iff.mp f1).1
   rw[List.getElem?_append_left hn] at e2
   exact(S.obj n a mo f1 e2).grow g (S.keeps hp f1 e2)
  ·subst g1 f1
   rw[S.len,List.getElem?_append_right (Nat.le_refl _),Nat.sub_self] at e2
   simp at e2
   subst e2
   exact⟨vs,aI,r.grow g⟩
theorem Sim.last(S:Sim K ρ M H):(ρ++[p])[M.length]?=some p:=by
 rw[← S.len,List.getElem?_append_right (Nat.le_refl _),Nat.sub_self]
 rfl
theorem Sim.write(S:Sim K ρ M H)(e1:ρ[n]?=some a)(hM:M[n]?=some (.lst ds))(hH:H a=some (.lst vs))(r:Reps K ρ H ds' vs') :
  Sim K ρ (M.set n (.lst ds')) (upd H a (.lst vs'))/\Grow K ρ H ρ (upd H a (.lst vs')):=by
 have g:Grow K ρ H ρ (upd H a (.lst vs')):=⟨List.prefix_rfl,fun _ _ h=>SqT.written hH h⟩
 have hk:∀ m,m≠n->(M.set n (.lst ds'))[m]?=M[m]?:=fun m hm=>List.getElem?_set_ne (Ne.symm hm)
 have notK:¬ isK M[n]?:=fun ⟨_,z⟩=>by rw[hM] at z; cases z
 refine⟨⟨fun m m' b hne f1 f2=>?_,by rw[List.length_set]; exact S.len,fun m b mo f1 f2=>?_⟩,g⟩
 ·have q:=S.nd m m' b hne f1 f2
  by_cases h1:m=n
  ·subst h1
   rw[hk m' (Ne.symm hne)]
   exact .inr (q.resolve_left notK)
  ·rw[hk m h1]
   by_cases h2:m'=n
   ·subst h2
    exact .inl (q.resolve_right notK)
   ·rw[hk m' h2]
    exact q
 by_cases hm:m=n
 ·subst hm
  have hb:b=a:=Option.some.inj (f1.symm.trans e1)
  subst hb
  rw[List.getElem?_set_self (by rw[← S.len]; exact(List.getElem?_eq_some_iff.mp e1).1)] at f2
  cases f2
  exact⟨vs',aI,r.grow g⟩
 ·rw[hk m hm] at f2
  by_cases hb:b=a
  ·subst hb
   have q:=S.nd m n b hm f1 e1
   have q':=q.resolve_right notK
   rw[f2] at q'
   exact(S.obj m b mo f1 f2).grow g (.inr q')
  ·exact(S.obj m b mo f1 f2).grow g (.inl (ak hb))
theorem ao.seq(S:Sim K ρ M H)(h:ao M n xs)(e:ρ[n]?=some a):∃ vs,SqL K H a vs/\Reps K ρ H xs vs:=by
 rcases h with h | h | h
 ·obtain⟨vs,q,r⟩:=S.obj n a _ e h
  exact⟨vs,.inl (.inl q),r⟩
 ·obtain⟨o,vs,q,r⟩:=S.obj n a _ e h
  exact⟨vs,.inl (.inr ⟨o,q⟩),r⟩
 ·obtain⟨vs,q,r⟩:=S.obj n a _ e h
  exact⟨vs,.inr q,r⟩
theorem Sim.get(S:Sim K ρ M H){n:Nat}{mo:MO}(e:M[n]?=some mo):∃ a,ρ[n]?=some a/\tL K ρ H a mo:=by
 have hn:n < ρ.length:=by rw[S.len]; exact(List.getElem?_eq_some_iff.mp e).1
 exact⟨ρ[n],List.getElem?_eq_getElem hn,S.obj n _ mo (List.getElem?_eq_getElem hn) e⟩
end
abbrev SD:=List (Option D)
structure SRep(K:PySem.W.Frag)(ρ:List Addr)(H:Hp)(S:SD)(σ:St):Prop where
 len:S.length=σ.length
 get:∀ (i:Nat) (d:D),S[i]?=some (some d)->∃ v,σ[i]?=some (some v)/\Rep K ρ H d v
theorem SRep.grow{K:PySem.W.Frag}{ρ ρ':List Addr}{H H':Hp}{S:SD}{σ:St}(r:SRep K ρ H S σ)(g:Grow K ρ H ρ' H'):SRep K ρ' H' S σ :=
 ⟨r.len,fun i d e=>let ⟨v,h1,h2⟩:=r.get i d e; ⟨v,h1,h2.grow g⟩⟩
theorem SRep.set{K:PySem.W.Frag}{ρ:List Addr}{H:Hp}{S:SD}{σ:St}(r:SRep K ρ H S σ)(i:Nat){d:D}{v:V}(h:Rep K ρ H d v):SRep K ρ H (S.set i (some d)) (σ.set i (some v)):=by
 refine⟨by rw[List.length_set,List.length_set]; exact r.len,fun j e hj=>?_⟩
 by_cases hij:i=j
 ·subst hij
  by_cases hl:i < S.length
  ·rw[List.getElem?_set_self hl] at hj
   cases hj
   exact⟨v,by rw[List.getElem?_set_self (by rw[← r.len]; exact hl)],h⟩
  ·rw[List.getElem?_eq_none (by rw[List.length_set]; lia)] at hj
   cases hj
 ·rw[List.getElem?_set_ne hij] at hj
  rw[List.getElem?_set_ne hij]
  exact r.get j e hj
abbrev DK:=D->Mem->Prop
abbrev DTE:=SD->Mem->DK->Prop
abbrev DTT:=SD->Mem->(Bool->Mem->Prop)->Prop
abbrev DTA:=SD->Mem->(List D->Mem->Prop)->Prop
structure DEnds where
 nx:SD->Mem->Prop
 rt:DK
 bk:SD->Mem->Prop:=fun _ _=>False
 ct:SD->Mem->Prop:=fun _ _=>False
abbrev DTS:=DEnds->SD->Mem->Prop
abbrev DTG:=D->SD->Mem->(SD->Mem->Prop)->Prop
abbrev zO:=List D->SD->Mem->(SD->Mem->Prop)->Prop
abbrev DR2:=D->D->Mem->DK->Prop
abbrev DR1:=D->Mem->DK->Prop
abbrev DRA:=List D->Mem->DK->Prop
section
variable(K:PySem.W.Frag)
inductive VQ(ρ:List Addr)(H:Hp)(Q:DK)(v:V)(H':Hp):Prop
 | mk (d:D) (M':Mem) (ρ':List Addr) (s:Sim K ρ' M' H') (g:Grow K ρ H ρ' H') (r:Rep K ρ' H' d v) (q:Q d M')
inductive BQ(ρ:List Addr)(H:Hp)(Q:Bool->Mem->Prop)(b:Bool)(H':Hp):Prop
 | mk (M':Mem) (ρ':List Addr) (s:Sim K ρ' M' H') (g:Grow K ρ H ρ' H') (q:Q b M')
inductive AQ(ρ:List Addr)(H:Hp)(Q:List D->Mem->Prop)(vs:List V)(H':Hp):Prop
 | mk (ds:List D) (M':Mem) (ρ':List Addr) (s:Sim K ρ' M' H') (g:Grow K ρ H ρ' H') (r:Reps K ρ' H' ds vs) (q:Q ds M')
inductive SQ(ρ:List Addr)(H:Hp)(Q:SD->Mem->Prop)(σ':St)(H':Hp):Prop
 | mk (S':SD) (M':Mem) (ρ':List Addr) (s:Sim K ρ' M' H') (g:Grow K ρ H ρ' H') (r:SRep K ρ' H' S' σ') (q:Q S' M')
structure Ups(ρ:List Addr)(H:Hp)(F:DEnds)(E:Ends):Prop where
 nx:∀ σ' H',SQ K ρ H F.nx σ' H'->E.nx σ' H'
 rt:∀ v H',VQ K ρ H F.rt v H'->E.rt v H'
 bk:∀ σ' H',SQ K ρ H F.bk σ' H'->E.bk σ' H'
 ct:∀ σ' H',SQ K ρ H F.ct σ' H'->E.ct σ' H'
inductive lowE(t:DTE)(σ:St)(H:Hp)(R:VK):Prop
 | mk (S:SD) (M:Mem) (ρ:List Addr) (Q:DK) (s:Sim K ρ M H) (sr:SRep K ρ H S σ) (q:t S M Q) (k:∀ v H',VQ K ρ H Q v H'->R v H')
inductive lowT(t:DTT)(σ:St)(H:Hp)(R:Bool->Hp->Prop):Prop
 | mk (S:SD) (M:Mem) (ρ:List Addr) (Q:Bool->Mem->Prop) (s:Sim K ρ M H) (sr:SRep K ρ H S σ) (q:t S M Q) (k:∀ v H',BQ K ρ H Q v H'->R v H')
inductive lowA(t:DTA)(σ:St)(H:Hp)(R:List V->Hp->Prop):Prop
 | mk (S:SD) (M:Mem) (ρ:List Addr) (Q:List D->Mem->Prop) (s:Sim K ρ M H) (sr:SRep K ρ H S σ) (q:t S M Q) (k:∀ v H',AQ K ρ H Q v H'->R v H')
inductive lowS(t:DTS)(E:Ends)(σ:St)(H:Hp):Prop
 | mk (S:SD) (M:Mem) (ρ:List Addr) (F:DEnds) (s:Sim K ρ M H) (sr:SRep K ρ H S σ) (q:t F S M) (k:Ups K ρ H F E)
inductive lowG(g:DTG)(v:V)(σ:St)(H:Hp)(R:St->Hp->Prop):Prop
 | mk (d:D) (S:SD) (M:Mem) (ρ:List Addr) (Q:SD->Mem->Prop) (s:Sim K ρ M H) (sr:SRep K ρ H S σ) (r:Rep K ρ H d v) (q:g d S M Q) (k:∀ σ' H',SQ K ρ H Q σ' H'->R σ' H')
inductive lowGs(g:zO)(vs:List V)(σ:St)(H:Hp)(R:St->Hp->Prop):Prop
 | mk (ds:List D) (S:SD) (M:Mem) (ρ:List Addr) (Q:SD->Mem->Prop) (s:Sim K ρ M H) (sr:SRep K ρ H S σ) (r:Reps K ρ H ds vs) (q:g ds S M Q) (k:∀ σ' H',SQ K ρ H Q σ' H'->R σ' H')
inductive lowR(r:DR2)(vx vy:V)(H:Hp)(R:VK):Prop
 | mk (x y:D) (M:Mem) (ρ:List Addr) (Q:DK) (s:Sim K ρ M H) (r1:Rep K ρ H x vx) (r2:Rep K ρ H y vy) (q:r x y M Q) (k:∀ v H',VQ K ρ H Q v H'->R v H')
inductive lowU(r:DR1)(vx:V)(H:Hp)(R:VK):Prop
 | mk (x:D) (M:Mem) (ρ:List Addr) (Q:DK) (s:Sim K ρ M H) (r1:Rep K ρ H x vx) (q:r x M Q) (k:∀ v H',VQ K ρ H Q v H'->R v H')
inductive lowC(r:DRA)(vs:List V)(H:Hp)(R:VK):Prop
 | mk (ds:List D) (M:Mem) (ρ:List Addr) (Q:DK) (s:Sim K ρ M H) (r1:Reps K ρ H ds vs) (q:r ds M Q) (k:∀ v H',VQ K ρ H Q v H'->R v H')
end
def DE(X:Cx)(e:Expr)(t:DTE):Prop:=PE X e (lowE X.K t)
def DT(X:Cx)(e:Expr)(t:DTT):Prop:=PT X e (lowT X.K t)
def DW(X:Cx)(e:Expr)(t:DTT):Prop:=PW X e (lowT X.K t)
def DA(X:Cx)(es:List Expr)(t:DTA):Prop:=PA X es (lowA X.K t)
def DS(X:Cx)(st:Stmt)(t:DTS):Prop:=PS X st (lowS X.K t)
def DSs(X:Cx)(st:List Stmt)(t:DTS):Prop:=PSs X st (lowS X.K t)
def DG(X:Cx)(tg:Expr)(g:DTG):Prop:=PG X tg (lowG X.K g)
def DGs(X:Cx)(tg:List Expr)(g:zO):Prop:=PGs X tg (lowGs X.K g)
def OpD(X:Cx)(f:Value->Value->Sem Value)(r:DR2):Prop:=OpR X f (lowR X.K r)
def UnD(X:Cx)(f:Value->Sem Value)(r:DR1):Prop:=UnR X f (lowU X.K r)
def jI(X:Cx)(f:Value)(r:DRA):Prop:=fE X f (lowC X.K r)
section
variable{K:PySem.W.Frag}{ρ ρ1:List Addr}{H H1:Hp}
theorem VQ.trans(g:Grow K ρ H ρ1 H1)(h:VQ K ρ1 H1 Q v H'):VQ K ρ H Q v H':=by
 obtain⟨d,M',ρ',s,g',r,q⟩:=h
 exact⟨d,M',ρ',s,g.trans g',r,q⟩
theorem BQ.trans(g:Grow K ρ H ρ1 H1)(h:BQ K ρ1 H1 Q v H'):BQ K ρ H Q v H':=by
 obtain⟨M',ρ',s,g',q⟩:=h
 exact⟨M',ρ',s,g.trans g',q⟩
theorem SQ.trans(g:Grow K ρ H ρ1 H1)(h:SQ K ρ1 H1 Q v H'):SQ K ρ H Q v H':=by
 obtain⟨d,M',ρ',s,g',r,q⟩:=h
 exact⟨d,M',ρ',s,g.trans g',r,q⟩
theorem Ups.trans(g:Grow K ρ H ρ1 H1)(h:Ups K ρ H F E):Ups K ρ1 H1 F E :=
 ⟨fun σ' H' q=>h.nx σ' H' (SQ.trans g q),fun v H' q=>h.rt v H' (VQ.trans g q),fun σ' H' q=>h.bk σ' H' (SQ.trans g q),fun σ' H' q=>h.ct σ' H' (SQ.trans g q)⟩
theorem VQ.now(s:Sim K ρ M H)(r:Rep K ρ H d v)(q:Q d M):VQ K ρ H Q v H:=⟨d,M,ρ,s,.refl,r,q⟩
end
section
variable{K:PySem.W.Frag}{ρ:List Addr}{H:Hp}{v:V}{vs:List V}
theorem Rep.inv_non(h:Rep K ρ H .non v):v=.non:=by cases h; rfl
theorem Rep.inv_bl(h:Rep K ρ H (.bl b) v):v=.bl b:=by cases h; rfl
theorem Rep.inv_int(h:Rep K ρ H (.int i) v):v=.int i:=by cases h; rfl
theorem Rep.inv_str(h:Rep K ρ H (.str x) v):v=.str x:=by cases h; rfl
theorem Rep.inv_ty(h:Rep K ρ H (.ty n) v):v=.ty n:=by cases h; rfl
theorem Rep.inv_tup(h:Rep K ρ H (.tup ds) v):∃ a vs,v=.ref a/\SqT K H a vs/\Reps K ρ H ds vs:=by cases h with | tup h r=>exact⟨_,_,rfl,h,r⟩
theorem Rep.inv_ref(h:Rep K ρ H (.ref n) v):∃ a,v=.ref a/\ρ[n]?=some a:=by cases h with | ref h=>exact⟨_,rfl,h⟩
theorem ar.inv_cons(h:ar (x::vs) us):∃ u ws,us=u::ws/\aJ x u/\ar vs ws:=by cases h with | cons h t=>exact⟨_,_,rfl,h,t⟩
theorem ar.inv_nil(h:ar [] us):us=[]:=by cases h; rfl
theorem Reps.inv_nil(h:Reps K ρ H [] vs):vs=[]:=by cases h; rfl
theorem Reps.inv_cons(h:Reps K ρ H (d::ds) vs):∃ v ws,vs=v::ws/\Rep K ρ H d v/\Reps K ρ H ds ws:=by cases h with | cons h t=>exact⟨_,_,rfl,h,t⟩
end
end L2
set_option maxRecDepth 100000
namespace L2
open PySem PySem.Spec PyProof.Rows DL
theorem PE.imp(h:PE X e t')(i:∀ σ H R,t σ H R->t' σ H R):PE X e t:=fun pins s σ H R I q=>h pins s σ H R I (i σ H R q)
theorem PT.imp(h:PT X e t')(i:∀ σ H R,t σ H R->t' σ H R):PT X e t:=fun pins s σ H R I q=>h pins s σ H R I (i σ H R q)
theorem PW.imp(h:PW X e t')(i:∀ σ H R,t σ H R->t' σ H R):PW X e t:=fun w pins s σ H R I q=>h w pins s σ H R I (i σ H R q)
theorem PA.imp(h:PA X e t')(i:∀ σ H R,t σ H R->t' σ H R):PA X e t:=fun pos pins s σ H R I q=>h pos pins s σ H R I (i σ H R q)
theorem PS.imp(h:PS X e t')(i:∀ E σ H,t E σ H->t' E σ H):PS X e t:=fun pins s σ H R I q=>h pins s σ H R I (i R σ H q)
theorem PSs.imp(h:PSs X e t')(i:∀ E σ H,t E σ H->t' E σ H):PSs X e t:=fun pins s σ H R I q=>h pins s σ H R I (i R σ H q)
theorem OpR.imp(h:OpR X f r')(i:∀ x y H R,r x y H R->r' x y H R):OpR X f r:=fun pins s σ H x y v u R I a b q=>h pins s σ H x y v u R I a b (i x y H R q)
theorem fE.imp(h:fE X f r')(i:∀ xs H R,r xs H R->r' xs H R):fE X f r:=fun pins s σ H xs us R I a q=>h pins s σ H xs us R I a (i xs H R q)
section
variable{X:Cx}{a b c:Expr}{ta tb tc:DTE}{pos:Pos}
def ac(i:Nat):DTE:=fun S M Q=>match S[i]? with
 | some (some d)=>Q d M
 | _=>False
def dC(d:D):DTE:=fun _ M Q=>Q d M
theorem xO{K:PySem.W.Frag}{i:Nat}(σ:St)(H:Hp)(R:VK)(h:lowE K (ac i) σ H R):tVar i σ H R:=by
 obtain⟨S,M,ρ,Q,s,r,q,k⟩:=h
 unfold ac at q
 cases e:S[i]? with
 | none=>rw[e] at q; exact q.elim
 | some o =>
  cases o with
  | none=>rw[e] at q; exact q.elim
  | some d =>
   rw[e] at q
   obtain⟨v,hv,rv⟩:=r.get i d e
   exact⟨v,hv,k v H (VQ.now s rv q)⟩
theorem d_var(hN:X.N[i]?=some x:=by rfl)(hv:Vis X.env.scope x:=by first | exact Or.inl rfl | exact Or.inr (Or.inl rfl) | exact Or.inr (Or.inr rfl))(hd:(x==("__debug__":Str))=false:=by decide)
  (hcd:(x==("__classdict__":Str))=false:=by decide):DE X (.Name x pos) (ac i):=PE.imp (yV hN hv hd hcd) xO
def cV:D->Option V
 | .non=>some .non
 | .bl b=>some (.bl b)
 | .int i=>some (.int i)
 | .str x=>some (.str x)
 | .ty n=>some (.ty n)
 | _=>none
theorem wK{K:PySem.W.Frag}{ρ:List Addr}{H:Hp}{d:D}{v:V}(h:cV d=some v):Rep K ρ H d v:=by
 cases d with
 | non=>cases h; exact .non
 | bl b=>cases h; exact .bl b
 | int b=>cases h; exact .int b
 | str b=>cases h; exact .str b
 | ty b=>cases h; exact .ty b
 | tup b=>cases h
 | ref b=>cases h
theorem mV{K:PySem.W.Frag}{d:D}{v:V}(hd:cV d=some v)(σ:St)(H:Hp)(R:VK)(h:lowE K (dC d) σ H R):tC v σ H R:=by
 obtain⟨S,M,ρ,Q,s,r,q,k⟩:=h
 exact k v H (VQ.now s (wK hd) q)
theorem d_int{i:Int}{j:Nat}:DE X (.Constant (.int i) j pos) (dC (.int i)):=PE.imp Da (mV rfl)
theorem d_bl{i:Bool}{j:Nat}:DE X (.Constant (.bool i) j pos) (dC (.bl i)):=PE.imp pe_bl (mV rfl)
theorem d_non{j:Nat}:DE X (.Constant .none j pos) (dC .non):=PE.imp CY (mV rfl)
theorem d_str{i:Str}{j:Nat}:DE X (.Constant (.str i) j pos) (dC (.str i)):=PE.imp CV (mV rfl)
theorem EN{x:Str}{T:String}(hm:X.mg x=none)(hv:bootBuiltins x=some (.type T))(hg:Gl X x:=by rfl)(hn:x≠"__name__":=by decide)(hb:(x==("__debug__":Str))=false:=by decide):DE X (.Name x pos) (dC (.ty T)) :=
 PE.imp (Ay (v:=.ty T) hg hm hv rfl hn hb) (mV rfl)
theorem low2{K:PySem.W.Frag}{S:SD}{M:Mem}{ρ:List Addr}{σ:St}{H:Hp}{P:D->D->Mem->Prop}{G:V->V->Hp->Prop}(s:Sim K ρ M H)(r:SRep K ρ H S σ)(h:ta S M fun x M1=>tb S M1 fun y M2=>P x y M2)
  (k:∀ x y vx vy M2 ρ2 H2,Sim K ρ2 M2 H2->Grow K ρ H ρ2 H2->Rep K ρ2 H2 x vx->Rep K ρ2 H2 y vy->P x y M2->G vx vy H2):lowE K ta σ H fun vx H1=>lowE K tb σ H1 fun vy H2=>G vx vy H2:=by
 refine⟨S,M,ρ,_,s,r,h,fun vx H1 ⟨x,M1,ρ1,s1,g1,r1,q1⟩=>⟨S,M1,ρ1,_,s1,r.grow g1,q1,fun vy H2 ⟨y,M2,ρ2,s2,g2,r2,q2⟩=>?_⟩⟩
 exact k x y vx vy M2 ρ2 H2 s2 (g1.trans g2) (r1.grow g2) r2 q2
def dOp(r:DR2)(ta tb:DTE):DTE:=fun S M Q=>ta S M fun x M1=>tb S M1 fun y M2=>r x y M2 Q
theorem lH{K:PySem.W.Frag}{r:DR2}(σ:St)(H:Hp)(R:VK)(h:lowE K (dOp r ta tb) σ H R):tOp (lowR K r) (lowE K ta) (lowE K tb) σ H R:=by
 obtain⟨S,M,ρ,Q,s,sr,q,k⟩:=h
 exact low2 s sr q fun x y vx vy M2 ρ2 H2 s2 g2 r1 r2 q2=>⟨x,y,M2,ρ2,Q,s2,r1,r2,q2,fun v H' w=>k v H' (VQ.trans g2 w)⟩
theorem d_op(ho:OpD X (binaryOp op) r)(ha:DE X a ta)(hb:DE X b tb):DE X (.BinOp a op b pos) (dOp r ta tb):=PE.imp (pe_op ho ha hb) lH
theorem d_cmp(ho:OpD X (compareOp op) r)(ha:DE X a ta)(hb:DE X b tb)(hm:behindInMarks op b=false:=by with_unfolding_all rfl):DE X (.Compare a [op] [b] pos) (dOp r ta tb):=PE.imp (Aw ho ha hb hm) lH
def aA(t:DTE):DTT:=fun S M Q=>t S M fun x M'=>match x with
 | .bl b=>Q b M'
 | _=>False
theorem mU{K:PySem.W.Frag}{t:DTE}(σ:St)(H:Hp)(R:Bool->Hp->Prop)(h:lowT K (aA t) σ H R):Cp (lowE K t) σ H R:=by
 obtain⟨S,M,ρ,Q,s,sr,q,k⟩:=h
 refine⟨S,M,ρ,_,s,sr,q,fun v H' ⟨d,M',ρ',s',g',r',q'⟩=>?_⟩
 cases r' with
 | bl b=>exact⟨b,rfl,k b H' ⟨M',ρ',s',g',q'⟩⟩
 | _=>exact q'.elim
theorem Ex(ho:OpD X (compareOp op) r)(ha:DE X a ta)(hb:DE X b tb)(hm:behindInMarks op b=false:=by with_unfolding_all rfl):DT X (.Compare a [op] [b] pos) (aA (dOp r ta tb)):=by
 refine PT.imp (An ho ha hb hm) fun σ H R h=>?_
 obtain⟨S,M,ρ,Q,s,sr,q,k⟩:=mU σ H R h
 exact lH σ H _ ⟨S,M,ρ,Q,s,sr,q,k⟩
theorem Eu(h:DE X e t)(he:∀ whole,isTrue e X.env whole=(do let v ← whole; standAt e.pos; holding [v] (truthy v)):=by intro _; rfl):DT X e (aA t):=PT.imp (CL h he) mU
def onB(z:D)(k:Bool->Prop):Prop:=match z with
 | .bl b=>k b
 | _=>False
theorem yW{b:Bool}{k:Bool->Prop}:onB (.bl b) k=k b:=rfl
variable{tA tB:DTT}{aN:List Expr}
def yD(t u:DTT):DTT:=fun S M Q=>t S M fun b M1=>if b=true then u S M1 Q else Q false M1
def dOr(t u:DTT):DTT:=fun S M Q=>t S M fun b M1=>if b=true then Q true M1 else u S M1 Q
def ET(t:DTT):DTT:=fun S M Q=>t S M fun b M1=>Q (!b) M1
theorem Bs(ha:DT X a tA):DW X (.BoolOp .And [a] pos) tA:=Aj ha
theorem Es(ha:DT X a tA):DW X (.BoolOp .Or [a] pos) tA:=CI ha
theorem Et(ha:DT X a tA)(hb:DW X (.BoolOp .And (b::aN) pos) tB):DW X (.BoolOp .And (a::b::aN) pos) (yD tA tB):=by
 refine PW.imp (CJ ha hb) fun σ H R ⟨S,M,ρ,Q,s,sr,q,k⟩=>⟨S,M,ρ,_,s,sr,q,fun c H1 ⟨M1,ρ1,s1,g1,q1⟩=>?_⟩
 cases c with
 | true=>exact bQ ⟨S,M1,ρ1,Q,s1,sr.grow g1,(show tB S M1 Q from q1),fun v H' w=>k v H' (BQ.trans g1 w)⟩
 | false=>exact bH (k false H1 ⟨M1,ρ1,s1,g1,q1⟩)
theorem dw_or(ha:DT X a tA)(hb:DW X (.BoolOp .Or (b::aN) pos) tB):DW X (.BoolOp .Or (a::b::aN) pos) (dOr tA tB):=by
 refine PW.imp (pw_or ha hb) fun σ H R ⟨S,M,ρ,Q,s,sr,q,k⟩=>⟨S,M,ρ,_,s,sr,q,fun c H1 ⟨M1,ρ1,s1,g1,q1⟩=>?_⟩
 cases c with
 | false=>exact bH ⟨S,M1,ρ1,Q,s1,sr.grow g1,(show tB S M1 Q from q1),fun v H' w=>k v H' (BQ.trans g1 w)⟩
 | true=>exact bQ (k true H1 ⟨M1,ρ1,s1,g1,q1⟩)
theorem dw_t(h:DW X e t):DT X e t:=PW.pt h
theorem Ew(ha:DT X a tA):DT X (.UnaryOp .Not a pos) (ET tA) :=
 PT.imp (CM ha) fun σ H R ⟨S,M,ρ,Q,s,sr,q,k⟩=>⟨S,M,ρ,_,s,sr,q,fun c H1 ⟨M1,ρ1,s1,g1,q1⟩=>k (!c) H1 ⟨M1,ρ1,s1,g1,q1⟩⟩
def tD(ta tb:DTE):DTE:=fun S M Q=>ta S M fun x M1=>onB x fun b=>if b=true then tb S M1 Q else Q (.bl false) M1
def dOrV(ta tb:DTE):DTE:=fun S M Q=>ta S M fun x M1=>onB x fun b=>if b=true then Q (.bl true) M1 else tb S M1 Q
theorem d_one{op}(h:DE X a ta):DE X (.BoolOp op [a] pos) ta:=CW h
theorem d_and(ha:DE X a ta)(hb:DE X (.BoolOp .And (b::aN) pos) tb):DE X (.BoolOp .And (a::b::aN) pos) (tD ta tb):=by
 refine PE.imp (Db ha hb) fun σ H R ⟨S,M,ρ,Q,s,sr,q,k⟩=>⟨S,M,ρ,_,s,sr,q,fun v H1 ⟨d,M1,ρ1,s1,g1,r1,q1⟩=>?_⟩
 cases r1 with
 | bl c =>
  cases c with
  | true=>exact⟨true,rfl,bQ ⟨S,M1,ρ1,Q,s1,sr.grow g1,(show tb S M1 Q from q1),fun v H' w=>k v H' (VQ.trans g1 w)⟩⟩
  | false=>exact⟨false,rfl,bH (k _ H1 ⟨_,M1,ρ1,s1,g1,.bl false,(show Q (.bl false) M1 from q1)⟩)⟩
 | _=>exact q1.elim
theorem d_or(ha:DE X a ta)(hb:DE X (.BoolOp .Or (b::aN) pos) tb):DE X (.BoolOp .Or (a::b::aN) pos) (dOrV ta tb):=by
 refine PE.imp (pe_or ha hb) fun σ H R ⟨S,M,ρ,Q,s,sr,q,k⟩=>⟨S,M,ρ,_,s,sr,q,fun v H1 ⟨d,M1,ρ1,s1,g1,r1,q1⟩=>?_⟩
 cases r1 with
 | bl c =>
  cases c with
  | false=>exact⟨false,rfl,bH ⟨S,M1,ρ1,Q,s1,sr.grow g1,(show tb S M1 Q from q1),fun v H' w=>k v H' (VQ.trans g1 w)⟩⟩
  | true=>exact⟨true,rfl,bQ (k _ H1 ⟨_,M1,ρ1,s1,g1,.bl true,(show Q (.bl true) M1 from q1)⟩)⟩
 | _=>exact q1.elim
variable{e:Expr}{es:List Expr}{te:DTE}{t:DTA}
def ah:DTA:=fun _ M Q=>Q [] M
def ab(te:DTE)(t:DTA):DTA:=fun S M Q=>te S M fun d M1=>t S M1 fun ds M2=>Q (d::ds) M2
theorem EM:DA X [] ah:=PA.imp Dc fun σ H R ⟨S,M,ρ,Q,s,sr,q,k⟩=>k [] H ⟨[],M,ρ,s,.refl,.nil,q⟩
theorem BF(ha:DE X e te)(hr:DA X es t)(hs:starEach (e::es) X.env=(false,eval e X.env)::starEach es X.env:=by rfl):DA X (e::es) (ab te t) :=
 PA.imp (Az ha hr hs) fun σ H R ⟨S,M,ρ,Q,s,sr,q,k⟩=>⟨S,M,ρ,_,s,sr,q,fun v H1 ⟨d,M1,ρ1,s1,g1,r1,q1⟩=>⟨S,M1,ρ1,_,s1,sr.grow g1,q1,fun vs H2 ⟨ds,M2,ρ2,s2,g2,r2,q2⟩ =>
  k _ H2 ⟨d::ds,M2,ρ2,s2,g1.trans g2,.cons (r1.grow g2) r2,q2⟩⟩⟩
def eY(t:DTA):DTE:=fun S M Q=>t S M fun ds M1=>ds.length<=sizeLine/\Q (.tup ds) M1
def ji(t:DTA):DTE:=fun S M Q=>t S M fun ds M1=>ds.length<=sizeLine/\Q (.ref M1.length) (M1++[.lst ds])
theorem VQ.laidT{K:PySem.W.Frag}{ρ ρ1:List Addr}{H H1:Hp}{M1:Mem}{ds:List D}{vs:List V}{Q:DK}{p:Addr}(s1:Sim K ρ1 M1 H1)(g1:Grow K ρ H ρ1 H1)(r1:Reps K ρ1 H1 ds vs)(hp:H1 p=none)(q:Q (.tup ds) M1):VQ K ρ H Q (.ref p) (upd H1 p (.tup vs)) :=
 ⟨.tup ds,M1,ρ1,s1.laid hp,g1.trans (Grow.laid hp),.tup (SqT.of aI) (r1.grow (Grow.laid hp)),q⟩
theorem VQ.laidL{K:PySem.W.Frag}{ρ ρ1:List Addr}{H H1:Hp}{M1:Mem}{ds:List D}{vs:List V}{Q:DK}{p:Addr}(s1:Sim K ρ1 M1 H1)(g1:Grow K ρ H ρ1 H1)(r1:Reps K ρ1 H1 ds vs)(hp:H1 p=none)(q:Q (.ref M1.length) (M1++[.lst ds])):VQ K ρ H Q (.ref p) (upd H1 p (.lst vs)) :=
 ⟨.ref M1.length,M1++[.lst ds],ρ1++[p],s1.laidL hp r1,g1.trans (Grow.laidR hp),.ref s1.last,q⟩
theorem d_tup{x1}(h:DA X es t):DE X (.Tuple es x1 pos) (eY t) :=
 PE.imp (CU h) fun σ H R ⟨S,M,ρ,Q,s,sr,q,k⟩=>⟨S,M,ρ,_,s,sr,q,fun vs H1 ⟨ds,M1,ρ1,s1,g1,r1,z,q1⟩=>⟨by rw[← r1.length]; exact z,fun p hp=>k _ _ (VQ.laidT s1 g1 r1 hp q1)⟩⟩
theorem d_lst(h:DA X es t):DE X (.List es pos) (ji t) :=
 PE.imp (CZ h) fun σ H R ⟨S,M,ρ,Q,s,sr,q,k⟩=>⟨S,M,ρ,_,s,sr,q,fun vs H1 ⟨ds,M1,ρ1,s1,g1,r1,z,q1⟩=>⟨by rw[← r1.length]; exact z,fun p hp=>k _ _ (VQ.laidL s1 g1 r1 hp q1)⟩⟩
def dCB(r:DRA)(t:DTA):DTE:=fun S M Q=>t S M fun ds M1=>r ds M1 Q
theorem vE{K:PySem.W.Frag}{r:DRA}(σ:St)(H:Hp)(R:VK)(h:lowE K (dCB r t) σ H R):tCB (lowC K r) (lowA K t) σ H R:=by
 obtain⟨S,M,ρ,Q,s,sr,q,k⟩:=h
 exact⟨S,M,ρ,_,s,sr,q,fun vs H1 ⟨ds,M1,ρ1,s1,g1,r1,q1⟩=>⟨ds,M1,ρ1,Q,s1,r1,q1,fun v H' w=>k v H' (VQ.trans g1 w)⟩⟩
theorem BI{x:Str}{p:Pos}{id:String}{r:DRA}(hc:jI X (.builtin id) r)(hm:X.mg x=none)(hv:bootBuiltins x=some (.builtin id))(ha:DA X (e::es) t)(hg:Gl X x:=by rfl)(hn:x≠"__name__":=by decide)(hdb:(x==("__debug__":Str))=false:=by decide)
  (he:starEach (e::es) X.env=(false,eval e X.env)::starEach es X.env:=by rfl) (hpl:(backTo pos (starEach es X.env)).any (·.1)=false:=by rfl):DE X (.Call (.Name x p) (e::es) [] pos) (dCB r t) :=
 PE.imp (xB hc hg hm hv ha hn hdb he hpl) vE
theorem yB(hc:jI X (.type T) r)(hm:X.mg x=none)(hv:bootBuiltins x=some (.type T))(ha:DA X (e::es) t)(hg:Gl X x:=by rfl)(hn:x≠"__name__":=by decide)(hdb:(x==("__debug__":Str))=false:=by decide)
  (he:starEach (e::es) X.env=(false,eval e X.env)::starEach es X.env:=by rfl) (hpl:(backTo pos (starEach es X.env)).any (·.1)=false:=by rfl):DE X (.Call (.Name x p) (e::es) [] pos) (dCB r t) :=
 PE.imp (uU hc hg hm hv ha hn hdb he hpl) vE
abbrev DSp:=List D->Mem->DK->Prop
def spL(K:PySem.W.Frag)(P:DSp):Sp:=fun vs H Q _=>∃ ds M ρ R,Sim K ρ M H/\Reps K ρ H ds vs/\P ds M R/\∀ v H',VQ K ρ H R v H'->Q v H'
theorem vC{K:PySem.W.Frag}{P:DSp}(σ:St)(H:Hp)(R:VK)(h:lowE K (dCB P t) σ H R):Cr (spL K P) [] E0 (lowA K t) σ H R:=by
 obtain⟨S,M,ρ,Q,s,sr,q,k⟩:=h
 exact⟨S,M,ρ,_,s,sr,q,fun vs H1 ⟨ds,M1,ρ1,s1,g1,r1,q1⟩=>⟨ds,M1,ρ1,Q,s1,by rw[List.append_nil]; exact r1,q1,fun v H' w=>k v H' (VQ.trans g1 w)⟩⟩
theorem ES(F:FnOk X.prog X.w X.K X.mg X.base CX0 k f fd ps (spL X.K P))(hr:Room k X.A)(hm:X.mg x=some (.ref f))(hk:PySem.W.keepIn X.K (.ref f)=true)(hb:om X.K fd ps [])
  (ha:DA X (e::es) t) (hg:Gl X x:=by rfl) (hdb:(x==("__debug__":Str))=false:=by decide) (he:starEach (e::es) X.env=(false,eval e X.env)::starEach es X.env:=by rfl) (hpl:(backTo pos (starEach es X.env)).any (·.1)=false:=by rfl) :
  DE X (.Call (.Name x p) (e::es) [] pos) (dCB P t):=PE.imp (Ax F hr hg hm hk hb .nil pass0 ha hdb he hpl) vC
end
section
variable{X:Cx}{st:Stmt}{aN:List Stmt}{t u:DTS}{e:Expr}{te:DTE}{pos:Pos}
def bg:DTS:=fun E S M=>E.nx S M
def aB(t u:DTS):DTS:=fun E S M=>t { E with nx:=fun S' M'=>u E S' M' } S M
theorem EB:DSs X [] bg:=PSs.imp Ap fun E σ H ⟨S,M,ρ,F,s,sr,q,k⟩=>k.nx σ H ⟨S,M,ρ,s,.refl,sr,q⟩
theorem EA(h:DS X st t):DSs X [st] t:=Ao h
theorem By(h1:DS X st t)(h2:DSs X aN u):DSs X (st::aN) (aB t u) :=
 PSs.imp (xu h1 h2) fun E σ H ⟨S,M,ρ,F,s,sr,q,k⟩=>⟨S,M,ρ,_,s,sr,q,⟨fun σ' H' ⟨S',M',ρ',s',g',sr',q'⟩=>⟨S',M',ρ',F,s',sr',q',k.trans g'⟩,k.rt,k.bk,k.ct⟩⟩
def jk(te:DTE):DTS:=fun E S M=>te S M fun _ M1=>E.nx S M1
theorem Bx(he:DE X e te)(hs:swapsWith e none pos.line X.env=pure false:=by rfl):DS X (.Expr e pos) (jk te) :=
 PS.imp (Aq he hs) fun E σ H ⟨S,M,ρ,F,s,sr,q,k⟩=>⟨S,M,ρ,_,s,sr,q,fun v H1 ⟨d,M1,ρ1,s1,g1,r1,q1⟩=>k.nx σ H1 ⟨S,M1,ρ1,s1,g1,sr.grow g1,q1⟩⟩
def bC(te:DTE):DTS:=fun E S M=>te S M E.rt
theorem Ez(he:DE X e te):DS X (.Return (some e) pos) (bC te) :=
 PS.imp (CO he) fun E σ H ⟨S,M,ρ,F,s,sr,q,k⟩=>⟨S,M,ρ,_,s,sr,q,fun v H1 w=>k.rt v H1 w⟩
def dIf(c:DTT)(t u:DTS):DTS:=fun E S M=>c S M fun b M1=>if b=true then t E S M1 else u E S M1
theorem ds_if(hc:DT X c tc)(ha:DSs X a t)(hb:DSs X b u):DS X (.If c a b pos) (dIf tc t u):=by
 refine PS.imp (ps_if hc ha hb) fun E σ H ⟨S,M,ρ,F,s,sr,q,k⟩=>⟨S,M,ρ,_,s,sr,q,fun c H1 ⟨M1,ρ1,s1,g1,q1⟩=>?_⟩
 cases c with
 | true=>exact bQ ⟨S,M1,ρ1,F,s1,sr.grow g1,(show t F S M1 from q1),k.trans g1⟩
 | false=>exact bH ⟨S,M1,ρ1,F,s1,sr.grow g1,(show u F S M1 from q1),k.trans g1⟩
def aZ(te:DTE)(i:Nat):DTS:=fun E S M=>te S M fun d M1=>E.nx (S.set i (some d)) M1
theorem Ey(hN:X.N.Nodup)(he:DE X e te)(hi:X.N[i]?=some x:=by rfl)(hx:Loc X.env.scope x:=by first | exact Or.inl rfl | exact Or.inr rfl)(hs:swapsWith e (some (.Name x pos')) pos.line X.env=pure false:=by rfl)
  (hf:X.fn x=true\/X.env.scope.names.lookup x=some .local:=by first | exact .inl rfl | exact .inr rfl | assumption):DS X (.Assign [.Name x pos'] e pos) (aZ te i) :=
 PS.imp (CN hN hi hx he hs hf) fun E σ H ⟨S,M,ρ,F,s,sr,q,k⟩=>⟨S,M,ρ,_,s,sr,q,fun v H1 ⟨d,M1,ρ1,s1,g1,r1,q1⟩=>k.nx _ H1 ⟨_,M1,ρ1,s1,g1,(sr.grow g1).set i r1,q1⟩⟩
def au(i:Nat):DTG:=fun d S M Q=>Q (S.set i (some d)) M
theorem pH(hN:X.N.Nodup)(hi:X.N[i]?=some x:=by rfl)(hx:Loc X.env.scope x:=by first | exact Or.inl rfl | exact Or.inr rfl)(hf:X.fn x=true\/X.env.scope.names.lookup x=some .local:=by first | exact .inl rfl | exact .inr rfl | assumption):DG X (.Name x pos) (au i) :=
 fun pins s σ H v u R I r ⟨d,S,M,ρ,Q,sm,sr,rd,q,k⟩=>Au hN hi hx hf pins s σ H v u R I r (k _ H ⟨_,M,ρ,sm,.refl,sr.set i rd,q⟩)
end
end L2
set_option maxRecDepth 100000
namespace L2
open PySem PySem.Spec PyProof.Rows DL
theorem sj{P:Program}{w:World}{K:PySem.W.Frag}{tg:Expr}(it:Addr)(n:Nat)(PV:Nat->Value->Prop)(PX:Nat->V->Prop)(Sx:Nat->Heap->Prop)
  (W:∀ A':Around,A'.handled=none->Walks P w A' it [it] [it] n PV Sx) (hrel:∀ i v,PV i v->∃ x,aJ x v/\PX i x)
  (hobj:∀ i h,Sx i h->∃ (o:Obj) (nm:String) (vs:Array Value),h.get? it=some o/\o.cls=.type nm/\o.data=.fields vs/\["enumerate","zip","dict_itemiterator","dict_reverseitemiterator","odict_iterator","itertools.zip_longest","itertools.pairwise"].contains nm=false)
  (hframe:∀ (i:Nat) (h h':Heap),Sx i h->(∀ o,h.get? it=some o->h'.get? it=some o)->Sx i h')
  (hself:∀ (A:Around) (i:Nat) (s:Shared) (Q:Value->Shared->Prop) (E:Value->Shared->Prop),Sx i s.heap->Q (.ref it) s->wpAny (model P w) A (pyIter (.ref it)) Q E s) :
  Turn P w K tg ⟨fun i _=>i < n,fun i H x H'=>H'=H/\PX i x,fun i _=>i=n⟩ [it] it Sx where
 mem:=by simp
 obj:=fun i h st b hb=>by
  have e:b=it:=by simpa using hb
  subst e
  obtain⟨o,nm,vs,e,_,d,_⟩:=hobj i h st
  exact⟨o,e,fun v z=>by rw[d] at z; cases z⟩
 keep:=fun i h h' st k=>hframe i h h' st fun o e=>k it (by simp) o e
 item:=by
  intro X hP hw hK hc i pins s σ H E I hf st hg
  subst hP hw hK
  obtain⟨f0,f1,f2,f3,f4,f5⟩:=hf it (by simp)
  refine(W X.A (I.ok.hd hc)).item i s _ _ hg st fun v h' tk hv st' kk=>?_
  obtain⟨x,rx,px⟩:=hrel i v hv
  have I1:Inv X pins σ H { s with heap:=h',toks:=tk }:=I.turned (fun b o hb e=>kk b o (by simpa using hb) e) f0 f1 f3 f4 f5
  obtain⟨o,nm,vs,e,c,d,hn⟩:=hobj _ _ st'
  exact⟨v,rfl,sX (s:={ s with heap:=h',toks:=tk }) e c d hn ⟨x,H,I1,rx,⟨rfl,px⟩,st',fun b hb=>(hf b hb).1⟩⟩
 done:=by
  intro X hP hw hK hc i pins s σ H E I hf st hg
  subst hP hw hK
  obtain⟨f0,f1,f2,f3,f4,f5⟩:=hf it (by simp)
  have hi:i=n:=hg
  subst hi
  exact(W X.A (I.ok.hd hc)).done s _ _ st fun h' tk kk=>⟨rfl,I.turned (fun b o hb e=>kk b o (by simpa using hb) e) f0 f1 f3 f4 f5⟩
 self:=hself
def uH(x:Str):List D:=x.cps.toList.map fun c=>.str ⟨#[c]⟩
structure Src where
 items:List D
 ok:Mem->Prop
abbrev DTI:=SD->Mem->(Src->Mem->Prop)->Prop
structure ItD(K:PySem.W.Frag)(src:Src)(ρ0:List Addr)(H0:Hp)(J:It):Prop where
 go:∀ (i:Nat) ρ M H,Sim K ρ M H->Grow K ρ0 H0 ρ H->src.ok M->i < src.items.length->J.go i H
 yld:∀ (i:Nat) ρ M H x H',Sim K ρ M H->Grow K ρ0 H0 ρ H->src.ok M->i < src.items.length->J.yld i H x H'->∃ d ρ',src.items[i]?=some d/\Sim K ρ' M H'/\Grow K ρ H ρ' H'/\Rep K ρ' H' d x
 stop:∀ (ρ:List Addr) M H,Sim K ρ M H->Grow K ρ0 H0 ρ H->src.ok M->J.stop src.items.length H
def IQ(K:PySem.W.Frag)(ρ:List Addr)(H:Hp)(Q:Src->Mem->Prop):It->Hp->Prop:=fun J H'=>∃ src M' ρ',Sim K ρ' M' H'/\Grow K ρ H ρ' H'/\ItD K src ρ' H' J/\Q src M'
def lowI(K:PySem.W.Frag)(di:DTI):TI:=fun σ H R=>∃ S M ρ Q,Sim K ρ M H/\SRep K ρ H S σ/\di S M Q/\∀ J H',IQ K ρ H Q J H'->R J H'
def DI(X:Cx)(tg iter:Expr)(di:DTI):Prop:=PI X tg iter (lowI X.K di)
theorem ItD.tup{K:PySem.W.Frag}{ρ:List Addr}{H:Hp}{a:Addr}{vs:List V}{ds:List D}(h:SqT K H a vs)(r:Reps K ρ H ds vs)(uniq:∀ ys,SqT K H a ys->ys=vs):ItD K ⟨ds,fun _=>True⟩ ρ H (Itt K a) where
 go:=fun i ρ' M H' s g _ hi=>by
  have hl:i < vs.length:=by rw[← r.length]; exact hi
  exact⟨vs,vs[i],g.tup a vs h,List.getElem?_eq_getElem hl⟩
 yld:=fun i ρ' M H' x H2 s g _ hi y=>by
  obtain⟨rfl,y⟩:=y
  obtain⟨d,hd,rd⟩:=(r.grow g).getV (y vs (g.tup a vs h))
  exact⟨d,ρ',hd,s,.refl,rd⟩
 stop:=fun ρ' M H' s g _=>⟨vs,g.tup a vs h,by rw[← r.length]; exact Nat.le_refl _⟩
theorem ItD.lst{K:PySem.W.Frag}{ρ:List Addr}{H:Hp}{n:Nat}{a:Addr}{ds:List D}(e:ρ[n]?=some a):ItD K ⟨ds,fun M=>ao M n ds⟩ ρ H (Itl K a) where
 go:=fun i ρ' M H' s g ok hi=>by
  obtain⟨vs,h,r⟩:=ao.seq s ok (aw g.pre e)
  have hl:i < vs.length:=by rw[← r.length]; exact hi
  exact⟨vs,vs[i],h,List.getElem?_eq_getElem hl⟩
 yld:=fun i ρ' M H' x H2 s g ok hi y=>by
  obtain⟨rfl,y⟩:=y
  obtain⟨vs,h,r⟩:=ao.seq s ok (aw g.pre e)
  obtain⟨d,hd,rd⟩:=r.getV (y vs h)
  exact⟨d,ρ',hd,s,.refl,rd⟩
 stop:=fun ρ' M H' s g ok=>by
  obtain⟨vs,h,r⟩:=ao.seq s ok (aw g.pre e)
  exact⟨vs,h,by rw[← r.length]; exact Nat.le_refl _⟩
theorem ItD.plain{K:PySem.W.Frag}{ρ:List Addr}{H:Hp}{ds:List D}{J:It}(hg:∀ i H,i < ds.length->J.go i H)(hy:∀ i H x H',i < ds.length->J.yld i H x H'->H'=H/\∃ d,ds[i]?=some d/\cV d=some x)(hs:∀ H,J.stop ds.length H):ItD K ⟨ds,fun _=>True⟩ ρ H J where
 go:=fun i ρ' M H' s g _ hi=>hg i H' hi
 yld:=fun i ρ' M H' x H2 s g _ hi y=>by
  obtain⟨rfl,d,hd,hv⟩:=hy i _ x H2 hi y
  exact⟨d,ρ',hd,s,.refl,wK hv⟩
 stop:=fun ρ' M H' s g _=>hs H'
section
variable{X:Cx}{tg:Expr}
def cJ(te:DTE):DTI:=fun S M R=>te S M fun d M1=>match d with
 | .tup ds=>ds.length<=sizeLine->R ⟨ds,fun _=>True⟩ M1
 | .str x=>R ⟨uH x,fun _=>True⟩ M1
 | .ref n=>∃ xs,ao M1 n xs/\(xs.length<=sizeLine->R ⟨xs,fun M=>ao M n xs⟩ M1)
 | _=>False
theorem EH(hl:DE X l tl):DI X tg l (cJ tl):=by
 intro pins s σ H R I h
 obtain⟨S,M,ρ,Q,sm,sr,q,k⟩:=h
 refine thn (hl pins s σ H _ I ⟨S,M,ρ,_,sm,sr,q,fun v H' w=>w⟩) fun u s1 ⟨v,H1,I1,rv,d,M1,ρ1,sm1,g1,r1,q1⟩=>?_
 cases r1 with
 | non=>exact q1.elim
 | bl b=>exact q1.elim
 | int i=>exact q1.elim
 | ty n=>exact q1.elim
 | @tup a vs ds hq r =>
  cases rv
  obtain⟨its,rr,p,hz⟩:=I1.tuple hq
  refine wpAny_pyIter_tuple (show s1.heap.IsTuple a its.toArray from p) ?_
  refine⟨s1.heap.objs.size,[s1.heap.objs.size],_,_,H1,rfl,I1.kept (t':=s1.toks) fun b o e=>Heap.get?_push_of_some _ e,sn a _,⟨_,Heap.get?_push_size _ rfl,rfl,rfl⟩,fun b hb=>?_,k _ H1 ⟨⟨ds,fun _=>True⟩,M1,ρ1,sm1,g1,ItD.tup hq r fun ys hy=>I1.tuple_inj hy hq,?_⟩⟩
  ·have e:b=s1.heap.objs.size:=by simpa using hb
   subst e
   exact I1.fpOk (Nat.le_refl _) (I1.hok.fresh (Nat.le_refl _))
  ·exact(show ds.length<=sizeLine->Q ⟨ds,fun _=>True⟩ M1 from q1) (by rw[r.length]; exact hz)
 | @ref n a hn =>
  cases rv
  obtain⟨xs,hL,q2⟩:=(show ∃ xs,ao M1 n xs/\(xs.length<=sizeLine->Q ⟨xs,fun M=>ao M n xs⟩ M1) from q1)
  obtain⟨vs,hq,r⟩:=ao.seq sm1 hL hn
  obtain⟨its,rr,p,hz⟩:=I1.list hq
  refine wpAny_pyIter_list p.isList ?_
  refine⟨s1.heap.objs.size,[s1.heap.objs.size],_,_,H1,rfl,I1.kept (t':=s1.toks) fun b o e=>Heap.get?_push_of_some _ e,tT a _,⟨_,Heap.get?_push_size _ rfl,rfl,rfl⟩,fun b hb=>?_,k _ H1 ⟨⟨xs,fun M=>ao M n xs⟩,M1,ρ1,sm1,g1,ItD.lst hn,q2 (by rw[r.length]; exact hz)⟩⟩
  have e:b=s1.heap.objs.size:=by simpa using hb
  subst e
  exact I1.fpOk (Nat.le_refl _) (I1.hok.fresh (Nat.le_refl _))
 | str x =>
  obtain⟨t,rfl⟩:=rv
  have fin:∀ (nm:String) (ob:Obj),(ob.cls=.type nm/\ob.data=.fields #[.str x t,.int 0 0]) ->
    (∀ A':Around,A'.handled=none->Walks X.prog X.w A' s1.heap.objs.size [s1.heap.objs.size] [s1.heap.objs.size] x.cps.size (SignAt x) (fun i h=>h.IsStrIter s1.heap.objs.size nm x t i)) ->
    (∀ (A:Around) (i:Nat) (s:Shared) (Q:Value->Shared->Prop) (E:Value->Shared->Prop),s.heap.IsStrIter s1.heap.objs.size nm x t i->Q (.ref s1.heap.objs.size) s->wpAny (model X.prog X.w) A (pyIter (.ref s1.heap.objs.size)) Q E s) ->
    ["enumerate","zip","dict_itemiterator","dict_reverseitemiterator","odict_iterator","itertools.zip_longest","itertools.pairwise"].contains nm=false->(s1.heap.push ob).IsStrIter s1.heap.objs.size nm x t 0 ->
    PIE X pins σ tg R (.ref s1.heap.objs.size) { s1 with heap:=s1.heap.push ob }:=fun nm ob hob W hself hnm st=>by
   refine⟨s1.heap.objs.size,[s1.heap.objs.size],_,_,H1,rfl,I1.kept (t':=s1.toks) fun b o e=>Heap.get?_push_of_some _ e,
    sj (PX:=fun i v=>∃ c,x.cps[i]?=some c/\v=.str ⟨#[c]⟩) _ _ _ _ W (fun i v ⟨c,u,e1,e2⟩=>⟨.str ⟨#[c]⟩,⟨u,e2⟩,c,e1,rfl⟩) (fun i h st=>?_) (fun i h h' st k=>?_) hself,st,fun b hb=>?_,k _ H1 ⟨⟨uH x,fun _=>True⟩,M1,ρ1,sm1,g1,ItD.plain ?_ ?_ ?_,q1⟩⟩
   ·obtain⟨o,e,c,d⟩:=st
    exact⟨o,nm,_,e,c,d,hnm⟩
   ·obtain⟨o,e,r⟩:=st
    exact⟨o,k o e,r⟩
   ·have e:b=s1.heap.objs.size:=by simpa using hb
    subst e
    exact I1.fpOk (Nat.le_refl _) (I1.hok.fresh (Nat.le_refl _))
   ·intro i _ hi
    simpa [uH] using hi
   ·rintro i H x' H' _ ⟨rfl,c,e,rfl⟩
    exact⟨rfl,.str ⟨#[c]⟩,by simp[uH,e],rfl⟩
   ·intro H
    simp[uH]
  cases ha:x.cps.all (· < 128)
  ·exact wpAny_pyIter_wide ha (fin _ _ ⟨rfl,rfl⟩ (fun A' hA=>Walks.strWide hA _ x t) (fun _ _ _ _ _ st h=>wpAny_pyIter_striter_wide st h) (by decide) ⟨_,Heap.get?_push_size _ rfl,rfl,rfl⟩)
  ·exact wpAny_pyIter_ascii ha (fin _ _ ⟨rfl,rfl⟩ (fun A' hA=>Walks.strAscii hA _ x t) (fun _ _ _ _ _ st h=>wpAny_pyIter_striter_ascii st h) (by decide) ⟨_,Heap.get?_push_size _ rfl,rfl,rfl⟩)
def oq(lo:Int)(n:Nat):List D:=(List.range n).map fun i=>.int (lo+((i:Nat):Int))
theorem ItD.rng{K:PySem.W.Frag}{ρ:List Addr}{H:Hp}(lo:Int)(n:Nat):ItD K ⟨oq lo n,fun _=>True⟩ ρ H (Itr lo n):=by
 refine ItD.plain (fun i _ hi=>?_) (fun i H x H' hi y=>?_) fun H=>?_
 ·show i < n
  simpa [oq] using hi
 ·obtain⟨e,rfl⟩:=y
  have hi':i < n:=by simpa [oq] using hi
  exact⟨e,.int (lo+i),by simp[oq,hi'],rfl⟩
 ·show n<=(oq lo n).length
  simp[oq]
def dm(ta:DTA):DTI:=fun S M R=>ta S M fun ds M1=>match ds with
 | [.int j]=>(-(2 ^ 62)<=j/\j < 2 ^ 62)/\R ⟨oq 0 j.toNat,fun _=>True⟩ M1
 | _=>False
def lU(ta:DTA):DTI:=fun S M R=>ta S M fun ds M1=>match ds with
 | [.int i,.int j]=>(-(2 ^ 62)<=i/\i < 2 ^ 62/\-(2 ^ 62)<=j/\j < 2 ^ 62)/\R ⟨oq i (j-i).toNat,fun _=>True⟩ M1
 | _=>False
theorem PI.imp(h:PI X tg iter t')(i:∀ σ H R,t σ H R->t' σ H R):PI X tg iter t:=fun pins s σ H R I q=>h pins s σ H R I (i σ H R q)
theorem wC(hm:X.mg "range" = none)(ha:DA X [a] ta)(hg:Gl X "range":=by rfl)(hs:starEach [a] X.env=[(false,eval a X.env)]:=by rfl):DI X tg (.Call (.Name "range" p) [a] [] pos) (dm ta):=by
 refine PI.imp (uS hg hm ha hs) fun σ H R ⟨S,M,ρ,Q,s,sr,q,k⟩=>⟨S,M,ρ,_,s,sr,q,fun vs H1 ⟨ds,M1,ρ1,s1,g1,r1,q1⟩=>?_⟩
 try dsimp only at q1
 split at q1
 ·rename_i j
  obtain⟨⟨h1,h2⟩,q2⟩:=q1
  first | have hzz:=Reps.inv_cons r1 | have hzz:=ar.inv_cons r1
  clear r1
  obtain⟨_,_,rfl,r,t⟩:=hzz
  cases r
  cases t
  exact⟨j,rfl,h1,h2,k _ H1 ⟨_,M1,ρ1,s1,g1,ItD.rng 0 j.toNat,q2⟩⟩
 ·exact q1.elim
theorem wB(hm:X.mg "range" = none)(ha:DA X [a,b] ta)(hg:Gl X "range":=by rfl)(hs:starEach [a,b] X.env=[(false,eval a X.env),(false,eval b X.env)]:=by rfl)(hs2:starEach [b] X.env=[(false,eval b X.env)]:=by rfl) :
  DI X tg (.Call (.Name "range" p) [a,b] [] pos) (lU ta):=by
 refine PI.imp (uR hg hm ha hs hs2) fun σ H R ⟨S,M,ρ,Q,s,sr,q,k⟩=>⟨S,M,ρ,_,s,sr,q,fun vs H1 ⟨ds,M1,ρ1,s1,g1,r1,q1⟩=>?_⟩
 try dsimp only at q1
 split at q1
 ·rename_i i j
  obtain⟨h,q2⟩:=q1
  first | have hzz:=Reps.inv_cons r1 | have hzz:=ar.inv_cons r1
  clear r1
  obtain⟨_,_,rfl,r,t⟩:=hzz
  cases r
  cases t with
  | cons r t =>
   cases r
   cases t
   exact⟨i,j,rfl,h,k _ H1 ⟨_,M1,ρ1,s1,g1,ItD.rng i (j-i).toNat,q2⟩⟩
 ·exact q1.elim
end
end L2
set_option maxRecDepth 100000
namespace L2
open PySem PySem.Spec PyProof.Rows DL
mutual
inductive Bel(k:Nat):D->Prop
 | non:Bel k .non
 | bl (b:Bool):Bel k (.bl b)
 | int (i:Int):Bel k (.int i)
 | str (x:Str):Bel k (.str x)
 | ty (n:String):Bel k (.ty n)
 | tup {ds:List D} (h:Bels k ds):Bel k (.tup ds)
 | ref {n:Nat} (h:n < k):Bel k (.ref n)
inductive Bels(k:Nat):List D->Prop
 | nil:Bels k []
 | cons {d:D}{ds:List D} (h:Bel k d) (t:Bels k ds):Bels k (d::ds)
end
def MO.items:MO->List D
 | .lst xs=>xs
 | .fz xs=>xs
 | .kl xs=>xs
 | .dct kvs=>kvs.map (·.2)
 | .dkt kvs=>kvs.map (·.2)
 | .dkq kvs=>kvs.map (·.2)
 | .fdc _ kvs=>kvs.map (·.2)
 | .tb _ _=>[]
mutual
theorem Rep.bel{K:PySem.W.Frag}{ρ:List Addr}{H:Hp}:∀ {d:D}{v:V},Rep K ρ H d v->Bel ρ.length d
 | _,_,.non=>.non
 | _,_,.bl b=>.bl b
 | _,_,.int i=>.int i
 | _,_,.str x=>.str x
 | _,_,.ty n=>.ty n
 | _,_,.tup h r=>.tup (Reps.bel r)
 | _,_,.ref h=>.ref (List.getElem?_eq_some_iff.mp h).1
theorem Reps.bel{K:PySem.W.Frag}{ρ:List Addr}{H:Hp}:∀ {ds:List D}{vs:List V},Reps K ρ H ds vs->Bels ρ.length ds
 | _,_,.nil=>.nil
 | _,_,.cons h t=>.cons (Rep.bel h) (Reps.bel t)
end
mutual
theorem Rep.cut{K:PySem.W.Frag}{ρ:List Addr}{H:Hp}{k:Nat}:∀ {d:D}{v:V},Rep K ρ H d v->Bel k d->Rep K (ρ.take k) H d v
 | _,_,.non,_=>.non
 | _,_,.bl b,_=>.bl b
 | _,_,.int i,_=>.int i
 | _,_,.str x,_=>.str x
 | _,_,.ty n,_=>.ty n
 | _,_,.tup h r,.tup b=>.tup h (Reps.cut r b)
 | _,_,.ref h,.ref b=>.ref (by rw[List.getElem?_take_of_lt b]; exact h)
theorem Reps.cut{K:PySem.W.Frag}{ρ:List Addr}{H:Hp}{k:Nat}:∀ {ds:List D}{vs:List V},Reps K ρ H ds vs->Bels k ds->Reps K (ρ.take k) H ds vs
 | _,_,.nil,_=>.nil
 | _,_,.cons h t,.cons b c=>.cons (Rep.cut h b) (Reps.cut t c)
end
mutual
theorem Bel.mono{j k:Nat}(h:j<=k):∀ {d:D},Bel j d->Bel k d
 | _,.non=>.non
 | _,.bl b=>.bl b
 | _,.int i=>.int i
 | _,.str x=>.str x
 | _,.ty n=>.ty n
 | _,.tup b=>.tup (Bels.mono h b)
 | _,.ref b=>.ref (Nat.lt_of_lt_of_le b h)
theorem Bels.mono{j k:Nat}(h:j<=k):∀ {ds:List D},Bels j ds->Bels k ds
 | _,.nil=>.nil
 | _,.cons b c=>.cons (Bel.mono h b) (Bels.mono h c)
end
theorem Bels.of:∀ {xs:List D},(∀ d∈xs,Bel k d)->Bels k xs
 | [],_=>.nil
 | d::ds,h=>.cons (h d List.mem_cons_self) (Bels.of fun e he=>h e (List.mem_cons_of_mem _ he))
section
variable{K:PySem.W.Frag}{ρ ρ':List Addr}{H H':Hp}{M M':Mem}
theorem yb:∀ (n:Nat) (d:D),cf n d=true->Bel k d:=by
 intro n
 induction n with
 | zero =>
  intro d h
  cases d with
  | str x=>exact .str x
  | int x=>exact .int x
  | _=>cases h
 | succ n ih =>
  intro d h
  cases d with
  | str x=>exact .str x
  | int x=>exact .int x
  | tup ds=>exact .tup (Bels.of fun x hx=>ih x (List.all_eq_true.mp (show ds.all (cf n)=true from h) x hx))
  | _=>cases h
theorem vO(r:Paired (tJ K ρ H) kvs xs):Bels ρ.length (kvs.map (·.2)):=by
 induction r with
 | nil=>exact .nil
 | cons q _ ih =>
  obtain⟨_,_,_,v,q4,_⟩:=q
  exact .cons q4.bel ih
theorem vN(r:Paired (tJ K ρ H) kvs xs)(b:Bels k (kvs.map (·.2))):Paired (tJ K (ρ.take k) H) kvs xs:=by
 induction r with
 | nil=>exact .nil
 | cons q _ ih =>
  obtain⟨q1,q2,q3,v,q4,q5⟩:=q
  rw[List.map_cons] at b
  cases b with
  | cons b1 b2=>exact .cons ⟨q1,q2,q3.cut (yb _ _ q2),v,q4.cut b1,q5⟩ (ih b2)
theorem tL.bels(h:tL K ρ H a mo):Bels ρ.length mo.items:=by
 cases mo with
 | lst ds=>obtain⟨vs,_,r⟩:=h; exact r.bel
 | fz ds=>obtain⟨o,vs,_,r⟩:=h; exact r.bel
 | kl ds=>obtain⟨vs,_,r⟩:=h; exact r.bel
 | dct kvs=>obtain⟨vs,_,r⟩:=h; exact r.bel
 | dkt kvs=>obtain⟨_,_,_,xs,_,r⟩:=h; exact vO r
 | dkq kvs=>obtain⟨_,_,_,xs,_,r⟩:=h; exact vO r
 | fdc o kvs=>obtain⟨vs,_,r⟩:=h; exact r.bel
 | tb x b=>exact .nil
theorem tL.cut(h:tL K ρ H a mo)(b:Bels k mo.items):tL K (ρ.take k) H a mo:=by
 cases mo with
 | lst ds=>obtain⟨vs,e,r⟩:=h; exact⟨vs,e,r.cut b⟩
 | fz ds=>obtain⟨o,vs,e,r⟩:=h; exact⟨o,vs,e,r.cut b⟩
 | kl ds=>obtain⟨vs,e,r⟩:=h; exact⟨vs,e,r.cut b⟩
 | dct kvs=>obtain⟨vs,e,r⟩:=h; exact⟨vs,e,r.cut b⟩
 | dkt kvs=>obtain⟨h1,h2,h3,xs,e,r⟩:=h; exact⟨h1,h2,h3,xs,e,vN r b⟩
 | dkq kvs=>obtain⟨h1,h2,h3,xs,e,r⟩:=h; exact⟨h1,h2,h3,xs,e,vN r b⟩
 | fdc o kvs=>obtain⟨vs,e,r⟩:=h; exact⟨vs,e,r.cut b⟩
 | tb x b=>exact h
theorem Sim.bels(S:Sim K ρ M H){n:Nat}{mo:MO}(e:M[n]?=some mo):Bels M.length mo.items:=by
 obtain⟨a,_,h⟩:=S.get e
 rw[← S.len]
 exact h.bels
theorem Sim.cut(S:Sim K ρ M H)(k:Nat)(hb:∀ (n:Nat) (mo:MO),n < k->M[n]?=some mo->Bels k mo.items):Sim K (ρ.take k) (M.take k) H:=by
 have lt:∀ {n:Nat}{a:Addr},(ρ.take k)[n]?=some a->n < k/\ρ[n]?=some a:=fun {n a} e=>by
  have h1:=(List.getElem?_eq_some_iff.mp e).1
  rw[List.length_take] at h1
  have h2:n < k:=by lia
  rw[List.getElem?_take_of_lt h2] at e
  exact⟨h2,e⟩
 refine⟨fun n m a hne e1 e2=>?_,by rw[List.length_take,List.length_take,S.len],fun n a mo e1 e2=>?_⟩
 ·obtain⟨l1,f1⟩:=lt e1
  obtain⟨l2,f2⟩:=lt e2
  rw[List.getElem?_take_of_lt l1,List.getElem?_take_of_lt l2]
  exact S.nd n m a hne f1 f2
 ·obtain⟨l1,f1⟩:=lt e1
  rw[List.getElem?_take_of_lt l1] at e2
  exact(S.obj n a mo f1 e2).cut (hb n mo l1 e2)
theorem SRep.cut(r:SRep K ρ H S σ)(hl:S'.length=S.length)(h:∀ (i:Nat) d,S'[i]?=some (some d)->S[i]?=some (some d)/\Bel k d):SRep K (ρ.take k) H S' σ :=
 ⟨hl.trans r.len,fun i d e=>let ⟨e',b⟩:=h i d e; let ⟨v,hv,rv⟩:=r.get i d e'; ⟨v,hv,rv.cut b⟩⟩
theorem Grow.cut(g:Grow K ρ H ρ' H')(h:ρ.length<=k):Grow K ρ H (ρ'.take k) H':=by
 refine⟨?_,g.tup⟩
 obtain⟨t,rfl⟩:=g.pre
 rw[List.take_append]
 rw[List.take_of_length_le h]
 exact List.prefix_append _ _
end
inductive FgtS(k:Nat):SD->SD->Prop
 | nil:FgtS k [] []
 | keep {d:D}{S S':SD} (h:Bel k d) (t:FgtS k S S'):FgtS k (some d::S) (some d::S')
 | drop {o:Option D}{S S':SD} (t:FgtS k S S'):FgtS k (o::S) (none::S')
theorem FgtS.len(h:FgtS k S S'):S'.length=S.length:=by
 induction h with
 | nil=>rfl
 | keep _ _ ih=>rw[List.length_cons,List.length_cons,ih]
 | drop _ ih=>rw[List.length_cons,List.length_cons,ih]
theorem FgtS.get(h:FgtS k S S'):∀ (i:Nat) d,S'[i]?=some (some d)->S[i]?=some (some d)/\Bel k d:=by
 induction h with
 | nil=>intro i d e; simp at e
 | keep b _ ih =>
  intro i d e
  cases i with
  | zero=>simp at e; subst e; exact⟨rfl,b⟩
  | succ i=>exact ih i d (by simpa using e)
 | drop _ ih =>
  intro i d e
  cases i with
  | zero=>simp at e
  | succ i=>exact ih i d (by simpa using e)
def Fgt(M0:Mem)(P:SD->Mem->Prop)(S:SD)(M:Mem):Prop :=
 P S M\/(∃ k S',M0.length<=k/\FgtS k S S'/\(∀ (n:Nat) mo,n < k->M[n]?=some mo->Bels k mo.items)/\P S' (M.take k))\/∃ S',FgtS M0.length S S'/\M0 <+: M/\P S' M0
theorem xc{α:Type}{l l':List α}(h:l <+: l'):l'.take l.length=l:=by
 obtain⟨t,rfl⟩:=h
 rw[List.take_append_of_le_length (Nat.le_refl _),List.take_length]
theorem SQ.fgt{K:PySem.W.Frag}{ρ:List Addr}{H:Hp}{M0:Mem}{P:SD->Mem->Prop}{σ':St}{H':Hp}(s0:Sim K ρ M0 H)(h:SQ K ρ H (Fgt M0 P) σ' H'):SQ K ρ H P σ' H':=by
 have hk:ρ.length<=M0.length:=by rw[s0.len]; exact Nat.le_refl _
 obtain⟨S',M',ρ',s',g',sr',q'⟩:=h
 rcases q' with q' | ⟨k,S2,h1,h2,h4,q⟩ | ⟨S2,h2,hp,q⟩
 ·exact⟨S',M',ρ',s',g',sr',q'⟩
 ·exact⟨S2,M'.take k,ρ'.take k,s'.cut k h4,g'.cut (Nat.le_trans hk h1),sr'.cut h2.len h2.get,q⟩
 ·have sc:=s'.cut M0.length fun n mo hn e=>by
   obtain⟨t,rfl⟩:=hp
   rw[List.getElem?_append_left hn] at e
   exact s0.bels e
  rw[xc hp] at sc
  exact⟨S2,M0,ρ'.take M0.length,sc,g'.cut hk,sr'.cut h2.len h2.get,q⟩
def nQ(ok:Mem->Prop)(g:DTG)(tb:DTS)(E:DEnds)(k0:Mem):List D->SD->Mem->Prop
 | [],S,M=>ok M/\E.nx S M
 | x::xs,S,M=>ok M/\g x S M fun S2 M2=>tb ⟨Fgt k0 (nQ ok g tb E k0 xs),E.rt,E.nx,Fgt k0 (nQ ok g tb E k0 xs)⟩ S2 M2
def nR(di:DTI)(g:DTG)(tb:DTS):DTS:=fun E S M=>di S M fun src M1=>nQ src.ok g tb E M1 src.items S M1
theorem nK{α:Type}{l:List α}{i:Nat}{x:α}(h:l[i]?=some x):l.drop i=x::l.drop (i+1):=by
 obtain⟨hi,e⟩:=List.getElem?_eq_some_iff.mp h
 rw[List.drop_eq_getElem_cons hi,e]
theorem xN{K:PySem.W.Frag}{di:DTI}{g:DTG}{tb:DTS}(E:Ends)(σ:St)(H:Hp)(h:lowS K (nR di g tb) E σ H):tFor (lowI K di) (lowG K g) (lowS K tb) E σ H:=by
 obtain⟨S,M,ρ,F,s,sr,q,k⟩:=h
 refine⟨S,M,ρ,_,s,sr,q,fun J H1 ⟨src,M1,ρ1,s1,g1,it,q1⟩=>?_⟩
 have k1:=k.trans g1
 refine⟨fun i m τ H2=>∃ S2 M2 ρ2,Sim K ρ2 M2 H2/\Grow K ρ1 H1 ρ2 H2/\SRep K ρ2 H2 S2 τ/\i<=src.items.length/\m=src.items.length-i/\nQ src.ok g tb F M1 (src.items.drop i) S2 M2,
  ⟨_,S,M1,ρ1,s1,.refl,sr.grow g1,Nat.zero_le _,rfl,q1⟩,?_⟩
 rintro i m τ H2 ⟨S2,M2,ρ2,s2,g2,sr2,hi,rfl,q2⟩
 by_cases hlt:i < src.items.length
 ·have hx:src.items[i]?=some src.items[i]:=List.getElem?_eq_getElem hlt
  rw[nK hx] at q2
  obtain⟨ok,q3⟩:=(show src.ok M2/\g src.items[i] S2 M2 _ from q2)
  refine .inr ⟨it.go i ρ2 M2 H2 s2 g2 ok hlt,_,fun τ' H' z=>z,fun x H3 y=>?_⟩
  obtain⟨d,ρ3,hd,s3,g3,r3⟩:=it.yld i ρ2 M2 H2 x H3 s2 g2 ok hlt y
  have ed:d=src.items[i]:=Option.some.inj (hd.symm.trans hx)
  subst ed
  refine⟨_,S2,M2,ρ3,_,s3,sr2.grow g3,r3,q3,fun τ4 H4 ⟨S4,M4,ρ4,s4,g4,sr4,q4⟩=>?_⟩
  have g14:=(g2.trans g3).trans g4
  refine⟨S4,M4,ρ4,_,s4,sr4,q4,?_⟩
  have again:∀ τ5 H5,SQ K ρ4 H4 (Fgt M1 (nQ src.ok g tb F M1 (src.items.drop (i+1)))) τ5 H5 ->
    ∃ m',m' < src.items.length-i/\∃ S2 M2 ρ2,Sim K ρ2 M2 H5/\Grow K ρ1 H1 ρ2 H5/\SRep K ρ2 H5 S2 τ5/\i+1<=src.items.length/\m'=src.items.length-(i+1)/\nQ src.ok g tb F M1 (src.items.drop (i+1)) S2 M2:=fun τ5 H5 z=>by
   obtain⟨S5,M5,ρ5,s5,g5,sr5,q5⟩:=SQ.fgt (ρ:=ρ1) (H:=H1) s1 (SQ.trans g14 z)
   exact⟨_,by lia,S5,M5,ρ5,s5,g5,sr5,hlt,rfl,q5⟩
  exact⟨again,fun v H5 z=>k1.rt v H5 (VQ.trans g14 z),fun τ5 H5 z=>k1.nx τ5 H5 (SQ.trans g14 z),again⟩
 ·have e:i=src.items.length:=by lia
  subst e
  rw[List.drop_of_length_le (Nat.le_refl _)] at q2
  obtain⟨ok,q3⟩:=(show src.ok M2/\F.nx S2 M2 from q2)
  exact .inl ⟨it.stop ρ2 M2 H2 s2 g2 ok,k1.nx τ H2 ⟨S2,M2,ρ2,s2,g2,sr2,q3⟩⟩
section
variable{X:Cx}
theorem EC(hi:DI X tg iter di)(hg:DG X tg g)(hb:DSs X body tb)(hp:PassesOwn (model X.prog X.w) X.A X.env X.xe:=by exact PassesOwn.never)(hc:X.calm=true:=by rfl)
  (hs:∀ x,foldedSetIterable iter X.env x=pure x:=by intro _; rfl):DS X (.For tg iter body [] pos) (nR di g tb):=PS.imp (CP hp hc hi hg hb hs) xN
def EL(nt:Nat)(js:List Nat)(S:SD):SD:=List.replicate nt none++js.map fun j=>(S[j]?).join
def jF(ok:Mem->Prop)(g:DTG)(tt:DTT)(te:DTE)(Q:DK):List D->List D->SD->Mem->Prop
 | [],acc,S,M=>ok M/\Q (.ref M.length) (M++[.lst acc])
 | x::xs,acc,S,M=>ok M/\g x S M fun S2 M2=>tt S2 M2 fun b M3=>if b=true then te S2 M3 fun y M4=>acc.length < sizeLine/\jF ok g tt te Q xs (acc++[y]) S2 M4 else jF ok g tt te Q xs acc S2 M3
def dLC(nt:Nat)(js:List Nat)(di:DTI)(g:DTG)(tt:DTT)(te:DTE):DTE:=fun S M Q=>di S M fun src M1=>jF src.ok g tt te Q src.items [] (EL nt js S) M1
theorem SRep.bst{K:PySem.W.Frag}{ρ:List Addr}{H:Hp}{S:SD}{σ:St}(r:SRep K ρ H S σ)(nt:Nat)(js:List Nat):SRep K ρ H (EL nt js S) (L2.bst nt js σ):=by
 refine⟨by simp[EL,wN],fun i d e=>?_⟩
 unfold EL at e
 unfold L2.bst
 by_cases hi:i < nt
 ·rw[List.getElem?_append_left (by simpa using hi),List.getElem?_replicate] at e
  simp[hi] at e
 ·rw[List.getElem?_append_right (by simpa using Nat.not_lt.mp hi),List.length_replicate,List.getElem?_map] at e
  rw[List.getElem?_append_right (by simpa using Nat.not_lt.mp hi),List.length_replicate,List.getElem?_map]
  cases q:js[i-nt]? with
  | none=>rw[q] at e; cases e
  | some j =>
   rw[q] at e
   have e':(S[j]?).join=some d:=by simpa using e
   cases q2:S[j]? with
   | none=>rw[q2] at e'; cases e'
   | some o =>
    rw[q2] at e'
    have e2:o=some d:=e'
    subst e2
    obtain⟨v,hv,rv⟩:=r.get j d q2
    exact⟨v,by simp[hv],rv⟩
theorem vD{K:PySem.W.Frag}{nt:Nat}{js:List Nat}{di:DTI}{g:DTG}{tt:DTT}{te:DTE}(σ:St)(H:Hp)(R:VK)(h:lowE K (dLC nt js di g tt te) σ H R):tLC nt js (lowI K di) (lowG K g) (lowT K tt) (lowE K te) σ H R:=by
 obtain⟨S,M,ρ,Q,s,sr,q,k⟩:=h
 refine⟨S,M,ρ,_,s,sr,q,fun J H1 ⟨src,M1,ρ1,s1,g1,it,q1⟩=>?_⟩
 refine⟨fun i m vs τ H2=>∃ S2 M2 ρ2 acc,Sim K ρ2 M2 H2/\Grow K ρ1 H1 ρ2 H2/\SRep K ρ2 H2 S2 τ/\Reps K ρ2 H2 acc vs/\i<=src.items.length/\m=src.items.length-i/\jF src.ok g tt te Q (src.items.drop i) acc S2 M2,
  ⟨_,_,M1,ρ1,[],s1,.refl,(sr.grow g1).bst nt js,.nil,Nat.zero_le _,rfl,q1⟩,?_⟩
 rintro i m vs τ H2 ⟨S2,M2,ρ2,acc,s2,g2,sr2,ra,hi,rfl,q2⟩
 by_cases hlt:i < src.items.length
 ·have hx:src.items[i]?=some src.items[i]:=List.getElem?_eq_getElem hlt
  rw[nK hx] at q2
  obtain⟨ok,q3⟩:=(show src.ok M2/\g src.items[i] S2 M2 _ from q2)
  refine .inr ⟨it.go i ρ2 M2 H2 s2 g2 ok hlt,fun x H3 y=>?_⟩
  obtain⟨d,ρ3,hd,s3,g3,r3⟩:=it.yld i ρ2 M2 H2 x H3 s2 g2 ok hlt y
  have ed:d=src.items[i]:=Option.some.inj (hd.symm.trans hx)
  subst ed
  refine⟨_,S2,M2,ρ3,_,s3,sr2.grow g3,r3,q3,fun τ4 H4 ⟨S4,M4,ρ4,s4,g4,sr4,q4⟩=>?_⟩
  refine⟨S4,M4,ρ4,_,s4,sr4,q4,fun b H5 ⟨M5,ρ5,s5,g5,q5⟩=>?_⟩
  have g15:=((g2.trans g3).trans g4).trans g5
  cases b with
  | false=>exact bH ⟨_,by lia,S4,M5,ρ5,acc,s5,g15,sr4.grow g5,ra.grow ((g3.trans g4).trans g5),hlt,rfl,(show jF src.ok g tt te Q (src.items.drop (i+1)) acc S4 M5 from q5)⟩
  | true =>
   refine bQ ⟨S4,M5,ρ5,_,s5,sr4.grow g5,(show te S4 M5 _ from q5),fun v H6 ⟨y',M6,ρ6,s6,g6,r6,hl,q6⟩=>?_⟩
   have ra6:=ra.grow (((g3.trans g4).trans g5).trans g6)
   exact⟨by rw[← ra.length]; exact hl,_,by lia,S4,M6,ρ6,acc++[y'],s6,g15.trans g6,sr4.grow (g5.trans g6),ra6.append (.cons r6 .nil),hlt,rfl,q6⟩
 ·have e:i=src.items.length:=by lia
  subst e
  rw[List.drop_of_length_le (Nat.le_refl _)] at q2
  obtain⟨ok,q3⟩:=(show src.ok M2/\Q (.ref M2.length) (M2++[.lst acc]) from q2)
  exact .inl ⟨it.stop ρ2 M2 H2 s2 g2 ok,fun p hp=>k _ _ (VQ.laidL s2 (g1.trans g2) ra hp q3)⟩
theorem d_lc(B:BlkSc X N' nt js scope)(hi:DI X tg iter di)
  (hg:∀ cl s0 H0 ex,DG (blk X N' scope cl s0 H0 ex) tg g) (ht:∀ cl s0 H0 ex,PTs (blk X N' scope cl s0 H0 ex) ifs (lowT X.K tt)) (he:∀ cl s0 H0 ex,DE (blk X N' scope cl s0 H0 ex) elt te) (hc:X.calm=true:=by rfl)
  (hs:∀ x,foldedSetIterable iter X.env x=pure x:=by intro _; rfl):DE X (.ListComp elt [⟨tg,iter,ifs,0⟩] scope pos) (dLC nt js di g tt te):=PE.imp (pe_lc (g:=lowG X.K g) (tt:=lowT X.K tt) (te:=lowE X.K te) B hc hi (fun cl s0 H0 ex=>hg cl s0 H0 ex) ht (fun cl s0 H0 ex=>he cl s0 H0 ex) hs) vD
def tw:DTT:=fun _ M Q=>Q true M
theorem Bu:PTs X [] (lowT X.K tw):=fun pins s σ H R I ⟨S,M,ρ,Q,sm,sr,q,k⟩=>Am pins s σ H R I (k true H ⟨M,ρ,sm,.refl,q⟩)
theorem Bt(h:DT X c t):PTs X [c] (lowT X.K t):=Al h
end
def Chg(M M1:Mem):Prop:=M1.length=M.length/\∀ (i:Nat) (mo:MO),M1[i]?=some mo->M[i]?=some mo\/Bels M.length mo.items
theorem Chg.refl:Chg M M:=⟨rfl,fun _ _ h=>.inl h⟩
theorem Chg.set(c:Chg M M1)(b:Bels M.length mo.items):Chg M (M1.set n mo):=by
 refine⟨by rw[List.length_set]; exact c.1,fun i mo' h=>?_⟩
 by_cases e:n=i
 ·subst e
  by_cases hl:n < M1.length
  ·rw[List.getElem?_set_self hl] at h
   cases h
   exact .inr b
  ·rw[List.getElem?_eq_none (by rw[List.length_set]; lia)] at h
   cases h
 ·rw[List.getElem?_set_ne e] at h
  exact c.2 i mo' h
def bx(M:Mem)(R:DK):DK:=fun d M'=>R d M'\/(∃ M1,Chg M M1/\Bel M.length d/\M1 <+: M'/\R d M1)\/∃ M1 n xs,Chg M M1/\d=.ref n/\M.length<=n/\M'[n]?=some (.lst xs)/\M1 <+: M'/\Bels M.length xs/\R (.ref M.length) (M1++[.lst xs])
theorem cE{α:Type}{l l':List α}(h:l <+: l'):l'.take l.length=l:=by
 obtain⟨t,rfl⟩:=h
 rw[List.take_append_of_le_length (Nat.le_refl _),List.take_length]
theorem VQ.endq{K:PySem.W.Frag}{ρ:List Addr}{M:Mem}{H:Hp}{R:DK}{v:V}{H':Hp}(s:Sim K ρ M H)(h:VQ K ρ H (bx M R) v H'):VQ K ρ H R v H':=by
 obtain⟨d,M',ρ',s',g',r',q'⟩:=h
 have hρ:ρ'.take M.length=ρ:=by rw[← s.len]; exact cE g'.pre
 rcases q' with q | ⟨M1,c,b,pre,q⟩ | ⟨M1,n,xs,c,rfl,hnM,e,pre,b,q⟩
 ·exact⟨d,M',ρ',s',g',r',q⟩
 ·have sc:=s'.cut M.length fun n mo hn e=>by
   have e':M1[n]?=some mo:=by
    obtain⟨t,rfl⟩:=pre
    rw[List.getElem?_append_left (by rw[c.1]; exact hn)] at e
    exact e
   exact(c.2 n mo e').elim (fun z=>s.bels z) id
  have tk:M'.take M.length=M1:=by rw[← c.1]; exact cE pre
  rw[hρ,tk] at sc
  have rc:=r'.cut b
  rw[hρ] at rc
  exact⟨d,M1,ρ,sc,⟨List.prefix_rfl,g'.tup⟩,rc,q⟩
 ·have sc:=s'.cut M.length fun n mo hn e=>by
   have e':M1[n]?=some mo:=by
    obtain⟨t,rfl⟩:=pre
    rw[List.getElem?_append_left (by rw[c.1]; exact hn)] at e
    exact e
   exact(c.2 n mo e').elim (fun z=>s.bels z) id
  have tk:M'.take M.length=M1:=by rw[← c.1]; exact cE pre
  rw[hρ,tk] at sc
  obtain⟨a,rfl,hn⟩:=Rep.inv_ref r'
  obtain⟨vs,hH,rr⟩:=s'.obj n a _ hn e
  have rc:=rr.cut b
  rw[hρ] at rc
  have g2:Grow K ρ H' (ρ++[a]) H':=⟨List.prefix_append _ _,fun _ _ h=>h⟩
  have old:∀ (m:Nat),ρ[m]?=some a->isK M1[m]?:=fun m em=>by
   have hm:m≠n:=fun z=>by
    have:m < M.length:=by rw[← s.len]; exact(List.getElem?_eq_some_iff.mp em).1
    lia
   have q:=s'.nd m n a hm (aw g'.pre em) hn
   have hlt:m < M.length:=by rw[← s.len]; exact(List.getElem?_eq_some_iff.mp em).1
   rcases q with ⟨ds,z⟩ | ⟨ds,z⟩
   ·refine⟨ds,?_⟩
    have hlt1:m < M1.length:=by rw[c.1]; exact hlt
    have:=aw pre (List.getElem?_eq_getElem hlt1)
    rw[z] at this
    rw[List.getElem?_eq_getElem hlt1]
    exact this.symm
   ·rw[e] at z; cases z
  refine⟨.ref M.length,M1++[.lst xs],ρ++[a],⟨fun n1 m1 a1 hne e1 e2=>?_,by rw[List.length_append,List.length_append,sc.len]; rfl,fun n1 a1 mo e1 e2=>?_⟩,⟨List.prefix_append _ _,g'.tup⟩,.ref (by have:=sc.last (p:=a); rw[c.1] at this; exact this),q⟩
  ·rcases aM e1 with f1 | ⟨f1,w1⟩
   ·rcases aM e2 with f2 | ⟨f2,w2⟩
    ·exact(sc.nd n1 m1 a1 hne f1 f2).elim (fun z=>.inl z.more) fun z=>.inr z.more
    ·subst w2
     exact .inl (old n1 f1).more
   ·rcases aM e2 with f2 | ⟨f2,w2⟩
    ·subst w1
     exact .inr (old m1 f2).more
    ·exact absurd (f1.trans f2.symm) hne
  ·rcases aM e1 with f1 | ⟨f1,w1⟩
   ·have hn1:n1 < M1.length:=by rw[← sc.len]; exact(List.getElem?_eq_some_iff.mp f1).1
    rw[List.getElem?_append_left hn1] at e2
    exact(sc.obj n1 a1 mo f1 e2).grow g2 (.inl rfl)
   ·subst w1 f1
    rw[sc.len,List.getElem?_append_right (Nat.le_refl _),Nat.sub_self] at e2
    simp at e2
    subst e2
    exact⟨vs,hH,rc.grow g2⟩
def bR(N:List Str)(ds:List D):SD:=ds.map some++List.replicate (N.length-ds.length) none
theorem SRep.start{K:PySem.W.Frag}{ρ:List Addr}{H:Hp}{ds:List D}{vs:List V}(r:Reps K ρ H ds vs)(N:List Str):SRep K ρ H (bR N ds) (L2.start N vs):=by
 refine⟨by simp[bR,L2.start,r.length],fun i d e=>?_⟩
 unfold bR at e
 unfold L2.start
 by_cases hi:i < ds.length
 ·rw[List.getElem?_append_left (by simpa using hi),List.getElem?_map] at e
  rw[List.getElem?_append_left (by simpa [← r.length] using hi),List.getElem?_map]
  have e':ds[i]?=some d:=by
   rw[List.getElem?_eq_getElem hi] at e ⊢
   simpa using e
  obtain⟨v,hv,rv⟩:=r.get e'
  exact⟨v,by rw[hv]; rfl,rv⟩
 ·rw[List.getElem?_append_right (by simpa using Nat.not_lt.mp hi),List.getElem?_replicate] at e
  split at e <;> cases e
theorem d_fn{P:Program}{w:World}{K:PySem.W.Frag}{mg:Str->Option Value}{base:Heap}{x qual:Str}{st:Stmt}{f:Addr}{fd:FuncData}{N ps:List Str}{k:Nat}(Pr:DSp)(F:Fun K x qual st f fd)(Sc:FnScope N ps (am st))
  (len:∀ ds M R,Pr ds M R->ds.length=ps.length)
  (hbody:∀ (cdv:Value) (A:Around) (outer:List Env) (s:Shared) (H:Hp) (E:XK),Room k (A.deeper (envOfC qual (am st) s.heap.objs.size f cdv)) ->
   ∃ t,DSs (nS CX0 P w K mg base N qual (am st) f cdv A outer s H E).nox (bu st) t/\∀ ds M R,Pr ds M R->t ⟨fun _ M'=>bx M R .non M',bx M R,fun _ _=>False,fun _ _=>False⟩ (bR N ds) M) :
  FnOk P w K mg base CX0 (k+1) f fd ps (spL K Pr):=by
 refine F.ok Sc (fun vs H Q E ⟨ds,M,ρ,R,s,r,q,_⟩=>by rw[← r.length]; exact len ds M R q) fun cdv A outer s H vs Q E hr h=>?_
 obtain⟨ds,M,ρ,R,sm,r,q,kk⟩:=h
 obtain⟨t,ht,hq⟩:=hbody cdv A outer s H E hr
 refine⟨lowS K t,ht,bR N ds,M,ρ,_,sm,SRep.start r N,hq ds M R q,⟨fun σ' H' ⟨S',M',ρ',s',g',sr',q'⟩=>?_,fun v H' z=>kk v H' (VQ.endq sm z),fun σ' H' ⟨S',M',ρ',s',g',sr',q'⟩=>q'.elim,fun σ' H' ⟨S',M',ρ',s',g',sr',q'⟩=>q'.elim⟩⟩
 exact kk .non H' (VQ.endq sm ⟨.non,M',ρ',s',g',.non,q'⟩)
end L2
set_option maxRecDepth 100000
namespace L2
open PySem PySem.Spec PyProof.Rows DL
section
variable{X:Cx}
theorem dfin(I:Inv X pins σ H s)(sm:Sim X.K ρ M H)(k:∀ v H',VQ X.K ρ H Q v H'->R v H')(hv:cV d=some v)(rel:aJ v u)(q:Q d M):EP X pins σ R u s :=
 ⟨v,H,I,rel,k v H (VQ.now sm (wK hv) q)⟩
theorem dW(I:Inv X pins σ H s)(sm:Sim X.K ρ M H)(k:∀ v H',VQ X.K ρ H Q v H'->R v H')(q:Q (.bl b) M):EP X pins σ R (.bool b) s :=
 ⟨.bl b,H,I,rfl,k _ H (VQ.now sm (.bl b) q)⟩
def qAdd:DR2:=fun x y M Q=>match x,y with
 | .int i,.int j=>Q (.int (i+j)) M
 | .str a,.str b=>a.length+b.length<=sizeLine/\Q (.str (a++b)) M
 | .ref n,.ref m=>∃ xs ys,M[n]?=some (.lst xs)/\M[m]?=some (.lst ys)/\xs.length+ys.length<=sizeLine/\Q (.ref M.length) (M++[.lst (xs++ys)])
 | _,_=>False
theorem Dw:OpD X (binaryOp .Add) qAdd:=by
 refine OpR.imp (Dj.or (sG.or Di)) fun vx vy H R ⟨x,y,M,ρ,Q,sm,r1,r2,q,k⟩=>?_
 unfold qAdd at q
 split at q
 ·cases r1
  cases r2
  exact .inl ⟨_,_,rfl,rfl,k _ H (VQ.now sm (.int _) q)⟩
 ·cases r1
  cases r2
  exact .inr (.inl ⟨_,_,rfl,rfl,q.1,k _ H (VQ.now sm (.str _) q.2)⟩)
 ·obtain⟨xs,ys,e1,e2,hl,q⟩:=q
  obtain⟨_,rfl,h1⟩:=Rep.inv_ref r1
  obtain⟨_,rfl,h2⟩:=Rep.inv_ref r2
  obtain⟨vs,f1,g1⟩:=sm.obj _ _ _ h1 e1
  obtain⟨ws,f2,g2⟩:=sm.obj _ _ _ h2 e2
  exact .inr (.inr ⟨_,_,vs,ws,rfl,rfl,f1,f2,by rw[← g1.length,← g2.length]; exact hl,fun p hp=>k _ _ (VQ.laidL sm .refl (g1.append g2) hp q)⟩)
 ·exact q.elim
def CC:DR2:=fun x y M Q=>match x,y with
 | .int i,.int j=>Q (.int (i-j)) M
 | _,_=>False
theorem Dp:OpD X (binaryOp .Sub) CC:=by
 refine OpR.imp Dd fun vx vy H R ⟨x,y,M,ρ,Q,sm,r1,r2,q,k⟩=>?_
 unfold CC at q
 split at q
 ·cases r1
  cases r2
  exact⟨_,_,rfl,rfl,k _ H (VQ.now sm (.int _) q)⟩
 ·exact q.elim
def BU(i j:Int):Prop:=0 < j/\j < 340282366920938463463374607431768211456
theorem xC:OpR X (binaryOp .FloorDiv) (rI BU fun i j=>.int (i / j)):=opI fun i j _ _ _ _ _ hc q=>by
 have h1:(0:Int) < j:=hc.1
 have h2:j < 340282366920938463463374607431768211456:=hc.2
 have h3:j.natAbs.log2 < 128:=(Nat.log2_lt (by lia)).mpr (by rw[show (2:Nat) ^ 128=340282366920938463463374607431768211456 by decide]; lia)
 exact floordiv_int (by lia) (by rw[Int.fdiv_eq_ediv_of_nonneg i (by lia)]; exact q) (.inl (PyProof.noPylong_of_log2 (by lia)))
def oO:DR2:=fun x y M Q=>match x,y with
 | .int i,.int j=>BU i j/\Q (.int (i / j)) M
 | _,_=>False
theorem AM:OpD X (binaryOp .FloorDiv) oO:=by
 refine OpR.imp xC fun vx vy H R ⟨x,y,M,ρ,Q,sm,r1,r2,q,k⟩=>?_
 unfold oO at q
 split at q
 ·cases r1
  cases r2
  exact⟨_,_,rfl,rfl,q.1,k _ H (VQ.now sm (.int _) q.2)⟩
 ·exact q.elim
def sD:DR2:=fun x y M Q=>match x,y with
 | .int i,.int j=>0 < j/\Q (.int (i % j)) M
 | _,_=>False
theorem Ds:OpD X (binaryOp .Mod) sD:=by
 refine OpR.imp Dh fun vx vy H R ⟨x,y,M,ρ,Q,sm,r1,r2,q,k⟩=>?_
 unfold sD at q
 split at q
 ·cases r1
  cases r2
  exact⟨_,_,rfl,rfl,q.1,k _ H (VQ.now sm (.int _) q.2)⟩
 ·exact q.elim
def oK(a b:Str):Bool:=decide (a.cps.toList < b.cps.toList)
def qLt:DR2:=fun x y M Q=>match x,y with
 | .int i,.int j=>Q (.bl (decide (i < j))) M
 | .str a,.str b=>Q (.bl (oK a b)) M
 | _,_=>False
def qGt:DR2:=fun x y M Q=>match x,y with
 | .int i,.int j=>Q (.bl (decide (j < i))) M
 | .str a,.str b=>Q (.bl (oK b a)) M
 | _,_=>False
theorem Du:OpD X (compareOp .Lt) qLt:=by
 intro pins s σ H vx vy v u R I rx ry ⟨x,y,M,ρ,Q,sm,r1,r2,q,k⟩
 unfold qLt at q
 split at q
 ·cases r1
  cases r2
  exact op_lt pins s σ H _ _ v u R I rx ry ⟨_,_,rfl,rfl,k _ H (VQ.now sm (.bl _) q)⟩
 ·cases r1
  cases r2
  obtain⟨t,rfl⟩:=rx
  obtain⟨t',rfl⟩:=ry
  exact PySem.P.lt_str (dW I sm k q)
 ·exact q.elim
theorem od_gt:OpD X (compareOp .Gt) qGt:=by
 intro pins s σ H vx vy v u R I rx ry ⟨x,y,M,ρ,Q,sm,r1,r2,q,k⟩
 unfold qGt at q
 split at q
 ·cases r1
  cases r2
  exact op_gt pins s σ H _ _ v u R I rx ry ⟨_,_,rfl,rfl,k _ H (VQ.now sm (.bl _) q)⟩
 ·cases r1
  cases r2
  obtain⟨t,rfl⟩:=rx
  obtain⟨t',rfl⟩:=ry
  exact PySem.P.gt_str (dW I sm k q)
 ·exact q.elim
def qIs:DR2:=fun x y M Q=>match x,y with
 | .bl a,.bl b=>Q (.bl (a==b)) M
 | .non,.non=>Q (.bl true) M
 | _,.non=>Q (.bl false) M
 | _,_=>False
def kt:DR2:=fun x y M Q=>match x,y with
 | .bl a,.bl b=>Q (.bl (a != b)) M
 | .non,.non=>Q (.bl false) M
 | _,.non=>Q (.bl true) M
 | _,_=>False
theorem uL{K:PySem.W.Frag}{ρ:List Addr}{H:Hp}{x:D}{v:V}(r:Rep K ρ H x v)(h:x≠.non):v≠.non:=by
 cases r <;> first | exact absurd rfl h | (intro z; cases z)
theorem od_is:OpD X (compareOp .Is) qIs:=by
 intro pins s σ H vx vy v u R I rx ry ⟨x,y,M,ρ,Q,sm,r1,r2,q,k⟩
 unfold qIs at q
 split at q
 ·cases r1
  cases r2
  cases rx
  cases ry
  exact is_bool (dW I sm k q)
 ·cases r1
  cases r2
  cases rx
  cases ry
  exact is_none_gen (dfin (d:=.bl true) I sm k rfl rfl q)
 ·rename_i h1 h2
  cases r2
  cases ry
  refine is_none_gen (dfin (d:=.bl false) I sm k rfl ?_ q)
  have:=uL r1 fun z=>by subst z; exact h2 rfl
  rw[rx.none_iff,decide_eq_false this]
  rfl
 ·exact q.elim
theorem xH:OpD X (compareOp .IsNot) kt:=by
 intro pins s σ H vx vy v u R I rx ry ⟨x,y,M,ρ,Q,sm,r1,r2,q,k⟩
 unfold kt at q
 split at q
 ·cases r1
  cases r2
  cases rx
  cases ry
  exact isnot_bool (dW I sm k q)
 ·cases r1
  cases r2
  cases rx
  cases ry
  exact isnot_none_gen (dfin (d:=.bl false) I sm k rfl rfl q)
 ·rename_i h1 h2
  cases r2
  cases ry
  refine isnot_none_gen (dfin (d:=.bl true) I sm k rfl ?_ q)
  have:=uL r1 fun z=>by subst z; exact h2 rfl
  rw[rx.none_iff,decide_eq_false this]
  rfl
 ·exact q.elim
def tyD(M:Mem):D->String
 | .non=>"NoneType"
 | .bl _=>"bool"
 | .int _=>"int"
 | .str _=>"str"
 | .ty _=>"type"
 | .tup _=>"tuple"
 | .ref n=>match M[n]? with
  | some mo=>if mo.isL=true then "list" else "?"
  | none=>"?"
def yf(t T:String):Bool:=t==T||(t == "bool" && T == "int")
def BV:List String:=["NoneType","bool","int","str","list","tuple"]
def Ci:List String:=["bool","int","str","list","tuple"]
theorem Bf(K:PySem.W.Frag)(ht:t∈BV)(hT:T∈Ci):PySem.W.kitOne K (.type t) (.type T)=some (yf t T):=by
 simp only[BV,Ci,List.mem_cons,List.not_mem_nil,or_false] at ht hT
 rcases ht with rfl | rfl | rfl | rfl | rfl | rfl <;> rcases hT with rfl | rfl | rfl | rfl | rfl <;> kernel_rfl
theorem zv(I:Inv X pins σ H s)(sm:Sim X.K ρ M H)(r:Rep X.K ρ H d v)(rv:aJ v u)(hd:tyD M d∈BV)
  (step:∀ (Hx:Heap->Prop),PySem.W.KitX X.K u (.type (tyD M d)) Hx->Hx s.heap->u≠.builtin "__main__.__loader__#opaque"->wpAny (model X.prog X.w) X.A (call (.builtin "isinstance") [u,c]) Q X.xe s):wpAny (model X.prog X.w) X.A (call (.builtin "isinstance") [u,c]) Q X.xe s:=by
 cases r with
 | non=>cases rv; exact step _ PySem.W.kitx_none True.intro (fun z=>nomatch z)
 | bl y=>cases rv; exact step _ PySem.W.kitx_bool True.intro (fun z=>nomatch z)
 | int i=>obtain⟨t,rfl⟩:=rv; exact step _ PySem.W.kitx_int True.intro (fun z=>nomatch z)
 | str i=>obtain⟨t,rfl⟩:=rv; exact step _ PySem.W.kitx_str True.intro (fun z=>nomatch z)
 | ty n=>exact absurd hd (by simp only[tyD]; decide)
 | tup h rr =>
  cases rv
  obtain⟨its,_,⟨o,h1,h2,_⟩,_⟩:=I.tuple h
  exact step _ PySem.W.kitx_tuple ⟨o,h1,h2⟩ (fun z=>nomatch z)
 | @ref n a e =>
  cases rv
  have hn:n < M.length:=by rw[← sm.len]; exact(List.getElem?_eq_some_iff.mp e).1
  have hm:M[n]?=some M[n]:=List.getElem?_eq_getElem hn
  have hd':(match M[n]? with | some mo=>if mo.isL=true then "list" else "?" | none=>"?")∈BV:=hd
  rw[hm] at hd'
  have hil:M[n].isL=true:=by
   cases q:M[n].isL with
   | true=>rfl
   | false =>
    simp only[q,Bool.false_eq_true,if_false] at hd'
    exact absurd hd' (by decide)
  have hL:ao M n M[n].items:=by
   cases q:M[n] with
   | lst xs=>exact .inl (by rw[hm,q]; rfl)
   | fz xs=>exact .inr (.inl (by rw[hm,q]; rfl))
   | kl xs=>exact .inr (.inr (by rw[hm,q]; rfl))
   | dct xs=>rw[q] at hil; cases hil
   | dkt xs=>rw[q] at hil; cases hil
   | dkq xs=>rw[q] at hil; cases hil
   | fdc o xs=>rw[q] at hil; cases hil
   | tb x b=>rw[q] at hil; cases hil
  obtain⟨vs,hq,_⟩:=ao.seq sm hL e
  obtain⟨its,_,⟨o,n',h1,h2,_⟩,_⟩:=I.list hq
  have ht:tyD M (.ref n) = "list":=by
   show (match M[n]? with | some mo=>if mo.isL=true then "list" else "?" | none=>"?") = "list"
   rw[hm]
   exact if_pos hil
  rw[ht] at step
  exact step _ PySem.W.kitx_list ⟨o,h1,h2⟩ (fun z=>nomatch z)
def CF:DRA:=fun ds M Q=>match ds with
 | [d,.ty T]=>(tyD M d∈BV/\T∈Ci)/\Q (.bl (yf (tyD M d) T)) M
 | [d,.tup [.ty T,.ty T']]=>(tyD M d∈BV/\T∈Ci/\T'∈Ci)/\Q (.bl (yf (tyD M d) T||yf (tyD M d) T')) M
 | _=>False
theorem EW:jI X (.builtin "isinstance") CF:=by
 intro pins s σ H vs us R I rv ⟨ds,M,ρ,Q,sm,rs,q,k⟩
 unfold CF at q
 split at q
 ·rename_i d T
  obtain⟨⟨h1,h2⟩,q⟩:=q
  first | have hzz:=Reps.inv_cons rs | have hzz:=ar.inv_cons rs
  clear rs
  obtain⟨_,_,rfl,r1,rs⟩:=hzz
  first | have hzz:=Reps.inv_cons rs | have hzz:=ar.inv_cons rs
  clear rs
  obtain⟨_,_,rfl,r2,rs⟩:=hzz
  cases rs
  cases r2
  obtain⟨u,u',rfl,e1,e2⟩:=ar.two rv
  cases e2
  refine zv I sm r1 e1 h1 fun Hx Z p hx=>?_
  exact PySem.W.kia_one Z I.kIn p (Bf X.K h1 h2) hx fun tk=>dW (I.tok tk) sm k q
 ·rename_i d T T'
  obtain⟨⟨h1,h2,h3⟩,q⟩:=q
  first | have hzz:=Reps.inv_cons rs | have hzz:=ar.inv_cons rs
  clear rs
  obtain⟨_,_,rfl,r1,rs⟩:=hzz
  first | have hzz:=Reps.inv_cons rs | have hzz:=ar.inv_cons rs
  clear rs
  obtain⟨_,_,rfl,r2,rs⟩:=hzz
  cases rs
  obtain⟨u,u',rfl,e1,e2⟩:=ar.two rv
  obtain⟨a,ws,rfl,hq,rt⟩:=Rep.inv_tup r2
  cases e2
  obtain⟨its,rr,⟨o,g1,g2,n,g3⟩,_⟩:=I.tuple hq
  first | have hzz:=Reps.inv_cons rt | have hzz:=ar.inv_cons rt
  clear rt
  obtain⟨_,_,rfl,t1,rt⟩:=hzz
  first | have hzz:=Reps.inv_cons rt | have hzz:=ar.inv_cons rt
  clear rt
  obtain⟨_,_,rfl,t2,rt⟩:=hzz
  cases rt
  cases t1
  cases t2
  obtain⟨w1,w2,rfl,f1,f2⟩:=ar.two rr
  cases f1
  cases f2
  obtain⟨oc,od,odt,osl⟩:=o
  cases g2
  cases g3
  refine zv I sm r1 e1 h1 fun Hx Z p hx=>?_
  refine PySem.W.kia_tup Z I.kIn p g1 (b:=yf (tyD M d) T||yf (tyD M d) T') ?_ hx fun tk=>dW (I.tok tk) sm k q
  show (match PySem.W.kitOne X.K (.type (tyD M d)) (.type T) with | some true=>some true | some false=>PySem.W.kitAny X.K (.type (tyD M d)) [.type T'] | none=>none)=_
  rw[Bf X.K h1 h2]
  cases yf (tyD M d) T with
  | true=>rfl
  | false =>
   show (match PySem.W.kitOne X.K (.type (tyD M d)) (.type T') with | some true=>some true | some false=>some false | none=>none)=_
   rw[Bf X.K h1 h3]
   cases yf (tyD M d) T' <;> rfl
 ·exact q.elim
def kr:DRA:=fun ds M Q=>match ds with
 | [.str x]=>x.length<=sizeLine/\Q (.int x.length) M
 | [.tup xs]=>Q (.int xs.length) M
 | [.ref n]=>∃ xs,ao M n xs/\Q (.int xs.length) M
 | _=>False
theorem EV:jI X (.builtin "len") kr:=by
 refine fE.imp (nV.or nU) fun vs H R ⟨ds,M,ρ,Q,sm,rs,q,k⟩=>?_
 unfold kr at q
 split at q
 ·first | have hzz:=Reps.inv_cons rs | have hzz:=ar.inv_cons rs
  clear rs
  obtain⟨_,_,rfl,r1,rs⟩:=hzz
  cases rs
  cases r1
  exact .inr ⟨_,rfl,q.1,k _ H (VQ.now sm (.int _) q.2)⟩
 ·first | have hzz:=Reps.inv_cons rs | have hzz:=ar.inv_cons rs
  clear rs
  obtain⟨_,_,rfl,r1,rs⟩:=hzz
  cases rs
  cases r1 with
  | tup h r=>exact .inl ⟨_,_,rfl,.inr h,k _ H (VQ.now sm (by rw[← r.length]; exact .int _) q)⟩
 ·obtain⟨xs,hL,q⟩:=q
  first | have hzz:=Reps.inv_cons rs | have hzz:=ar.inv_cons rs
  clear rs
  obtain⟨_,_,rfl,r1,rs⟩:=hzz
  cases rs
  obtain⟨_,rfl,e⟩:=Rep.inv_ref r1
  obtain⟨ws,hq,r⟩:=ao.seq sm hL e
  exact .inl ⟨_,_,rfl,.inl hq,k _ H (VQ.now sm (by rw[← r.length]; exact .int _) q)⟩
 ·exact q.elim
end
end L2
set_option maxRecDepth 100000
namespace L2
open PySem PySem.Spec PyProof.Rows DL _root_.HT
section
variable{prog:Program}{w:World}{A:Around}{E:Value->Shared->Prop}{s:Shared}
theorem lO{t sl:Addr}{items:Array Value}{vl vu:Value}{lo hi:Option Int}{Q:Value->Shared->Prop}(ht:IsTup s.heap t items)(hs:s.heap.IsSliceOf sl vl vu .none)(pl:IsPart vl lo)(pu:IsPart vu hi)
  (hw:sIx items.size 0 lo=0/\sIx items.size items.size hi=items.size) (h:Q (.ref t) s):wpAny (model prog w) A (getItem (.ref t) (.ref sl)) Q E s:=by
 obtain⟨os,hos,hcs,hds⟩:=id hs
 have hTs:s.TypeIs (.ref sl) "slice":=⟨os,hos,hcs⟩
 unfold getItem
 try with_reducible refine wpAny_holding ?_
 first | refine wpAny_bind (wpAny_pure ?_) | skip
 refine wpAny_bind (wpAny_sequenceKey ht.typeIs (by decide) (wpAny_bind (wpAny_callSpecial?_slot (name:=Str.ofString "__getitem__") ht.typeIs PyProof.Rows.slot_tuple_getitem (wpAny_call_entry PyProof.Rows.slot_tuple_getitem ht.typeIs entry_tuple_getitem ?_ (args_tuple_getitem _ _)))))
 refine(show wpAny (model prog w) _ (Builtin.Tuple.tupleItemsOf (.ref t) >>= _) _ _ s from wpAny_bind (tupleItemsOf_ ht (wpAny_bind (wpAny_typeOf hTs ?_))))
 rw[if_pos (by decide)]
 refine wpAny_bind (du hs pl pu ?_)
 refine(show wpAny (model prog w) _ (if (((sIx items.size 0 lo:Nat):Int)==0&&(1:Int)==1&&(sIx items.size items.size hi-sIx items.size 0 lo)==items.size)=true then _ else _) _ _ s from ?_)
 rw[if_pos (by rw[hw.1,hw.2]; simp)]
 unfold Builtin.Tuple.tupleIsExact
 refine wpAny_bind (wpAny_bind (wpAny_typeOf ht.typeIs (wpAny_pure ?_)))
 rw[if_pos (by decide)]
 exact wpAny_bind (wpAny_rule (wpAny_pure ⟨_,rfl,wpAny_pure h⟩))
end
end L2
set_option maxRecDepth 100000
namespace L2
open PySem PySem.Spec PyProof.Rows DL
section
variable{X:Cx}{a b:Expr}{ta tb:DTE}{pos:Pos}
theorem IxR.imp(h:IxR X r')(i:∀ x y H R,r x y H R->r' x y H R):IxR X r:=fun value slice pins s σ H x y v u R I rx ry q hs=>h value slice pins s σ H x y v u R I rx ry (i x y H R q) hs
theorem Reps.atI{K:PySem.W.Frag}{ρ:List Addr}{H:Hp}{ds:List D}{vs:List V}{i:Int}{d:D}(r:Reps K ρ H ds vs)(h:L2.atI ds i=some d):∃ v,L2.atI vs i=some v/\Rep K ρ H d v:=by
 unfold L2.atI at h ⊢
 rw[r.length] at h
 cases e:ixN vs.length i with
 | none=>rw[e] at h; cases h
 | some j =>
  rw[e] at h
  obtain⟨v,hv,rv⟩:=r.get (show ds[j]?=some d from h)
  exact⟨v,hv,rv⟩
def qIx:DR2:=fun x y M Q=>match x,y with
 | .tup xs,.int i=>match L2.atI xs i with
  | some d=>Q d M
  | none=>False
 | .str z,.int i=>z.length<=sizeLine/\match L2.atI z.cps.toList i with
  | some c=>Q (.str ⟨#[c]⟩) M
  | none=>False
 | .ref n,.int i=>∃ xs,ao M n xs/\match L2.atI xs i with
  | some d=>Q d M
  | none=>False
 | _,_=>False
theorem Bh:IxR X (lowR X.K qIx):=by
 refine IxR.imp Ea fun vx vy H R ⟨x,y,M,ρ,Q,sm,r1,r2,q,k⟩=>?_
 unfold qIx at q
 split at q
 ·rename_i xs i
  split at q
  ·rename_i d e
   cases r2
   obtain⟨_,_,rfl,h,r⟩:=Rep.inv_tup r1
   obtain⟨v,hv,rv⟩:=r.atI e
   exact .inr (.inl ⟨_,_,_,v,rfl,rfl,h,hv,k _ H (VQ.now sm rv q)⟩)
  ·exact q.elim
 ·rename_i z i
  obtain⟨hz,q⟩:=q
  split at q
  ·rename_i c e
   cases r2
   cases r1
   exact .inr (.inr ⟨z,i,c,rfl,rfl,hz,e,k _ H (VQ.now sm (.str _) q)⟩)
  ·exact q.elim
 ·rename_i n i
  obtain⟨xs,hL,q⟩:=q
  split at q
  ·rename_i d e
   cases r2
   obtain⟨_,rfl,hn⟩:=Rep.inv_ref r1
   obtain⟨vs,hq,r⟩:=ao.seq sm hL hn
   obtain⟨v,hv,rv⟩:=r.atI e
   exact .inl ⟨_,_,_,v,rfl,rfl,hq,hv,k _ H (VQ.now sm rv q)⟩
  ·exact q.elim
 ·exact q.elim
theorem d_ix(ha:DE X a ta)(hb:DE X b tb)(hs:pQ b:=by intro _ _; rfl):DE X (.Subscript a b pos) (dOp qIx ta tb):=PE.imp (pe_ix Bh ha hb hs) lH
abbrev DTO:=SD->Mem->(Option Int->Mem->Prop)->Prop
def Dz(K:PySem.W.Frag)(t:DTO):TO:=fun σ H R=>∃ S M ρ Q,Sim K ρ M H/\SRep K ρ H S σ/\t S M Q/\∀ o H',(∃ M' ρ',Sim K ρ' M' H'/\Grow K ρ H ρ' H'/\Q o M')->R o H'
def dY:DTO:=fun _ M Q=>Q none M
def jE(t:DTE):DTO:=fun S M Q=>t S M fun x M1=>match x with
 | .int i=>Q (some i) M1
 | _=>False
theorem PO.imp(h:PO X e t')(i:∀ σ H R,t σ H R->t' σ H R):PO X e t:=fun pins s σ H R I q=>h pins s σ H R I (i σ H R q)
theorem BA:PO X none (Dz X.K dY):=PO.imp As fun σ H R ⟨S,M,ρ,Q,s,sr,q,k⟩=>k none H ⟨M,ρ,s,.refl,q⟩
theorem Bz(h:DE X e te):PO X (some e) (Dz X.K (jE te)):=by
 refine PO.imp (Ar h) fun σ H R ⟨S,M,ρ,Q,s,sr,q,k⟩=>⟨S,M,ρ,_,s,sr,q,fun v H1 ⟨d,M1,ρ1,s1,g1,r1,q1⟩=>?_⟩
 cases r1 with
 | int i=>exact⟨i,rfl,k _ H1 ⟨M1,ρ1,s1,g1,q1⟩⟩
 | _=>exact q1.elim
theorem Cv:SlR X (fun x lo hi H Q=>∃ z,x=.str z/\z.length<=sizeLine/\Q (.str (Txt.slice z lo hi)) H):=by
 intro pins s σ H x v vl vu lo hi sl Q I rx hs pl pu h
 obtain⟨z,rfl,hz,q⟩:=h
 obtain⟨t,rfl⟩:=rx
 have part:∀ {v:Value}{o:Option Int},IsPart v o->∃ p:Option (Int×Tok),v=partValue p/\p.map (·.1)=o:=fun h=>by
  cases h with
  | none=>exact⟨none,rfl,rfl⟩
  | int i t=>exact⟨some (i,t),rfl,rfl⟩
 obtain⟨p1,rfl,e1⟩:=part pl
 obtain⟨p2,rfl,e2⟩:=part pu
 subst e1 e2
 refine⟨"str",_,slot_str_getitem.lookup,typeIs_str _ _ _,wpAny_getItem_str_slice (l:=p1) (u:=p2) (st:=none) hs rfl ?_⟩
 exact post_val_or_str ⟨Nat.le_trans (Txt.slice_le z _ _) hz,fun t' k=>⟨.str _,H,I.tok k,⟨t',rfl⟩,q⟩⟩
def cutD(xs:List D)(lo hi:Option Int):List D:=(xs.drop (HT.sIx xs.length 0 lo)).take (HT.sIx xs.length xs.length hi-HT.sIx xs.length 0 lo)
theorem Reps.cutD{K:PySem.W.Frag}{ρ:List Addr}{H:Hp}{ds:List D}{vs:List V}(r:Reps K ρ H ds vs)(lo hi:Option Int):Reps K ρ H (L2.cutD ds lo hi) (zK vs lo hi):=by
 unfold L2.cutD zK
 rw[r.length]
 exact(r.drop _).take _
def qSl:D->Option Int->Option Int->Mem->DK->Prop:=fun x lo hi M Q=>match x with
 | .str z=>z.length<=sizeLine/\Q (.str (Txt.slice z lo hi)) M
 | .ref n=>∃ xs,ao M n xs/\Q (.ref M.length) (M++[.lst (cutD xs lo hi)])
 | .tup xs=>Q (.tup (cutD xs lo hi)) M
 | _=>False
def lowSl(K:PySem.W.Frag)(r:D->Option Int->Option Int->Mem->DK->Prop):V->Option Int->Option Int->Hp->VK->Prop:=fun vx lo hi H R=>∃ x M ρ Q,Sim K ρ M H/\Rep K ρ H x vx/\r x lo hi M Q/\∀ v H',VQ K ρ H Q v H'->R v H'
theorem sld:SlR X (lowSl X.K qSl):=by
 intro pins s σ H x v vl vu lo hi sl R I rx hs pl pu ⟨d,M,ρ,Q,sm,r1,q,k⟩
 unfold qSl at q
 split at q
 ·cases r1
  exact Cv pins s σ H _ v vl vu lo hi sl R I rx hs pl pu ⟨_,rfl,q.1,k _ H (VQ.now sm (.str _) q.2)⟩
 ·obtain⟨xs,hL,q⟩:=q
  obtain⟨_,rfl,hn⟩:=Rep.inv_ref r1
  obtain⟨vs,hq,r⟩:=ao.seq sm hL hn
  exact Aa pins s σ H _ v vl vu lo hi sl R I rx hs pl pu ⟨_,vs,rfl,hq,fun p hp=>k _ _ (VQ.laidL sm .refl (r.cutD lo hi) hp q)⟩
 ·obtain⟨_,_,rfl,h,r⟩:=Rep.inv_tup r1
  rename_i xs a vs
  by_cases hw:HT.sIx xs.length 0 lo=0/\HT.sIx xs.length xs.length hi=xs.length
  ·cases rx
   obtain⟨its,rr,ht,hz⟩:=I.tuple h
   have hlen:its.toArray.size=xs.length:=by rw[List.size_toArray,r.length]; exact rr.length.symm
   have e:L2.cutD xs lo hi=xs:=by unfold L2.cutD; rw[hw.1,hw.2,List.drop_zero,Nat.sub_zero,List.take_length]
   rw[e] at q
   exact⟨"tuple",_,PyProof.Rows.slot_tuple_getitem.lookup,ht.typeIs,lO ht hs pl pu (by rw[hlen]; exact hw) ⟨.ref _,H,I,rfl,k _ H (VQ.now sm (.tup h r) q)⟩⟩
  ·exact Cu pins s σ H _ v vl vu lo hi sl R I rx hs pl pu ⟨_,_,rfl,h,by rw[← r.length]; exact hw,fun p hp=>k _ _ (VQ.laidT sm .refl (r.cutD lo hi) hp q)⟩
 ·exact q.elim
def dSl(te:DTE)(tl th:DTO):DTE:=fun S M Q=>te S M fun x M1=>tl S M1 fun l M2=>th S M2 fun u M3=>qSl x l u M3 Q
theorem BH{e:Expr}{te:DTE}{lo hi:Option Expr}{tl th:DTO}{p2:Pos}(he:DE X e te)(hl:PO X lo (Dz X.K tl))(hu:PO X hi (Dz X.K th)):DE X (.Subscript e (.Slice lo hi none p2) pos) (dSl te tl th):=by
 refine PE.imp (xA sld he hl hu) fun σ H R ⟨S,M,ρ,Q,s,sr,q,k⟩=>⟨S,M,ρ,_,s,sr,q,fun v H1 ⟨d,M1,ρ1,s1,g1,r1,q1⟩=>⟨S,M1,ρ1,_,s1,sr.grow g1,q1,fun l H2 ⟨M2,ρ2,s2,g2,q2⟩=>⟨S,M2,ρ2,_,s2,sr.grow (g1.trans g2),q2,fun u H3 ⟨M3,ρ3,s3,g3,q3⟩=>?_⟩⟩⟩
 exact⟨d,M3,ρ3,Q,s3,r1.grow (g2.trans g3),q3,fun v H' w=>k v H' (VQ.trans ((g1.trans g2).trans g3) w)⟩
def kZ:DR2:=fun x y M Q=>match x,y with
 | .int i,.int j=>CMul i j/\Q (.int (i*j)) M
 | .str z,.int n=>(0<=n/\n < 2 ^ 63/\z.length*n.toNat<=sizeLine)/\Q (.str (Txt.mul z n)) M
 | _,_=>False
theorem oV(h0:0<=n)(h:z.length*n.toNat<=sizeLine)(hn:n < 2 ^ 63):MulOk z n:=by
 refine⟨?_,fun h1 h2=>?_,fun h1 h2=>?_⟩
 ·have e1:decide (n < -(2 ^ 63:Int))=false:=decide_eq_false (by lia)
  have e2:decide (n ≥ 2 ^ 63)=false:=decide_eq_false (by lia)
  rw[e1,e2]
  rfl
 ·have hz:(z.length:Int)*n<=2 ^ 24:=by
   have e:((z.length*n.toNat:Nat):Int)=(z.length:Int)*n:=by
    rw[Int.natCast_mul,Int.toNat_of_nonneg h0]
   have h':((z.length*n.toNat:Nat):Int)<=(2 ^ 24:Nat):=Int.ofNat_le.mpr h
   rw[e] at h'
   exact h'
  have hpos:0 < n:=by lia
  intro hgt
  have:=Int.lt_of_lt_of_le (Int.lt_mul_of_ediv_lt hpos hgt) hz
  lia
 ·unfold PySem.Builtin.Str.tooLong
  simpa using h
theorem AL:OpD X (binaryOp .Mult) kZ:=by
 intro pins s σ H vx vy v u R I rx ry ⟨x,y,M,ρ,Q,sm,r1,r2,q,k⟩
 unfold kZ at q
 split at q
 ·cases r1
  cases r2
  exact Dg pins s σ H _ _ v u R I rx ry ⟨_,_,rfl,rfl,q.1,k _ H (VQ.now sm (.int _) q.2)⟩
 ·rename_i z n
  cases r1
  cases r2
  obtain⟨t,rfl⟩:=rx
  obtain⟨t',rfl⟩:=ry
  obtain⟨⟨h0,h2,h1⟩,q⟩:=q
  exact PySem.SB.mul (oV h0 h1 h2) fun t' j=>⟨.str _,H,I.tok j,⟨t',rfl⟩,k _ H (VQ.now sm (.str _) q)⟩
 ·exact q.elim
variable{o e:Expr}{es:List Expr}{to:DTE}{t:DTA}{name:Str}{apos cpos:Pos}{id:String}
def lowMs(K:PySem.W.Frag)(r:Str->DRA):V->List V->Hp->VK->Prop:=fun vx vs H R=>∃ z ds M ρ Q,vx=.str z/\Sim K ρ M H/\Reps K ρ H ds vs/\r z ds M Q/\∀ v H',VQ K ρ H Q v H'->R v H'
def sN(K:PySem.W.Frag)(r:Nat->DRA):V->List V->Hp->VK->Prop:=fun vx vs H R=>∃ n a ds M ρ Q,vx=.ref a/\ρ[n]?=some a/\Sim K ρ M H/\Reps K ρ H ds vs/\r n ds M Q/\∀ v H',VQ K ρ H Q v H'->R v H'
def dMl(r:Nat->DRA)(to:DTE)(t:DTA):DTE:=fun S M Q=>to S M fun x M1=>match x with
 | .ref n=>(∃ xs,ao M1 n xs)/\t S M1 fun ds M2=>r n ds M2 Q
 | _=>False
theorem d_ml(slot:Slot "list" name id)(hty:typeOf (.builtin id)=pure (.type "method_descriptor"))(hm:MtR X id (sN X.K r))(ho:DE X o to)(ha:DA X (e::es) t)
  (hbase:attributeBase o name X.env (eval o X.env)=eval o X.env:=by rfl)
  (hfew:((backTo cpos (starEach (e::es) X.env)).all (fun x=>!x.1)&&(backToKw cpos (keywordEach [] X.env)).all (fun x=>x.1.isSome)
   && decide ((e::es).length+([]:List Keyword).length+(if ([]:List Keyword).isEmpty then 0 else 1) < 30))=true:=by rfl)
  (hline:(apos.endLine==cpos.line)=true:=by rfl) (hs:starEach (e::es) X.env=(false,eval e X.env)::starEach es X.env:=by rfl) (hplain:(backTo cpos (starEach es X.env)).any (·.1)=false:=by rfl) :
  DE X (.Call (.Attribute o name apos) (e::es) [] cpos) (dMl r to t):=by
 refine PE.imp (pe_bm PySem.F.plainAttrs_list slot hty hm ho ha hbase hfew hline hs hplain) fun σ H R ⟨S,M,ρ,Q,s,sr,q,k⟩=>⟨S,M,ρ,_,s,sr,q,fun v H1 ⟨d,M1,ρ1,s1,g1,r1,q1⟩=>?_⟩
 cases r1 with
 | @ref n a hn =>
  obtain⟨⟨xs,hL⟩,q1⟩:=(show (∃ xs,ao M1 n xs)/\t S M1 _ from q1)
  obtain⟨vs,hq,_⟩:=ao.seq s1 hL hn
  exact⟨.inl ⟨rfl,vs,hq⟩,S,M1,ρ1,_,s1,sr.grow g1,q1,fun vs H2 ⟨ds,M2,ρ2,s2,g2,r2,q2⟩=>⟨n,a,ds,M2,ρ2,Q,rfl,aw g2.pre hn,s2,r2,q2,fun v H' w=>k v H' (VQ.trans (g1.trans g2) w)⟩⟩
 | _=>exact q1.elim
def cr(n:Nat):DRA:=fun ds M Q=>match ds with
 | [d]=>∃ xs,M[n]?=some (.lst xs)/\xs.length < sizeLine/\Q .non (M.set n (.lst (xs++[d])))
 | _=>False
theorem sK:MtR X "list.append" (sN X.K cr):=by
 intro pins s σ H x xs v us R I rx rs ⟨n,a,ds,M,ρ,Q,ez,hn,sm,rr,q,k⟩
 unfold cr at q
 split at q
 ·rename_i d
  obtain⟨ys,e,hl,q⟩:=q
  first | have hzz:=Reps.inv_cons rr | have hzz:=ar.inv_cons rr
  clear rr
  obtain⟨_,_,rfl,r1,rr⟩:=hzz
  cases rr
  obtain⟨vs,hH,r⟩:=sm.obj n a _ hn e
  obtain⟨w1,w2⟩:=sm.write hn e hH (r.append (.cons r1 .nil))
  exact vz pins s σ H x _ v us R I rx rs ⟨a,vs,_,ez,rfl,hH,by rw[← r.length]; exact hl,k _ _ ⟨.non,_,ρ,w1,w2,.non,q⟩⟩
 ·exact q.elim
end
end L2
set_option maxRecDepth 100000
namespace L2
open PySem PySem.Spec PyProof.Rows DL
section
variable{X:Cx}{tg:Expr}
end
end L2
set_option maxRecDepth 100000
namespace L2
open PySem PySem.Spec PyProof.Rows DL
def cR(K:PySem.W.Frag)(mg:Str->Option Value)(x:Str)(st:Stmt)(ps:List Str):Prop :=
 ∃ f fd,Fun K x x st f fd/\mg x=some (.ref f)/\om K fd ps []
def Cal(P:Program)(w:World)(K:PySem.W.Frag)(mg:Str->Option Value)(base:Heap)(k:Nat)(x:Str)(ps:List Str)(Pr:DSp):Prop :=
 ∃ f fd,FnOk P w K mg base CX0 k f fd ps (spL K Pr)/\mg x=some (.ref f)/\PySem.W.keepIn K (.ref f)=true/\om K fd ps []
theorem fnat_mk{K:PySem.W.Frag}{h:Heap}{mg:Str->Option Value}{x:Str}{st:Stmt}{ps:List Str}{f:Addr}{oc:Value}{od an:Option Addr}{osl:Array (Option Value)}{kV doc pm cdv ct:Value}
  (X:K.In h) (G:h.Ns mainGlobals mg) (a:PySem.W.nsIn K mainGlobals x=some (some (.ref f)))
  (l:K.lookup f=some ⟨oc,od,.func (PySem.W.fnOf x x (fy st) (bu st) (am st) .none kV doc pm an cdv ct),osl⟩)
  (c:PySem.W.codeIn K cdv x=true) (k:PySem.W.keepIn K (.ref f)=true)
  (h:∀ (kV doc pm:Value) (an:Option Addr) (cdv ct:Value) (us:List Value),us.length=ps.length->bindArgs (PySem.W.fnOf x x (fy st) (bu st) (am st) .none kV doc pm an cdv ct) ⟨us,[]⟩=pure (ps.zip us)):cR K mg x st ps :=
 have F:=El (st:=st) l c k
 ⟨f,_,F,PySem.W.mg_of X G a,F.binds h⟩
theorem Cal.of{P:Program}{w:World}{K:PySem.W.Frag}{mg:Str->Option Value}{base:Heap}{x:Str}{st:Stmt}{N ps:List Str}{k:Nat}{Pr:DSp}(F:cR K mg x st ps)(Sc:FnScope N ps (am st))
  (len:∀ ds M R,Pr ds M R->ds.length=ps.length) {t:DTS}
  (der:∀ (f:Addr) (cdv:Value) (A:Around) (outer:List Env) (s:Shared) (H:Hp) (E:XK),Room k (A.deeper (envOfC x (am st) s.heap.objs.size f cdv))->DSs (nS CX0 P w K mg base N x (am st) f cdv A outer s H E).nox (bu st) t)
  (wp:∀ ds M R,Pr ds M R->t ⟨fun _ M'=>bx M R .non M',bx M R,fun _ _=>False,fun _ _=>False⟩ (bR N ds) M):Cal P w K mg base (k+1) x ps Pr:=by
 obtain⟨f,fd,F1,hm,hb⟩:=F
 exact⟨f,fd,d_fn Pr F1 Sc len fun cdv A outer s H E hr=>⟨t,der f cdv A outer s H E hr,wp⟩,hm,F1.kp,hb⟩
theorem Bp{P:Program}{w:World}{K:PySem.W.Frag}{mg:Str->Option Value}{base:Heap}{x:Str}{st:Stmt}{N ps:List Str}{k:Nat}{Pr:DSp}{f:Addr}{fd:FuncData}(F:Fun K x x st f fd)(Sc:FnScope N ps (am st))
  (len:∀ ds M R,Pr ds M R->ds.length=ps.length) {t:DTS}
  (der:∀ (f:Addr) (cdv:Value) (A:Around) (outer:List Env) (s:Shared) (H:Hp) (E:XK),Room k (A.deeper (envOfC x (am st) s.heap.objs.size f cdv))->DSs (nS CX0 P w K mg base N x (am st) f cdv A outer s H E).nox (bu st) t)
  (wp:∀ ds M R,Pr ds M R->t ⟨fun _ M'=>bx M R .non M',bx M R,fun _ _=>False,fun _ _=>False⟩ (bR N ds) M):FnOk P w K mg base CX0 (k+1) f fd ps (spL K Pr) :=
 d_fn Pr F Sc len fun cdv A outer s H E hr=>⟨t,der f cdv A outer s H E hr,wp⟩
section
variable{X:Cx}{e:Expr}{es:List Expr}{t:DTA}{pos:Pos}
theorem d_cal(C:Cal X.prog X.w X.K X.mg X.base j x ps P)(hr:Room k X.A)(ha:DA X (e::es) t)(hj:j<=k:=by decide)
  (hg:Gl X x:=by rfl) (hdb:(x==("__debug__":Str))=false:=by decide) (he:starEach (e::es) X.env=(false,eval e X.env)::starEach es X.env:=by rfl) (hpl:(backTo pos (starEach es X.env)).any (·.1)=false:=by rfl) :
  DE X (.Call (.Name x p) (e::es) [] pos) (dCB P t):=by
 obtain⟨f,fd,F,hm,hk,hb⟩:=C
 exact ES F (hr.mono hj) hm hk hb ha hg hdb he hpl
end
theorem iY(h:M[n]?=some mo)(hl:mo.isL=true):ao M n mo.items:=by
 cases mo with
 | lst xs=>exact .inl h
 | fz xs=>exact .inr (.inl h)
 | kl xs=>exact .inr (.inr h)
 | dct xs=>cases hl
 | dkt xs=>cases hl
 | dkq xs=>cases hl
 | fdc o xs=>cases hl
 | tb x b=>cases hl
theorem fO{K:PySem.W.Frag}{ρ:List Addr}{H:Hp}:∀ (ns:List Int),Reps K ρ H (ns.map D.int) (ns.map V.int)
 | []=>.nil
 | n::ns=>.cons (.int n) (fO ns)
end L2
set_option maxRecDepth 100000
namespace L2
open PySem PySem.Spec PyProof.Rows DL
def kJ(nm:List (Str×NameKind))(N N':List Str)(nt:Nat)(js:List Nat)(sc:Scope):Bool :=
 sc.kind==.function&&sc.names.all (fun y=>y.2 != .cell&&(y.2 != .local||sc.names.lookup y.1==some .local)&&(y.2 != .free||(nm.lookup y.1==some .cell||nm.lookup y.1==some .free))) &&
 N'.length==nt+js.length&&(List.range js.length).all fun k=>match js[k]?,N'[nt+k]? with
  | some j,some x=>N[j]?==some x&&sc.names.lookup x==some .free&&(nm.lookup x==some .cell||nm.lookup x==some .free)
  | _,_=>false
theorem BlkSc.chk(h:kJ X.env.scope.names X.N N' nt js scope=true):BlkSc X N' nt js scope:=by
 unfold kJ at h
 simp only[Bool.and_eq_true,List.all_eq_true,beq_iff_eq,Bool.or_eq_true,bne_iff_ne] at h
 obtain⟨⟨⟨h1,h2⟩,h3⟩,h4⟩:=h
 refine⟨h1,fun y hy=>(h2 y hy).1.1,fun y hy e=>((h2 y hy).1.2.resolve_left (fun z=>z e)),fun y hy e=>((h2 y hy).2.resolve_left (fun z=>z e)),h3,fun k j e=>?_⟩
 have hk:k < js.length:=(List.getElem?_eq_some_iff.mp e).1
 have q:=h4 k (List.mem_range.mpr hk)
 rw[e] at q
 cases f:N'[nt+k]? with
 | none=>rw[f] at q; exact absurd q (by simp)
 | some x =>
  rw[f] at q
  simp only[Bool.and_eq_true,beq_iff_eq,Bool.or_eq_true] at q
  exact⟨x,rfl,q.1.1,q.1.2,q.2⟩
section
variable{X:Cx}{a:Expr}{ta:DTE}{pos:Pos}
end
end L2
set_option maxRecDepth 100000
namespace L2
open PySem PySem.Spec PyProof.Rows DL
def eqL(f:D->D->Bool):List D->List D->Bool
 | [],[]=>true
 | x::xs,y::ys=>f x y&&eqL f xs ys
 | _,_=>false
def eqD(M:Mem):Nat->D->D->Bool
 | _,.non,.non=>true
 | _,.bl a,.bl b=>a==b
 | _,.bl a,.int b=>(if a then 1 else 0)==b
 | _,.int a,.bl b=>a==(if b then 1 else 0)
 | _,.int a,.int b=>a==b
 | _,.str a,.str b=>a==b
 | n+1,.tup xs,.tup ys=>eqL (eqD M n) xs ys
 | n+1,.ref i,.ref j=>match M[i]?,M[j]? with
  | some a,some b=>eqL (eqD M n) a.items b.items
  | _,_=>false
 | _,_,_=>false
def okD(M:Mem):Nat->D->Bool
 | _,.ty _=>false
 | n+1,.tup xs=>xs.all (okD M n)
 | n+1,.ref i=>match M[i]? with
  | some a=>a.isL&&a.items.all (okD M n)
  | none=>false
 | 0,.tup _=>false
 | 0,.ref _=>false
 | _,_=>true
theorem wy:∀ {xs ys:List D},eqL f xs ys=true->xs.length=ys.length
 | [],[],_=>rfl
 | [],_::_,h=>by simp[eqL] at h
 | _::_,[],h=>by simp[eqL] at h
 | x::xs,y::ys,h=>by
  simp only[eqL,Bool.and_eq_true] at h
  rw[List.length_cons,List.length_cons,wy h.2]
theorem wR(n:Nat)(e:Nat->Bool):(List.range (n+1)).all e=(e 0&&(List.range n).all fun j=>e (j+1)):=by
 rw[List.range_succ_eq_map,List.all_cons,List.all_map]
 rfl
theorem jf:∀ {xs ys:List D}{e:Nat->Bool},xs.length=ys.length->(∀ (j:Nat) x y,xs[j]?=some x->ys[j]?=some y->e j=f x y)->(List.range xs.length).all e=eqL f xs ys
 | [],[],e,_,_=>by simp[eqL]
 | [],_::_,_,h,_=>by simp at h
 | _::_,[],_,h,_=>by simp at h
 | x::xs,y::ys,e,h,he=>by
  rw[List.length_cons,wR,eqL,he 0 x y rfl rfl,jf (by simpa using h) fun j x' y' h1 h2=>he (j+1) x' y' (by simpa using h1) (by simpa using h2)]
theorem wx(h:xs.length≠ys.length):eqL f xs ys=false:=by
 cases q:eqL f xs ys with
 | false=>rfl
 | true=>exact absurd (wy q) h
theorem fG{vs:List V}{us:List Value}(h:ar vs us){j:Nat}{v:V}(e:vs[j]?=some v):∃ u,us[j]?=some u/\aJ v u:=by
 induction h generalizing j with
 | nil=>simp at e
 | cons r _ ih =>
  cases j with
  | zero=>simp at e; subst e; exact⟨_,rfl,r⟩
  | succ j=>exact ih (by simpa using e)
section
variable{X:Cx}{pins:List (Addr×Obj)}{σ:St}{H:Hp}{s:Shared}{ρ:List Addr}{M:Mem}
theorem iH(I:Inv X pins σ H s)(sm:Sim X.K ρ M H){i:Nat}{a:Addr}{mo:MO}(e:ρ[i]?=some a)(hm:M[i]?=some mo)(hl:mo.isL=true):∃ vs its,SqL X.K H a vs/\Reps X.K ρ H mo.items vs/\ar vs its/\PlainL s.heap a its.toArray:=by
 obtain⟨vs,hq,r⟩:=ao.seq sm (iY hm hl) e
 obtain⟨its,rr,pl,_⟩:=I.list hq
 exact⟨vs,its,hq,r,rr,pl⟩
theorem cN(hm:M[i]?=some mo)(o:okD M (n+1) (.ref i)=true):mo.isL=true/\mo.items.all (okD M n)=true:=by
 have o':(match M[i]? with | some a=>a.isL&&a.items.all (okD M n) | none=>false)=true:=o
 rw[hm] at o'
 exact(Bool.and_eq_true _ _).mp o'
theorem yn(I:Inv X pins σ H s)(sm:Sim X.K ρ M H):∀ (n:Nat) (x y:D) (v:V),Rep X.K ρ H x v->Rep X.K ρ H y v->okD M n x=true->okD M n y=true->eqD M n x y=true:=by
 have all:∀ (n:Nat),(∀ (x y:D) (v:V),Rep X.K ρ H x v->Rep X.K ρ H y v->okD M n x=true->okD M n y=true->eqD M n x y=true) ->
   ∀ (xs ys:List D) (vs:List V),Reps X.K ρ H xs vs->Reps X.K ρ H ys vs->xs.all (okD M n)=true->ys.all (okD M n)=true->eqL (eqD M n) xs ys=true:=by
  intro n ih xs
  induction xs with
  | nil=>intro ys vs h1 h2 _ _; cases h1; cases h2; rfl
  | cons x xs hi =>
   intro ys vs h1 h2 o1 o2
   cases h1 with
   | cons r1 t1 =>
    cases h2 with
    | cons r2 t2 =>
     rw[List.all_cons,Bool.and_eq_true] at o1 o2
     rw[eqL,ih _ _ _ r1 r2 o1.1 o2.1,hi _ _ t1 t2 o1.2 o2.2]
     rfl
 intro n
 induction n with
 | zero =>
  intro x y v h1 h2 o1 o2
  cases h1 <;> cases h2 <;> first | (simp[okD] at o1; done) | rfl | simp[eqD]
 | succ n ih =>
  intro x y v h1 h2 o1 o2
  cases h1 with
  | non=>cases h2; rfl
  | bl b=>cases h2; simp[eqD]
  | int b=>cases h2; simp[eqD]
  | str b=>cases h2; simp[eqD]
  | ty b=>simp[okD] at o1
  | @tup a vs ds hq r =>
   cases h2 with
   | tup hq' r' =>
    have e:=I.tuple_inj hq hq'
    subst e
    exact all n ih _ _ _ r r' (by simpa [okD] using o1) (by simpa [okD] using o2)
   | @ref i _ e =>
    exfalso
    obtain⟨its,_,⟨o,e1,e2,_⟩,_⟩:=I.tuple hq
    have hi:i < M.length:=by rw[← sm.len]; exact(List.getElem?_eq_some_iff.mp e).1
    obtain⟨vs',its',_,_,_,⟨o',n',f1,f2,_⟩⟩:=iH I sm e (List.getElem?_eq_getElem hi) (cN (List.getElem?_eq_getElem hi) o2).1
    rw[e1] at f1; cases f1
    rw[e2] at f2; injection f2 with f3; exact absurd f3 (by decide)
  | @ref i a e =>
   have hi:i < M.length:=by rw[← sm.len]; exact(List.getElem?_eq_some_iff.mp e).1
   have hm:=List.getElem?_eq_getElem hi
   obtain⟨vs,its,hq,r,rr,pl⟩:=iH I sm e hm (cN hm o1).1
   cases h2 with
   | tup hq' r' =>
    exfalso
    obtain⟨its',_,⟨o,e1,e2,_⟩,_⟩:=I.tuple hq'
    obtain⟨o',n',f1,f2,_⟩:=pl
    rw[e1] at f1; cases f1
    rw[e2] at f2; injection f2 with f3; exact absurd f3 (by decide)
   | @ref j _ e' =>
    have hj:j < M.length:=by rw[← sm.len]; exact(List.getElem?_eq_some_iff.mp e').1
    have hm':=List.getElem?_eq_getElem hj
    obtain⟨vs',its',hq',r',rr',pl'⟩:=iH I sm e' hm' (cN hm' o2).1
    have ev:vs=vs':=I.list_inj hq hq'
    subst ev
    have o1':=(cN hm o1).2
    have o2':=(cN hm' o2).2
    simp only[eqD,hm,hm']
    exact all n ih _ _ _ r r' o1' o2'
theorem jh(I:Inv X pins σ H s)(sm:Sim X.K ρ M H):∀ (n:Nat) (A:Around) (x y:D) (vx vy:V) (u v:Value),A.units+n < cLine->Rep X.K ρ H x vx->aJ vx u->Rep X.K ρ H y vy->aJ vy v->okD M n x=true->okD M n y=true ->
  SeqAt.EqAt A s u v (eqD M n x y)/\SeqAt.RcAt A s u v (eqD M n x y)/\SeqAt.RcNeAt A s u v (!eqD M n x y):=by
 intro n
 induction n with
 | zero =>
  intro A x y vx vy u v hu r1 e1 r2 e2 o1 o2
  cases r1 with
  | ty b=>simp[okD] at o1
  | tup b=>simp[okD] at o1
  | ref b=>simp[okD] at o1
  | non =>
   cases e1
   cases r2 with
   | ty b=>simp[okD] at o2
   | tup b=>simp[okD] at o2
   | ref b=>simp[okD] at o2
   | non=>cases e2; exact⟨SeqAt.EqAt.same _,SeqAt.RcAt.none_none,SeqAt.RcNeAt.none_none⟩
   | bl b=>cases e2; exact⟨SeqAt.EqAt.none_bool _,SeqAt.RcAt.none_bool _,SeqAt.RcNeAt.none_bool _⟩
   | int b=>obtain⟨t,rfl⟩:=e2; exact⟨SeqAt.EqAt.none_int _ _,SeqAt.RcAt.none_int _ _,SeqAt.RcNeAt.none_int _ _⟩
   | str b=>obtain⟨t,rfl⟩:=e2; exact⟨SeqAt.EqAt.none_str _ _,SeqAt.RcAt.none_str _ _,SeqAt.RcNeAt.none_str _ _⟩
  | bl a =>
   cases e1
   cases r2 with
   | ty b=>simp[okD] at o2
   | tup b=>simp[okD] at o2
   | ref b=>simp[okD] at o2
   | non=>cases e2; exact⟨SeqAt.EqAt.bool_none _,SeqAt.RcAt.bool_none _,SeqAt.RcNeAt.bool_none _⟩
   | bl b=>cases e2; exact⟨SeqAt.EqAt.bool_bool _ _,SeqAt.RcAt.bool_bool _ _,SeqAt.RcNeAt.bool_bool _ _⟩
   | int b=>obtain⟨t,rfl⟩:=e2; exact⟨SeqAt.EqAt.bool_int _ _ _,SeqAt.RcAt.bool_int _ _ _,SeqAt.RcNeAt.bool_int _ _ _⟩
   | str b=>obtain⟨t,rfl⟩:=e2; exact⟨SeqAt.EqAt.bool_str _ _ _,SeqAt.RcAt.bool_str _ _ _,SeqAt.RcNeAt.bool_str _ _ _⟩
  | int a =>
   obtain⟨t0,rfl⟩:=e1
   cases r2 with
   | ty b=>simp[okD] at o2
   | tup b=>simp[okD] at o2
   | ref b=>simp[okD] at o2
   | non=>cases e2; exact⟨SeqAt.EqAt.int_none _ _,SeqAt.RcAt.int_none _ _,SeqAt.RcNeAt.int_none _ _⟩
   | bl b=>cases e2; exact⟨SeqAt.EqAt.int_bool _ _ _,SeqAt.RcAt.int_bool _ _ _,SeqAt.RcNeAt.int_bool _ _ _⟩
   | int b=>obtain⟨t,rfl⟩:=e2; exact⟨SeqAt.EqAt.int_int _ _ _ _,SeqAt.RcAt.int_int _ _ _ _,SeqAt.RcNeAt.int_int _ _ _ _⟩
   | str b=>obtain⟨t,rfl⟩:=e2; exact⟨SeqAt.EqAt.int_str _ _ _ _,SeqAt.RcAt.int_str _ _ _ _,SeqAt.RcNeAt.int_str _ _ _ _⟩
  | str a =>
   obtain⟨t0,rfl⟩:=e1
   cases r2 with
   | ty b=>simp[okD] at o2
   | tup b=>simp[okD] at o2
   | ref b=>simp[okD] at o2
   | non=>cases e2; exact⟨SeqAt.EqAt.str_none _ _,SeqAt.RcAt.str_none _ _,SeqAt.RcNeAt.str_none _ _⟩
   | bl b=>cases e2; exact⟨SeqAt.EqAt.str_bool _ _ _,SeqAt.RcAt.str_bool _ _ _,SeqAt.RcNeAt.str_bool _ _ _⟩
   | int b=>obtain⟨t,rfl⟩:=e2; exact⟨SeqAt.EqAt.str_int _ _ _ _,SeqAt.RcAt.str_int _ _ _ _,SeqAt.RcNeAt.str_int _ _ _ _⟩
   | str b=>obtain⟨t,rfl⟩:=e2; exact⟨SeqAt.EqAt.str_str _ _ _ _,SeqAt.RcAt.str_str _ _ _ _,SeqAt.RcNeAt.str_str _ _ _ _⟩
 | succ n ih =>
  intro A x y vx vy u v hu r1 e1 r2 e2 o1 o2
  have hu0:A.units < cLine:=by lia
  have hu1:A.in1.units+n < cLine:=by show A.units+1+n < cLine; lia
  -- what a list or a tuple is,as the heap has it
  have tupAt:∀ {a:Addr}{vs:List V}{ds:List D},SqT X.K H a vs->Reps X.K ρ H ds vs->∃ its:List Value,ar vs its/\s.heap.IsTuple a its.toArray/\ds.length=its.length:=fun {a vs ds} hq r=>by
   obtain⟨its,rr,pl,_⟩:=I.tuple hq
   exact⟨its,rr,pl,r.length.trans rr.length⟩
  have lstAt:∀ {i:Nat}{a:Addr},ρ[i]?=some a->okD M (n+1) (.ref i)=true->∃ mo,M[i]?=some mo/\∃ vs its,Reps X.K ρ H mo.items vs/\ar vs its/\s.heap.IsList a its.toArray/\mo.items.length=its.length:=fun {i a} e ok=>by
   have hi:i < M.length:=by rw[← sm.len]; exact(List.getElem?_eq_some_iff.mp e).1
   have hm:=List.getElem?_eq_getElem hi
   obtain⟨vs,its,hq,r,rr,pl⟩:=iH I sm e hm (cN hm ok).1
   exact⟨_,hm,vs,its,r,rr,pl.isList,r.length.trans rr.length⟩
  have items:∀ {xs ys:List D}{vs ws:List V}{its jts:List Value},Reps X.K ρ H xs vs->ar vs its->Reps X.K ρ H ys ws->ar ws jts->xs.all (okD M n)=true->ys.all (okD M n)=true ->
    ∀ (j:Nat) (h1:j < its.toArray.size) (h2:j < jts.toArray.size),SeqAt.EqAt A.in1 s its.toArray[j] jts.toArray[j] (eqD M n (xs.getD j .non) (ys.getD j .non)):=fun {xs ys vs ws its jts} r1 q1 r2 q2 o1 o2 j h1 h2=>by
   have l1:j < xs.length:=by rw[r1.length,q1.length]; simpa using h1
   have l2:j < ys.length:=by rw[r2.length,q2.length]; simpa using h2
   obtain⟨v1,g1,p1⟩:=r1.get (List.getElem?_eq_getElem l1)
   obtain⟨v2,g2,p2⟩:=r2.get (List.getElem?_eq_getElem l2)
   obtain⟨u1,k1,m1⟩:=fG q1 g1
   obtain⟨u2,k2,m2⟩:=fG q2 g2
   have z1:its.toArray[j]=u1:=by
    have:=(List.getElem?_eq_some_iff.mp k1).2
    simpa using this
   have z2:jts.toArray[j]=u2:=by
    have:=(List.getElem?_eq_some_iff.mp k2).2
    simpa using this
   rw[z1,z2]
   have y1:xs.getD j .non=xs[j]:=by simp[List.getD,List.getElem?_eq_getElem l1]
   have y2:ys.getD j .non=ys[j]:=by simp[List.getD,List.getElem?_eq_getElem l2]
   rw[y1,y2]
   exact(ih A.in1 _ _ _ _ _ _ hu1 p1 m1 p2 m2 (List.all_eq_true.mp o1 _ (List.getElem_mem l1)) (List.all_eq_true.mp o2 _ (List.getElem_mem l2))).1
  have rng:∀ (xs ys:List D),xs.length=ys.length->(List.range xs.length).all (fun j=>eqD M n (xs.getD j .non) (ys.getD j .non))=eqL (eqD M n) xs ys:=fun xs ys h=>jf h fun j x y h1 h2=>by
   simp[List.getD,h1,h2]
  have fin:∀ {a b:Addr}{k:Bool},Rep X.K ρ H x (.ref a)->Rep X.K ρ H y (.ref b)->eqD M (n+1) x y=k->SeqAt.RcAt A s (.ref a) (.ref b) k->SeqAt.RcNeAt A s (.ref a) (.ref b) (!k) ->
    SeqAt.EqAt A s (.ref a) (.ref b) (eqD M (n+1) x y)/\SeqAt.RcAt A s (.ref a) (.ref b) (eqD M (n+1) x y)/\SeqAt.RcNeAt A s (.ref a) (.ref b) (!eqD M (n+1) x y):=fun {a b k} p1 p2 ek h1 h2=>by
   subst ek
   refine⟨?_,h1,h2⟩
   by_cases hab:a=b
   ·subst hab
    rw[yn I sm (n+1) x y _ p1 p2 o1 o2]
    exact SeqAt.EqAt.same _
   ·exact SeqAt.EqAt.of_refs hab h1
  cases r1 with
  | ty b=>simp[okD] at o1
  | non =>
   cases e1
   cases r2 with
   | ty b=>simp[okD] at o2
   | tup hq r=>cases e2; obtain⟨its,rr,pl,_⟩:=tupAt hq r; exact⟨SeqAt.EqAt.none_tuple pl hu0,SeqAt.RcAt.none_tuple pl hu0,SeqAt.RcNeAt.none_tuple pl hu0⟩
   | ref e=>cases e2; obtain⟨mo,hm,vs,its,r,rr,pl,_⟩:=lstAt e o2; exact⟨SeqAt.EqAt.none_list pl hu0,SeqAt.RcAt.none_list pl hu0,SeqAt.RcNeAt.none_list pl hu0⟩
   | non=>cases e2; exact⟨SeqAt.EqAt.same _,SeqAt.RcAt.none_none,SeqAt.RcNeAt.none_none⟩
   | bl b=>cases e2; exact⟨SeqAt.EqAt.none_bool _,SeqAt.RcAt.none_bool _,SeqAt.RcNeAt.none_bool _⟩
   | int b=>obtain⟨t,rfl⟩:=e2; exact⟨SeqAt.EqAt.none_int _ _,SeqAt.RcAt.none_int _ _,SeqAt.RcNeAt.none_int _ _⟩
   | str b=>obtain⟨t,rfl⟩:=e2; exact⟨SeqAt.EqAt.none_str _ _,SeqAt.RcAt.none_str _ _,SeqAt.RcNeAt.none_str _ _⟩
  | bl a =>
   cases e1
   cases r2 with
   | ty b=>simp[okD] at o2
   | tup hq r=>cases e2; obtain⟨its,rr,pl,_⟩:=tupAt hq r; exact⟨SeqAt.EqAt.bool_tuple _ pl hu0,SeqAt.RcAt.bool_tuple _ pl hu0,SeqAt.RcNeAt.bool_tuple _ pl hu0⟩
   | ref e=>cases e2; obtain⟨mo,hm,vs,its,r,rr,pl,_⟩:=lstAt e o2; exact⟨SeqAt.EqAt.bool_list _ pl hu0,SeqAt.RcAt.bool_list _ pl hu0,SeqAt.RcNeAt.bool_list _ pl hu0⟩
   | non=>cases e2; exact⟨SeqAt.EqAt.bool_none _,SeqAt.RcAt.bool_none _,SeqAt.RcNeAt.bool_none _⟩
   | bl b=>cases e2; exact⟨SeqAt.EqAt.bool_bool _ _,SeqAt.RcAt.bool_bool _ _,SeqAt.RcNeAt.bool_bool _ _⟩
   | int b=>obtain⟨t,rfl⟩:=e2; exact⟨SeqAt.EqAt.bool_int _ _ _,SeqAt.RcAt.bool_int _ _ _,SeqAt.RcNeAt.bool_int _ _ _⟩
   | str b=>obtain⟨t,rfl⟩:=e2; exact⟨SeqAt.EqAt.bool_str _ _ _,SeqAt.RcAt.bool_str _ _ _,SeqAt.RcNeAt.bool_str _ _ _⟩
  | int a =>
   obtain⟨t0,rfl⟩:=e1
   cases r2 with
   | ty b=>simp[okD] at o2
   | tup hq r=>cases e2; obtain⟨its,rr,pl,_⟩:=tupAt hq r; exact⟨SeqAt.EqAt.int_tuple _ _ pl hu0,SeqAt.RcAt.int_tuple _ _ pl hu0,SeqAt.RcNeAt.int_tuple _ _ pl hu0⟩
   | ref e=>cases e2; obtain⟨mo,hm,vs,its,r,rr,pl,_⟩:=lstAt e o2; exact⟨SeqAt.EqAt.int_list _ _ pl hu0,SeqAt.RcAt.int_list _ _ pl hu0,SeqAt.RcNeAt.int_list _ _ pl hu0⟩
   | non=>cases e2; exact⟨SeqAt.EqAt.int_none _ _,SeqAt.RcAt.int_none _ _,SeqAt.RcNeAt.int_none _ _⟩
   | bl b=>cases e2; exact⟨SeqAt.EqAt.int_bool _ _ _,SeqAt.RcAt.int_bool _ _ _,SeqAt.RcNeAt.int_bool _ _ _⟩
   | int b=>obtain⟨t,rfl⟩:=e2; exact⟨SeqAt.EqAt.int_int _ _ _ _,SeqAt.RcAt.int_int _ _ _ _,SeqAt.RcNeAt.int_int _ _ _ _⟩
   | str b=>obtain⟨t,rfl⟩:=e2; exact⟨SeqAt.EqAt.int_str _ _ _ _,SeqAt.RcAt.int_str _ _ _ _,SeqAt.RcNeAt.int_str _ _ _ _⟩
  | str a =>
   obtain⟨t0,rfl⟩:=e1
   cases r2 with
   | ty b=>simp[okD] at o2
   | tup hq r=>cases e2; obtain⟨its,rr,pl,_⟩:=tupAt hq r; exact⟨SeqAt.EqAt.str_tuple _ _ pl hu0,SeqAt.RcAt.str_tuple _ _ pl hu0,SeqAt.RcNeAt.str_tuple _ _ pl hu0⟩
   | ref e=>cases e2; obtain⟨mo,hm,vs,its,r,rr,pl,_⟩:=lstAt e o2; exact⟨SeqAt.EqAt.str_list _ _ pl hu0,SeqAt.RcAt.str_list _ _ pl hu0,SeqAt.RcNeAt.str_list _ _ pl hu0⟩
   | non=>cases e2; exact⟨SeqAt.EqAt.str_none _ _,SeqAt.RcAt.str_none _ _,SeqAt.RcNeAt.str_none _ _⟩
   | bl b=>cases e2; exact⟨SeqAt.EqAt.str_bool _ _ _,SeqAt.RcAt.str_bool _ _ _,SeqAt.RcNeAt.str_bool _ _ _⟩
   | int b=>obtain⟨t,rfl⟩:=e2; exact⟨SeqAt.EqAt.str_int _ _ _ _,SeqAt.RcAt.str_int _ _ _ _,SeqAt.RcNeAt.str_int _ _ _ _⟩
   | str b=>obtain⟨t,rfl⟩:=e2; exact⟨SeqAt.EqAt.str_str _ _ _ _,SeqAt.RcAt.str_str _ _ _ _,SeqAt.RcNeAt.str_str _ _ _ _⟩
  | @tup a vs ds hq r =>
   cases e1
   obtain⟨its,rr,pl,ll⟩:=tupAt hq r
   cases r2 with
   | ty b=>simp[okD] at o2
   | non=>cases e2; exact⟨SeqAt.EqAt.tuple_none pl hu0,SeqAt.RcAt.tuple_none pl hu0,SeqAt.RcNeAt.tuple_none pl hu0⟩
   | bl b=>cases e2; exact⟨SeqAt.EqAt.tuple_bool _ pl hu0,SeqAt.RcAt.tuple_bool _ pl hu0,SeqAt.RcNeAt.tuple_bool _ pl hu0⟩
   | int b=>obtain⟨t,rfl⟩:=e2; exact⟨SeqAt.EqAt.tuple_int _ _ pl hu0,SeqAt.RcAt.tuple_int _ _ pl hu0,SeqAt.RcNeAt.tuple_int _ _ pl hu0⟩
   | str b=>obtain⟨t,rfl⟩:=e2; exact⟨SeqAt.EqAt.tuple_str _ _ pl hu0,SeqAt.RcAt.tuple_str _ _ pl hu0,SeqAt.RcNeAt.tuple_str _ _ pl hu0⟩
   | ref e=>cases e2; obtain⟨mo,hm,vs',its',r',rr',pl',_⟩:=lstAt e o2; exact⟨SeqAt.EqAt.tuple_list pl pl' hu0,SeqAt.RcAt.tuple_list pl pl' hu0,SeqAt.RcNeAt.tuple_list pl pl' hu0⟩
   | @tup b ws es hq' r' =>
    cases e2
    obtain⟨jts,rr',pl',ll'⟩:=tupAt hq' r'
    have ok1:ds.all (okD M n)=true:=by simpa [okD] using o1
    have ok2:es.all (okD M n)=true:=by simpa [okD] using o2
    have key:((List.range (min its.toArray.size jts.toArray.size)).all (fun j=>eqD M n (ds.getD j .non) (es.getD j .non))&&its.toArray.size==jts.toArray.size)=eqL (eqD M n) ds es:=by
     rw[List.size_toArray,List.size_toArray]
     by_cases hl:ds.length=es.length
     ·rw[← ll,← ll',← hl,Nat.min_self,rng ds es hl]
      simp
     ·rw[wx hl,← ll,← ll']
      simp[hl]
    have h1:=SeqAt.RcAt.tuples pl pl' hu0 (items r rr r' rr' ok1 ok2)
    have h2:=SeqAt.RcNeAt.tuples pl pl' hu0 (items r rr r' rr' ok1 ok2)
    rw[key] at h1 h2
    exact fin (.tup hq r) (.tup hq' r') rfl h1 h2
  | @ref i a e =>
   cases e1
   obtain⟨mo,hm,vs,its,r,rr,pl,ll⟩:=lstAt e o1
   cases r2 with
   | ty b=>simp[okD] at o2
   | non=>cases e2; exact⟨SeqAt.EqAt.list_none pl hu0,SeqAt.RcAt.list_none pl hu0,SeqAt.RcNeAt.list_none pl hu0⟩
   | bl b=>cases e2; exact⟨SeqAt.EqAt.list_bool _ pl hu0,SeqAt.RcAt.list_bool _ pl hu0,SeqAt.RcNeAt.list_bool _ pl hu0⟩
   | int b=>obtain⟨t,rfl⟩:=e2; exact⟨SeqAt.EqAt.list_int _ _ pl hu0,SeqAt.RcAt.list_int _ _ pl hu0,SeqAt.RcNeAt.list_int _ _ pl hu0⟩
   | str b=>obtain⟨t,rfl⟩:=e2; exact⟨SeqAt.EqAt.list_str _ _ pl hu0,SeqAt.RcAt.list_str _ _ pl hu0,SeqAt.RcNeAt.list_str _ _ pl hu0⟩
   | tup hq' r'=>cases e2; obtain⟨its',rr',pl',_⟩:=tupAt hq' r'; exact⟨SeqAt.EqAt.list_tuple pl pl' hu0,SeqAt.RcAt.list_tuple pl pl' hu0,SeqAt.RcNeAt.list_tuple pl pl' hu0⟩
   | @ref j b e' =>
    cases e2
    obtain⟨mo',hm',ws,jts,r',rr',pl',ll'⟩:=lstAt e' o2
    have ok1:mo.items.all (okD M n)=true:=(cN hm o1).2
    have ok2:mo'.items.all (okD M n)=true:=(cN hm' o2).2
    have ek:eqD M (n+1) (.ref i) (.ref j)=eqL (eqD M n) mo.items mo'.items:=by simp only[eqD,hm,hm']
    by_cases hl:mo.items.length=mo'.items.length
    ·have hsz:its.toArray.size=jts.toArray.size:=by rw[List.size_toArray,List.size_toArray,← ll,← ll',hl]
     have h1:=SeqAt.RcAt.lists pl pl' hsz hu0 (items r rr r' rr' ok1 ok2)
     have h2:=SeqAt.RcNeAt.lists pl pl' hsz hu0 (items r rr r' rr' ok1 ok2)
     rw[List.size_toArray,← ll,rng _ _ hl] at h1 h2
     exact fin (.ref e) (.ref e') ek h1 h2
    ·have hsz:(its.toArray.size != jts.toArray.size)=true:=by
      rw[List.size_toArray,List.size_toArray,← ll,← ll']
      simpa using hl
     have h1:=SeqAt.RcAt.lists_lengths pl pl' hsz hu0
     have h2:=SeqAt.RcNeAt.lists_lengths pl pl' hsz hu0
     exact fin (.ref e) (.ref e') (ek.trans (wx hl)) h1 h2
def eqN:Nat:=30
def qEq:DR2:=fun x y M Q=>(okD M eqN x=true/\okD M eqN y=true)/\Q (.bl (eqD M eqN x y)) M
def qNe:DR2:=fun x y M Q=>(okD M eqN x=true/\okD M eqN y=true)/\Q (.bl (!eqD M eqN x y)) M
def inD(M:Mem)(x:D)(ys:List D):Bool:=ys.any fun y=>eqD M eqN y x
def CG(neg:Bool):DR2:=fun x y M Q=>match y with
 | .tup ys=>(okD M eqN x=true/\ys.all (okD M eqN)=true)/\Q (.bl (inD M x ys != neg)) M
 | .ref n=>∃ ys,ao M n ys/\(okD M eqN x=true/\ys.all (okD M eqN)=true)/\Q (.bl (inD M x ys != neg)) M
 | .str z=>match x with
  | .str p=>Q (.bl ((!(Builtin.Str.occurrences z p 0 z.length 1).isEmpty) != neg)) M
  | _=>False
 | _=>False
abbrev qIn:DR2:=CG false
abbrev iI:DR2:=CG true
end
section
variable{X:Cx}
theorem kP(hr:Room k A):A.units+eqN < cLine:=by have:=hr.un; unfold eqN; lia
theorem od_eq(hr:Room k X.A):OpD X (compareOp .Eq) qEq:=by
 intro pins s σ H vx vy v u R I rx ry ⟨x,y,M,ρ,Q,sm,r1,r2,⟨⟨o1,o2⟩,q⟩,k⟩
 exact(jh I sm eqN X.A x y vx vy v u (kP hr) r1 rx r2 ry o1 o2).2.1 _ _ _ _ (dW I sm k q)
theorem od_ne(hr:Room k X.A):OpD X (compareOp .NotEq) qNe:=by
 intro pins s σ H vx vy v u R I rx ry ⟨x,y,M,ρ,Q,sm,r1,r2,⟨⟨o1,o2⟩,q⟩,k⟩
 exact(jh I sm eqN X.A x y vx vy v u (kP hr) r1 rx r2 ry o1 o2).2.2 _ _ _ _ (dW I sm k q)
theorem nH{pins:List (Addr×Obj)}{σ:St}{H:Hp}{s:Shared}{ρ:List Addr}{M:Mem}(I:Inv X pins σ H s)(sm:Sim X.K ρ M H):∀ (n:Nat) (x y z:D) (v:V),Rep X.K ρ H x v->Rep X.K ρ H y v->okD M n x=true->okD M n y=true->eqD M n x z=eqD M n y z:=by
 have all:∀ (n:Nat),(∀ (x y z:D) (v:V),Rep X.K ρ H x v->Rep X.K ρ H y v->okD M n x=true->okD M n y=true->eqD M n x z=eqD M n y z) ->
   ∀ (xs ys zs:List D) (vs:List V),Reps X.K ρ H xs vs->Reps X.K ρ H ys vs->xs.all (okD M n)=true->ys.all (okD M n)=true->eqL (eqD M n) xs zs=eqL (eqD M n) ys zs:=by
  intro n ih xs
  induction xs with
  | nil=>intro ys zs vs h1 h2 _ _; cases h1; cases h2; rfl
  | cons x xs hi =>
   intro ys zs vs h1 h2 o1 o2
   cases h1 with
   | cons r1 t1 =>
    cases h2 with
    | cons r2 t2 =>
     cases zs with
     | nil=>rfl
     | cons z zs =>
      rw[List.all_cons,Bool.and_eq_true] at o1 o2
      rw[eqL,eqL,ih _ _ z _ r1 r2 o1.1 o2.1,hi _ zs _ t1 t2 o1.2 o2.2]
 intro n
 induction n with
 | zero =>
  intro x y z v h1 h2 o1 o2
  cases h1 <;> cases h2 <;> first | rfl | (cases z <;> rfl)
 | succ n ih =>
  intro x y z v h1 h2 o1 o2
  cases h1 with
  | non=>cases h2; rfl
  | bl b=>cases h2; rfl
  | int b=>cases h2; rfl
  | str b=>cases h2; rfl
  | ty b=>cases h2; rfl
  | @tup a vs ds hq r =>
   cases h2 with
   | tup hq' r' =>
    have e:=I.tuple_inj hq hq'
    subst e
    cases z with
    | tup zs=>exact all n ih _ _ zs _ r r' o1 o2
    | _=>rfl
   | @ref i _ e =>
    exfalso
    obtain⟨its,_,⟨o,e1,e2,_⟩,_⟩:=I.tuple hq
    have hi:i < M.length:=by rw[← sm.len]; exact(List.getElem?_eq_some_iff.mp e).1
    obtain⟨vs',its',_,_,_,⟨o',n',f1,f2,_⟩⟩:=iH I sm e (List.getElem?_eq_getElem hi) (cN (List.getElem?_eq_getElem hi) o2).1
    rw[e1] at f1; cases f1
    rw[e2] at f2; injection f2 with f3; exact absurd f3 (by decide)
  | @ref i a e =>
   have hi:i < M.length:=by rw[← sm.len]; exact(List.getElem?_eq_some_iff.mp e).1
   have hm:=List.getElem?_eq_getElem hi
   obtain⟨vs,its,hq,r,rr,pl⟩:=iH I sm e hm (cN hm o1).1
   cases h2 with
   | tup hq' r' =>
    exfalso
    obtain⟨its',_,⟨o,e1,e2,_⟩,_⟩:=I.tuple hq'
    obtain⟨o',n',f1,f2,_⟩:=pl
    rw[e1] at f1; cases f1
    rw[e2] at f2; injection f2 with f3; exact absurd f3 (by decide)
   | @ref j _ e' =>
    have hj:j < M.length:=by rw[← sm.len]; exact(List.getElem?_eq_some_iff.mp e').1
    have hm':=List.getElem?_eq_getElem hj
    obtain⟨vs',its',hq',r',rr',pl'⟩:=iH I sm e' hm' (cN hm' o2).1
    have ev:vs=vs':=I.list_inj hq hq'
    subst ev
    cases z with
    | ref k =>
     simp only[eqD,hm,hm']
     cases M[k]? with
     | none=>rfl
     | some mo=>exact all n ih _ _ _ _ r r' (cN hm o1).2 (cN hm' o2).2
    | _=>rfl
theorem we{k:Nat}(hr:Room k X.A){pins:List (Addr×Obj)}{σ:St}{H:Hp}{s:Shared}{ρ:List Addr}{M:Mem}(I:Inv X pins σ H s)(sm:Sim X.K ρ M H){x:D}{vx:V}{v:Value}(r1:Rep X.K ρ H x vx)(rx:aJ vx v)(o1:okD M eqN x=true) :
  ∀ {ys:List D}{ws:List V}{its:List Value},Reps X.K ρ H ys ws->ar ws its->ys.all (okD M eqN)=true->∃ e:Value->Bool,(∀ u∈its,SeqAt.EqAt X.A.in1 s u v (e u))/\its.any e=inD M x ys:=by
 have hu:X.A.in1.units+eqN < cLine:=by have:=hr.un; show X.A.units+1+eqN < cLine; unfold eqN; lia
 intro ys ws its rs vs ok
 classical
 refine⟨fun u=>if h:∃ d v',Rep X.K ρ H d v'/\aJ v' u/\okD M eqN d=true then eqD M eqN h.choose x else false,fun u hm=>?_,?_⟩
 ·obtain⟨j,hj,ej⟩:=List.getElem_of_mem hm
  have lj:j < ws.length:=by rw[vs.length]; exact hj
  obtain⟨d,hd,rd⟩:=rs.getV (List.getElem?_eq_getElem lj)
  obtain⟨u',hu',ru⟩:=fG vs (List.getElem?_eq_getElem lj)
  have:u'=u:=by rw[List.getElem?_eq_getElem hj] at hu'; cases hu'; exact ej
  subst this
  have okd:=List.all_eq_true.mp ok _ (List.mem_of_getElem? hd)
  have h:∃ d v',Rep X.K ρ H d v'/\aJ v' u'/\okD M eqN d=true:=⟨d,_,rd,ru,okd⟩
  show SeqAt.EqAt X.A.in1 s u' v (if h:_ then _ else _)
  rw[dif_pos h]
  obtain⟨v',p1,p2,p3⟩:=h.choose_spec
  have ev:=aJ.inj p2 ru
  subst ev
  rw[nH I sm eqN _ d x _ p1 rd p3 okd]
  exact(jh I sm eqN X.A.in1 d x _ vx _ v hu rd ru r1 rx (List.all_eq_true.mp ok _ (List.mem_of_getElem? hd)) o1).1
 ·clear hu o1
  unfold inD
  induction ys generalizing ws its with
  | nil=>cases rs; cases vs; rfl
  | cons d ds ih =>
   cases rs with
   | cons r t =>
   cases vs with
   | cons q t' =>
    rename_i v' vs' u us
    rw[List.all_cons,Bool.and_eq_true] at ok
    have h:∃ d v',Rep X.K ρ H d v'/\aJ v' u/\okD M eqN d=true:=⟨d,_,r,q,ok.1⟩
    rw[List.any_cons,List.any_cons,ih t t' ok.2,dif_pos h]
    obtain⟨v2,p1,p2,p3⟩:=h.choose_spec
    have ev:=aJ.inj p2 q
    subst ev
    rw[nH I sm eqN _ d x _ p1 r p3 ok.1]
theorem yY(neg:Bool)(hr:Room k X.A):OpD X (compareOp (if neg then .NotIn else .In)) (CG neg):=by
 intro pins s σ H vx vy v u R I rx ry ⟨x,y,M,ρ,Q,sm,r1,r2,q,k⟩
 cases r2 with
 | non=>exact q.elim
 | bl b=>exact q.elim
 | int b=>exact q.elim
 | ty b=>exact q.elim
 | str z =>
  cases r1 with
  | str p =>
   obtain⟨t,rfl⟩:=rx
   obtain⟨t',rfl⟩:=ry
   cases neg with
   | false=>exact in_str (dW I sm k (by simpa [CG] using q))
   | true=>exact notIn_str (dW I sm k (by simpa [CG] using q))
  | _=>exact q.elim
 | @tup a ws ys hq r =>
  cases ry
  obtain⟨⟨o1,o2⟩,q⟩:=(show (okD M eqN x=true/\_)/\_ from q)
  obtain⟨its,rr,pl,hz⟩:=I.tuple hq
  obtain⟨e,he,ee⟩:=we hr I sm r1 rx o1 r rr o2
  have ea:its.toArray.any e=inD M x ys:=by rw[← ee]; simp
  cases neg with
  | false=>exact SeqAt.in_tupleAt e pl (fun w hw=>he w (by simpa using hw)) (by rw[ea]; exact dW I sm k (by simpa using q))
  | true=>exact SeqAt.notIn_tupleAt e pl (fun w hw=>he w (by simpa using hw)) (by rw[ea]; exact dW I sm k (by simpa using q))
 | ref h =>
  cases ry
  obtain⟨ys,hL,⟨o1,o2⟩,q⟩:=(show ∃ ys,ao M _ ys/\(okD M eqN x=true/\_)/\_ from q)
  obtain⟨ws,hq,r⟩:=ao.seq sm hL h
  obtain⟨its,rr,pl,hz⟩:=I.list hq
  obtain⟨e,he,ee⟩:=we hr I sm r1 rx o1 r rr o2
  have ea:its.toArray.any e=inD M x ys:=by rw[← ee]; simp
  cases neg with
  | false=>exact SeqAt.in_listAt e pl.isList (fun w hw=>he w (by simpa using hw)) (by rw[ea]; exact dW I sm k (by simpa using q))
  | true=>exact SeqAt.notIn_listAt e pl.isList (fun w hw=>he w (by simpa using hw)) (by rw[ea]; exact dW I sm k (by simpa using q))
theorem od_in(hr:Room k X.A):OpD X (compareOp .In) qIn:=yY false hr
theorem xG(hr:Room k X.A):OpD X (compareOp .NotIn) iI:=yY true hr
end
end L2
set_option maxRecDepth 100000
namespace L2
open PySem PySem.Spec PyProof.Rows DL
theorem EY:bootBuiltins "len" = some (.builtin "len"):=by decide +kernel
theorem lX:bootBuiltins "isinstance" = some (.builtin "isinstance"):=by decide +kernel
theorem oi:bootBuiltins "sorted" = some (.builtin "sorted"):=by decide +kernel
theorem BP:bootBuiltins "list" = some (.type "list"):=by decide +kernel
theorem yI:bootBuiltins "tuple" = some (.type "tuple"):=by decide +kernel
theorem BR:bootBuiltins "dict" = some (.type "dict"):=by decide +kernel
def visB(sc:Scope)(x:Str):Bool:=match sc.names.lookup x with
 | some .local=>true
 | some .cell=>true
 | some .free=>true
 | _=>false
theorem Ch(h:visB sc x=true):Vis sc x:=by
 unfold visB at h
 unfold Vis
 split at h
 ·rename_i e; exact .inl e
 ·rename_i e; exact .inr (.inl e)
 ·rename_i e; exact .inr (.inr e)
 ·cases h
def BX(sc:Scope)(x:Str):Bool:=match sc.names.lookup x with
 | some .local=>true
 | some .cell=>true
 | _=>false
theorem vF(h:BX sc x=true):Loc sc x:=by
 unfold BX at h
 unfold Loc
 split at h
 ·rename_i e; exact .inl e
 ·rename_i e; exact .inr e
 ·cases h
structure HE(X:Cx)(e:Expr)(t:DTE):Prop where
 ok:DE X e t
structure HT(X:Cx)(e:Expr)(t:DTT):Prop where
 ok:DT X e t
structure HW(X:Cx)(e:Expr)(t:DTT):Prop where
 ok:DW X e t
structure HA(X:Cx)(es:List Expr)(t:DTA):Prop where
 ok:DA X es t
structure HS(X:Cx)(e:Stmt)(t:DTS):Prop where
 ok:DS X e t
structure HB(X:Cx)(e:List Stmt)(t:DTS):Prop where
 ok:DSs X e t
structure HG(X:Cx)(e:Expr)(t:DTG):Prop where
 ok:DG X e t
structure HI(X:Cx)(tg e:Expr)(t:DTI):Prop where
 ok:DI X tg e t
structure HTs(X:Cx)(e:List Expr)(t:DTT):Prop where
 ok:PTs X e (lowT X.K t)
structure HO'(X:Cx)(e:Option Expr)(t:DTO):Prop where
 ok:PO X e (Dz X.K t)
structure HOp(X:Cx)(f:Value->Value->Sem Value)(r:DR2):Prop where
 ok:OpD X f r
structure HUn(X:Cx)(f:Value->Sem Value)(r:DR1):Prop where
 ok:UnD X f r
structure HC(X:Cx)(f:Value)(r:DRA):Prop where
 ok:jI X f r
structure HMs(X:Cx)(name:Str)(r:Str->DRA):Prop where
 ok:∃ id,Slot "str" name id/\typeOf (.builtin id)=pure (.type "method_descriptor")/\MtR X id (lowMs X.K r)
structure HMl(X:Cx)(name:Str)(r:Nat->DRA):Prop where
 ok:∃ id,Slot "list" name id/\typeOf (.builtin id)=pure (.type "method_descriptor")/\MtR X id (sN X.K r)
section
variable{X:Cx}{e a b c o:Expr}{es aN:List Expr}{te ta tb tc to:DTE}{t:DTA}{pos p:Pos}{x:Str}{tA tB:DTT}{k:Nat}
theorem DH(hN:X.N[i]?=some x:=by kernel_rfl)(hv:visB X.env.scope x=true:=by kernel_rfl)(hd:(x==("__debug__":Str))=false:=by kernel_rfl)
  (hcd:(x==("__classdict__":Str))=false:=by kernel_rfl):HE X (.Name x pos) (ac i):=⟨d_var hN (Ch hv) hd hcd⟩
theorem DR:HE X (.Constant (.int i) j pos) (dC (.int i)):=⟨d_int⟩
theorem k_bl:HE X (.Constant (.bool i) j pos) (dC (.bl i)):=⟨d_bl⟩
theorem DO:HE X (.Constant .none j pos) (dC .non):=⟨d_non⟩
theorem DM:HE X (.Constant (.str i) j pos) (dC (.str i)):=⟨d_str⟩
theorem zq(hm:X.mg x=none)(hv:bootBuiltins x=some (.type T))(hg:X.env.kindOf x=some .globalImplicit:=by kernel_rfl)(hn:(x==("__name__":Str))=false:=by kernel_rfl)(hb:(x==("__debug__":Str))=false:=by kernel_rfl):HE X (.Name x pos) (dC (.ty T)) :=
 ⟨EN hm hv hg (by simpa using hn) hb⟩
theorem k_op(ho:HOp X (binaryOp op) r)(ha:HE X a ta)(hb:HE X b tb):HE X (.BinOp a op b pos) (dOp r ta tb):=⟨d_op ho.ok ha.ok hb.ok⟩
theorem DU(ho:HOp X (compareOp op) r)(ha:HE X a ta)(hb:HE X b tb)(hm:behindInMarks op b=false:=by kernel_rfl):HE X (.Compare a [op] [b] pos) (dOp r ta tb):=⟨d_cmp ho.ok ha.ok hb.ok hm⟩
theorem zf(ho:HOp X (compareOp op) r)(ha:HE X a ta)(hb:HE X b tb)(hm:behindInMarks op b=false:=by kernel_rfl):HT X (.Compare a [op] [b] pos) (aA (dOp r ta tb)):=⟨Ex ho.ok ha.ok hb.ok hm⟩
theorem zd(h:HE X e te)(he:∀ whole,isTrue e X.env whole=(do let v ← whole; standAt e.pos; holding [v] (truthy v)):=by intro _; kernel_rfl):HT X e (aA te):=⟨Eu h.ok he⟩
theorem vM(ha:HT X a tA):HW X (.BoolOp .And [a] pos) tA:=⟨Bs ha.ok⟩
theorem za(ha:HT X a tA):HW X (.BoolOp .Or [a] pos) tA:=⟨Es ha.ok⟩
theorem qV(ha:HT X a tA)(hb:HW X (.BoolOp .And (b::aN) pos) tB):HW X (.BoolOp .And (a::b::aN) pos) (yD tA tB):=⟨Et ha.ok hb.ok⟩
theorem xX(ha:HT X a tA)(hb:HW X (.BoolOp .Or (b::aN) pos) tB):HW X (.BoolOp .Or (a::b::aN) pos) (dOr tA tB):=⟨dw_or ha.ok hb.ok⟩
theorem kw_t(h:HW X e tA):HT X e tA:=⟨dw_t h.ok⟩
theorem ze(ha:HT X a tA):HT X (.UnaryOp .Not a pos) (ET tA):=⟨Ew ha.ok⟩
theorem DN{op}(h:HE X a ta):HE X (.BoolOp op [a] pos) ta:=⟨d_one h.ok⟩
theorem DX(ha:HE X a ta)(hb:HE X (.BoolOp .And (b::aN) pos) tb):HE X (.BoolOp .And (a::b::aN) pos) (tD ta tb):=⟨d_and ha.ok hb.ok⟩
theorem k_or(ha:HE X a ta)(hb:HE X (.BoolOp .Or (b::aN) pos) tb):HE X (.BoolOp .Or (a::b::aN) pos) (dOrV ta tb):=⟨d_or ha.ok hb.ok⟩
theorem zp:HA X [] ah:=⟨EM⟩
theorem vZ(ha:HE X e te)(hr:HA X es t)(hs:starEach (e::es) X.env=(false,eval e X.env)::starEach es X.env:=by kernel_rfl):HA X (e::es) (ab te t):=⟨BF ha.ok hr.ok hs⟩
theorem DJ{x1}(h:HA X es t):HE X (.Tuple es x1 pos) (eY t):=⟨d_tup h.ok⟩
theorem DP(h:HA X es t):HE X (.List es pos) (ji t):=⟨d_lst h.ok⟩
theorem wc{id:String}{r:DRA}(hc:HC X (.builtin id) r)(hm:X.mg x=none)(hv:bootBuiltins x=some (.builtin id))(ha:HA X (e::es) t)(hg:X.env.kindOf x=some .globalImplicit:=by kernel_rfl)(hn:(x==("__name__":Str))=false:=by kernel_rfl)(hdb:(x==("__debug__":Str))=false:=by kernel_rfl)
  (he:starEach (e::es) X.env=(false,eval e X.env)::starEach es X.env:=by kernel_rfl) (hpl:(backTo pos (starEach es X.env)).any (·.1)=false:=by kernel_rfl):HE X (.Call (.Name x p) (e::es) [] pos) (dCB r t):=⟨BI hc.ok hm hv ha.ok hg (by simpa using hn) hdb he hpl⟩
theorem rA(hc:HC X (.type T) r)(hm:X.mg x=none)(hv:bootBuiltins x=some (.type T))(ha:HA X (e::es) t)(hg:X.env.kindOf x=some .globalImplicit:=by kernel_rfl)(hn:(x==("__name__":Str))=false:=by kernel_rfl)(hdb:(x==("__debug__":Str))=false:=by kernel_rfl)
  (he:starEach (e::es) X.env=(false,eval e X.env)::starEach es X.env:=by kernel_rfl) (hpl:(backTo pos (starEach es X.env)).any (·.1)=false:=by kernel_rfl):HE X (.Call (.Name x p) (e::es) [] pos) (dCB r t):=⟨yB hc.ok hm hv ha.ok hg (by simpa using hn) hdb he hpl⟩
theorem DV(C:Cal X.prog X.w X.K X.mg X.base j x ps P)(hr:Room k X.A)(ha:HA X (e::es) t)(hj:Nat.ble j k=true:=by kernel_rfl)
  (hg:X.env.kindOf x=some .globalImplicit:=by kernel_rfl) (hdb:(x==("__debug__":Str))=false:=by kernel_rfl) (he:starEach (e::es) X.env=(false,eval e X.env)::starEach es X.env:=by kernel_rfl) (hpl:(backTo pos (starEach es X.env)).any (·.1)=false:=by kernel_rfl) :
  HE X (.Call (.Name x p) (e::es) [] pos) (dCB P t):=⟨d_cal C hr ha.ok (Nat.le_of_ble_eq_true hj) hg hdb he hpl⟩
theorem k_ix(ha:HE X a ta)(hb:HE X b tb)(hs:pQ b:=by intro _ _; kernel_rfl):HE X (.Subscript a b pos) (dOp qIx ta tb):=⟨d_ix ha.ok hb.ok hs⟩
theorem vT:HO' X none dY:=⟨BA⟩
theorem vS(h:HE X e te):HO' X (some e) (jE te):=⟨Bz h.ok⟩
theorem wb{lo hi:Option Expr}{tl th:DTO}{p2:Pos}(he:HE X e te)(hl:HO' X lo tl)(hu:HO' X hi th):HE X (.Subscript e (.Slice lo hi none p2) pos) (dSl te tl th):=⟨BH he.ok hl.ok hu.ok⟩
variable{name:Str}{apos cpos:Pos}
theorem k_ml(hm:HMl X name r)(ho:HE X o to)(ha:HA X (e::es) t)
  (hbase:attributeBase o name X.env (eval o X.env)=eval o X.env:=by kernel_rfl)
  (hfew:((backTo cpos (starEach (e::es) X.env)).all (fun x=>!x.1)&&(backToKw cpos (keywordEach [] X.env)).all (fun x=>x.1.isSome)
   && decide ((e::es).length+([]:List Keyword).length+(if ([]:List Keyword).isEmpty then 0 else 1) < 30))=true:=by kernel_rfl)
  (hline:(apos.endLine==cpos.line)=true:=by kernel_rfl) (hs:starEach (e::es) X.env=(false,eval e X.env)::starEach es X.env:=by kernel_rfl) (hplain:(backTo cpos (starEach es X.env)).any (·.1)=false:=by kernel_rfl) :
  HE X (.Call (.Attribute o name apos) (e::es) [] cpos) (dMl r to t):=let ⟨_,h1,h2,h3⟩:=hm.ok; ⟨d_ml h1 h2 h3 ho.ok ha.ok hbase hfew hline hs hplain⟩
variable{st:Stmt}{sts:List Stmt}{ts us:DTS}{aS bS:List Stmt}
theorem zh:HB X [] bg:=⟨EB⟩
theorem zg(h:HS X st ts):HB X [st] ts:=⟨EA h.ok⟩
theorem vR(h1:HS X st ts)(h2:HB X sts us):HB X (st::sts) (aB ts us):=⟨By h1.ok h2.ok⟩
theorem lL(he:HE X e te)(hs:swapsWith e none pos.line X.env=pure false:=by kernel_rfl):HS X (.Expr e pos) (jk te):=⟨Bx he.ok hs⟩
theorem qX(he:HE X e te):HS X (.Return (some e) pos) (bC te):=⟨Ez he.ok⟩
theorem xZ(hc:HT X c tA)(ha:HB X aS ts)(hb:HB X bS us):HS X (.If c aS bS pos) (dIf tA ts us):=⟨ds_if hc.ok ha.ok hb.ok⟩
theorem qW(hN:X.N.Nodup)(he:HE X e te)(hi:X.N[i]?=some x:=by kernel_rfl)(hx:BX X.env.scope x=true:=by kernel_rfl)(hs:swapsWith e (some (.Name x pos')) pos.line X.env=pure false:=by kernel_rfl)
  (hf:X.fn x=true:=by kernel_rfl):HS X (.Assign [.Name x pos'] e pos) (aZ te i):=⟨Ey hN he.ok hi (vF hx) hs (.inl hf)⟩
theorem vV(hN:X.N.Nodup)(hi:X.N[i]?=some x:=by kernel_rfl)(hx:BX X.env.scope x=true:=by kernel_rfl)(hf:X.fn x=true:=by kernel_rfl):HG X (.Name x pos) (au i):=⟨pH hN hi (vF hx) (.inl hf)⟩
theorem zm(hN:X.N.Nodup)(hi:X.N[i]?=some x:=by kernel_rfl)(hf:X.env.scope.names.lookup x=some .local:=by kernel_rfl):HG X (.Name x pos) (au i):=⟨pH hN hi (.inl hf) (.inr hf)⟩
variable{tg iter:Expr}{di:DTI}{g:DTG}
theorem zi(h:HE X e te):HI X tg e (cJ te):=⟨EH h.ok⟩
theorem qY{body:List Stmt}{tb:DTS}(hi:HI X tg iter di)(hg:HG X tg g)(hb:HB X body tb)(hp:PassesOwn (model X.prog X.w) X.A X.env X.xe:=by exact PassesOwn.never)(hc:X.calm=true:=by kernel_rfl)
  (hs:∀ x,foldedSetIterable iter X.env x=pure x:=by intro _; kernel_rfl):HS X (.For tg iter body [] pos) (nR di g tb):=⟨EC hi.ok hg.ok hb.ok hp hc hs⟩
theorem vQ:HTs X [] tw:=⟨Bu⟩
theorem vP(h:HT X c tA):HTs X [c] tA:=⟨Bt h.ok⟩
theorem k_lc(hi:HI X tg iter di)
  (hg:∀ cl s0 H0 ex,HG (blk X N' scope cl s0 H0 ex) tg g) (ht:∀ cl s0 H0 ex,HTs (blk X N' scope cl s0 H0 ex) ifs tt) (he:∀ cl s0 H0 ex,HE (blk X N' scope cl s0 H0 ex) elt te) (B:kJ X.env.scope.names X.N N' nt js scope=true:=by kernel_rfl) (hc:X.calm=true:=by kernel_rfl)
  (hs:∀ x,foldedSetIterable iter X.env x=pure x:=by intro _; kernel_rfl):HE X (.ListComp elt [⟨tg,iter,ifs,0⟩] scope pos) (dLC nt js di g tt te):=⟨d_lc (BlkSc.chk B) hi.ok (fun cl s0 H0 ex=>(hg cl s0 H0 ex).ok) (fun cl s0 H0 ex=>(ht cl s0 H0 ex).ok) (fun cl s0 H0 ex=>(he cl s0 H0 ex).ok) hc hs⟩
theorem nq(hm:X.mg "range" = none)(ha:HA X [a] t)(hg:X.env.kindOf "range" = some .globalImplicit:=by kernel_rfl)(hs:starEach [a] X.env=[(false,eval a X.env)]:=by kernel_rfl):HI X tg (.Call (.Name "range" p) [a] [] pos) (dm t):=⟨wC hm ha.ok hg hs⟩
theorem np(hm:X.mg "range" = none)(ha:HA X [a,b] t)(hg:X.env.kindOf "range" = some .globalImplicit:=by kernel_rfl)(hs:starEach [a,b] X.env=[(false,eval a X.env),(false,eval b X.env)]:=by kernel_rfl)(hs2:starEach [b] X.env=[(false,eval b X.env)]:=by kernel_rfl) :
  HI X tg (.Call (.Name "range" p) [a,b] [] pos) (lU t):=⟨wB hm ha.ok hg hs hs2⟩
theorem zw:HOp X (binaryOp .Sub) CC:=⟨Dp⟩
theorem zB:HOp X (binaryOp .Mult) kZ:=⟨AL⟩
theorem wj:HOp X (binaryOp .FloorDiv) oO:=⟨AM⟩
theorem zC:HOp X (binaryOp .Mod) sD:=⟨Ds⟩
theorem Ec:HOp X (compareOp .Lt) qLt:=⟨Du⟩
theorem Ef:HOp X (compareOp .Gt) qGt:=⟨od_gt⟩
theorem Ed:HOp X (compareOp .Is) qIs:=⟨od_is⟩
theorem rD:HOp X (compareOp .IsNot) kt:=⟨xH⟩
theorem Eg(hr:Room k X.A):HOp X (compareOp .Eq) qEq:=⟨od_eq hr⟩
theorem Eb(hr:Room k X.A):HOp X (compareOp .NotEq) qNe:=⟨od_ne hr⟩
theorem Ee(hr:Room k X.A):HOp X (compareOp .In) qIn:=⟨od_in hr⟩
theorem rC(hr:Room k X.A):HOp X (compareOp .NotIn) iI:=⟨xG hr⟩
theorem zF:HC X (.builtin "len") kr:=⟨EV⟩
theorem zG:HC X (.builtin "isinstance") CF:=⟨EW⟩
theorem nE:HMl X "append" cr:=⟨_,PySem.F.slot_list_append,PySem.F.type_list_append,sK⟩
end
theorem Cal.byH{P:Program}{w:World}{K:PySem.W.Frag}{mg:Str->Option Value}{base:Heap}{x:Str}{st:Stmt}{N ps:List Str}{k:Nat}{Pr:DSp}(F:cR K mg x st ps)(Sc:FnScope N ps (am st))
  (len:∀ ds M R,Pr ds M R->ds.length=ps.length) {t:DTS}
  (der:∀ (f:Addr) (cdv:Value) (A:Around) (outer:List Env) (s:Shared) (H:Hp) (E:XK),Room k (A.deeper (envOfC x (am st) s.heap.objs.size f cdv))->HB (nS CX0 P w K mg base N x (am st) f cdv A outer s H E).nox (bu st) t)
  (wp:∀ ds M R,Pr ds M R->t ⟨fun _ M'=>bx M R .non M',bx M R,fun _ _=>False,fun _ _=>False⟩ (bR N ds) M):Cal P w K mg base (k+1) x ps Pr :=
 Cal.of F Sc len (fun f cdv A outer s H E hr=>(der f cdv A outer s H E hr).ok) wp
theorem yk{P:Program}{w:World}{K:PySem.W.Frag}{mg:Str->Option Value}{base:Heap}{x:Str}{st:Stmt}{N ps:List Str}{k:Nat}{Pr:DSp}{f:Addr}{fd:FuncData}(F:Fun K x x st f fd)(Sc:FnScope N ps (am st))
  (len:∀ ds M R,Pr ds M R->ds.length=ps.length) {t:DTS}
  (der:∀ (f:Addr) (cdv:Value) (A:Around) (outer:List Env) (s:Shared) (H:Hp) (E:XK),Room k (A.deeper (envOfC x (am st) s.heap.objs.size f cdv))->HB (nS CX0 P w K mg base N x (am st) f cdv A outer s H E).nox (bu st) t)
  (wp:∀ ds M R,Pr ds M R->t ⟨fun _ M'=>bx M R .non M',bx M R,fun _ _=>False,fun _ _=>False⟩ (bR N ds) M):FnOk P w K mg base CX0 (k+1) f fd ps (spL K Pr) :=
 Bp F Sc len (fun f cdv A outer s H E hr=>(der f cdv A outer s H E hr).ok) wp
end L2
set_option maxRecDepth 100000
namespace L2
open PySem PySem.Spec PyProof.Rows DL
section
variable{ok:Mem->Prop}{g:DTG}{tb:DTS}{E:DEnds}{k0:Mem}
theorem iq(I:List D->SD->Mem->Prop)(h0:∀ S M,I [] S M->ok M/\E.nx S M)
  (h1:∀ x xs S M,I (x::xs) S M->∀ L:SD->Mem->Prop,(∀ S' M',I xs S' M'->L S' M')->ok M/\g x S M fun S2 M2=>tb ⟨Fgt k0 L,E.rt,E.nx,Fgt k0 L⟩ S2 M2) :
  ∀ xs S M,I xs S M->nQ ok g tb E k0 xs S M
 | [],S,M,h=>h0 S M h
 | x::xs,S,M,h=>h1 x xs S M h _ (iq I h0 h1 xs)
theorem bD(I:Nat->SD->Mem->Prop)(h0:∀ S M,I xs.length S M->ok M/\E.nx S M)
  (h1:∀ i x S M,xs[i]?=some x->I i S M->∀ L:SD->Mem->Prop,(∀ S' M',I (i+1) S' M'->L S' M')->ok M/\g x S M fun S2 M2=>tb ⟨Fgt k0 L,E.rt,E.nx,Fgt k0 L⟩ S2 M2)
 (h:I 0 S M):nQ ok g tb E k0 xs S M:=by
 refine iq (fun ys S M=>∃ i,xs.drop i=ys/\i+ys.length=xs.length/\I i S M) ?_ ?_ xs S M ⟨0,rfl,by simp,h⟩
 ·rintro S M ⟨i,_,e,q⟩
  have:i=xs.length:=by simpa using e
  subst this
  exact h0 S M q
 ·rintro x ys S M ⟨i,e,el,q⟩ L hL
  have hx:xs[i]?=some x:=by
   have:(xs.drop i)[0]?=some x:=by rw[e]; rfl
   simpa using this
  refine h1 i x S M hx q L fun S' M' q'=>hL S' M' ⟨i+1,?_,by simp at el; lia,q'⟩
  rw[← List.drop_drop,e]
  rfl
theorem Fgt.now(h:P S M):Fgt k0 P S M:=.inl h
theorem eI{lo:Int}{n i:Nat}{x:D}:(oq lo n)[i]?=some x↔i < n/\x=.int (lo+(i:Int)):=by
 unfold oq
 rw[List.getElem?_map]
 by_cases h:i < n
 ·simp[h,eq_comm]
 ·simp[h]
theorem fN{lo:Int}{n:Nat}:(oq lo n).length=n:=by simp[oq]
end
theorem bv(p:D->Bool)(f:D->D)(I:SD->Prop)(hok:ok M) :
  ∀ (xs acc:List D) (S:SD),(∀ x∈xs,∀ S,I S->∃ S',I S'/\∀ (Y:D->SD->Mem->Prop) (Z:SD->Mem->Prop),(if p x=true then Y (f x) S' M else Z S' M) ->
    g x S M fun S2 M2=>tt S2 M2 fun b M3=>if b=true then te S2 M3 fun y M4=>Y y S2 M4 else Z S2 M3) ->
   I S->acc.length+xs.length<=sizeLine->Q (.ref M.length) (M++[.lst (acc++(xs.filter p).map f)])->jF ok g tt te Q xs acc S M
 | [],acc,S,_,_,_,q=>⟨hok,by simpa using q⟩
 | x::xs,acc,S,step,hS,hl,q=>by
  obtain⟨S',hS',k⟩:=step x List.mem_cons_self S hS
  refine⟨hok,k (fun y S2 M4=>acc.length < sizeLine/\jF ok g tt te Q xs (acc++[y]) S2 M4) (fun S2 M3=>jF ok g tt te Q xs acc S2 M3) ?_⟩
  have step':=fun y hy=>step y (List.mem_cons_of_mem _ hy)
  rw[List.length_cons] at hl
  by_cases hp:p x=true
  ·rw[if_pos hp]
   refine⟨by lia,bv p f I hok xs _ S' step' hS' (by rw[List.length_append,List.length_singleton]; lia) ?_⟩
   rw[List.filter_cons_of_pos hp,List.map_cons] at q
   rw[List.append_assoc]
   exact q
  ·rw[if_neg hp]
   refine bv p f I hok xs acc S' step' hS' (by lia) ?_
   rw[List.filter_cons_of_neg hp] at q
   exact q
theorem cw(f:D->D)(I:SD->Prop)(hok:ok M)
  (xs acc:List D) (S:SD) (step:∀ x∈xs,∀ S,I S->∃ S',I S'/\∀ (Y:D->SD->Mem->Prop),Y (f x) S' M->g x S M fun S2 M2=>te S2 M2 fun y M4=>Y y S2 M4)
  (hS:I S) (hl:acc.length+xs.length<=sizeLine) (q:Q (.ref M.length) (M++[.lst (acc++xs.map f)])):jF ok g tw te Q xs acc S M:=by
 refine bv (fun _=>true) f I hok xs acc S (fun x hx S hS=>?_) hS hl (by rw[List.filter_eq_self.mpr fun _ _=>rfl]; exact q)
 obtain⟨S',hS',k⟩:=step x hx S hS
 refine⟨S',hS',fun Y Z h=>?_⟩
 rw[if_pos rfl] at h
 have:=k Y h
 simp only[tw,if_true]
 exact this
theorem af:(M++[mo])[M.length]?=some mo:=by simp
theorem aC:ao (M++[.lst xs]) M.length xs:=.inl af
theorem ao.more(h:ao M n xs)(L:Mem):ao (M++L) n xs:=by
 have key:∀ {mo:MO},M[n]?=some mo->(M++L)[n]?=some mo:=fun e=>by
  rw[List.getElem?_append_left (List.getElem?_eq_some_iff.mp e).1]; exact e
 rcases h with h | h | h
 ·exact .inl (key h)
 ·exact .inr (.inl (key h))
 ·exact .inr (.inr (key h))
theorem bx.keep(h:R d M)(b:Bel M.length d)(p:M <+: M'):bx M R d M':=.inr (.inl ⟨M,.refl,b,p,h⟩)
theorem bx.now(h:R d M):bx M R d M:=.inl h
theorem bx.bl(h:R (.bl b) M)(p:M <+: M'):bx M R (.bl b) M':=.keep h (.bl b) p
theorem fS:M <+: M++[mo]:=List.prefix_append _ _
theorem zX{a b:Str}(h:a.cps.toList=b.cps.toList):a=b:=by
 cases a; cases b
 simp only[Array.toList_inj] at h
 simpa using h
theorem jb{a:Str}:a.length=a.cps.toList.length:=by show a.cps.size=_; simp
theorem BS{a b:Str}:(a++b).cps.toList=a.cps.toList++b.cps.toList:=by
 show (a.cps++b.cps).toList=_
 simp
theorem bL{a b:Str}:(a++b).length=a.length+b.length:=by
 rw[jb,jb,jb,BS,List.length_append]
theorem ap(h:n<=1000):n<=sizeLine:=Nat.le_of_lt (aO h)
theorem fe{α:Type}{xs:List α}{i:Int}(h0:0<=i)(h1:i < xs.length):∃ (j:Nat) (hj:j < xs.length),atI xs i=some xs[j]/\(j:Int)=i:=by
 have hj:i.toNat < xs.length:=by lia
 refine⟨i.toNat,hj,?_,by lia⟩
 have e:i=((i.toNat:Nat):Int):=by lia
 have q:atI xs ((i.toNat:Nat):Int)=some xs[i.toNat]:=ay (List.getElem?_eq_getElem hj)
 rw[← e] at q
 exact q
section
variable{M:Mem}
end
section
variable{M:Mem}
theorem ao.get(h:ao M n xs):∃ mo,M[n]?=some mo/\mo.items=xs/\mo.isL=true:=by
 rcases h with h | h | h <;> exact⟨_,h,rfl,rfl⟩
theorem rJ(h1:ao M i xs)(h2:ao M j ys):eqD M (n+1) (.ref i) (.ref j)=eqL (eqD M n) xs ys:=by
 obtain⟨a,ha,rfl,hl1⟩:=h1.get
 obtain⟨b,hb,rfl,hl2⟩:=h2.get
 simp only[eqD,ha,hb]
theorem lD(h1:ao M i xs)(h:∀ x∈xs,okD M n x=true):okD M (n+1) (.ref i)=true:=by
 obtain⟨a,ha,rfl,hl1⟩:=h1.get
 simp only[okD,ha,hl1,Bool.true_and]
 exact List.all_eq_true.mpr h
theorem AJ(h:∀ x∈xs,okD M n x=true):okD M (n+1) (.tup xs)=true:=by
 simp only[okD]
 exact List.all_eq_true.mpr h
theorem az:okD M n (.str x)=true:=by cases n <;> rfl
theorem lE:okD M n (.int x)=true:=by cases n <;> rfl
theorem yX:okD M n (.bl x)=true:=by cases n <;> rfl
theorem vn:okD M n .non=true:=by cases n <;> rfl
theorem Bq:eqL f xs []=xs.isEmpty:=by cases xs <;> rfl
theorem jg:eqD M n (.int a) (.int b)=(a==b):=by cases n <;> rfl
theorem bp:eqD M n (.str a) (.str b)=(a==b):=by cases n <;> rfl
end
end L2
set_option maxRecDepth 100000
namespace L2
open PySem PySem.Spec PyProof.Rows DL
section
variable{X:Cx}{pos:Pos}
def nO:zO:=fun ds S M Q=>match ds with
 | []=>Q S M
 | _=>False
def bT(t:DTG)(u:zO):zO:=fun ds S M Q=>match ds with
 | d::r=>t d S M fun S' M'=>u r S' M' Q
 | []=>False
def nN(n:Nat)(t:zO):DTG:=fun d S M Q=>match d with
 | .tup ds=>ds.length=n/\t ds S M Q
 | _=>False
theorem BB:DGs X [] nO:=by
 intro pins s σ H vs us R I r ⟨ds,S,M,ρ,Q,sm,sr,rr,q,k⟩
 cases rr with
 | nil=>exact At pins s σ H _ us R I r ⟨rfl,k σ H ⟨S,M,ρ,sm,.refl,sr,q⟩⟩
 | cons _ _=>exact q.elim
theorem yy(h1:DG X e t)(h2:DGs X es u)
  (hs:(assignEach (e::es) X.env).map (·.2)=assign e X.env::(assignEach es X.env).map (·.2):=by rfl):DGs X (e::es) (bT t u):=by
 intro pins s σ H vs us R I r ⟨ds,S,M,ρ,Q,sm,sr,rr,q,k⟩
 cases rr with
 | nil=>exact q.elim
 | cons r1 rr =>
  refine xy h1 h2 hs pins s σ H _ us R I r ⟨_,_,rfl,_,S,M,ρ,_,sm,sr,r1,q,fun σ1 H1 ⟨S1,M1,ρ1,s1,g1,sr1,q1⟩=>?_⟩
  exact⟨_,S1,M1,ρ1,Q,s1,sr1,rr.grow g1,q1,fun σ' H' w=>k σ' H' (SQ.trans g1 w)⟩
theorem EI(h:DGs X es t)(hc:X.calm=true:=by rfl)
  (hn:(assignEach es X.env).length=n:=by rfl) (hst:(assignEach es X.env).findIdx? (·.1)=none:=by rfl):DG X (.Tuple es j pos) (nN n t):=by
 intro pins s σ H v u R I r ⟨d,S,M,ρ,Q,sm,sr,rd,q,k⟩
 cases rd with
 | tup hq rr=>exact CS hc h hn hst pins s σ H _ u R I r ⟨_,_,rfl,hq,by rw[← rr.length]; exact q.1,_,S,M,ρ,Q,sm,sr,rr,q.2,k⟩
 | _=>exact q.elim
def dAsg(te:DTE)(g:DTG):DTS:=fun E S M=>te S M fun d M1=>g d S M1 E.nx
theorem ED(he:DE X e te)(hg:DG X tg g)(hs:swapsWithSole [tg] e pos.line X.env=pure false:=by rfl)(hw:swappedStores [tg] e X.env=pure none:=by rfl)
  (h1:(assignEach [tg] X.env).map (·.2)=[assign tg X.env]:=by rfl):DS X (.Assign [tg] e pos) (dAsg te g) :=
 PS.imp (CQ he hg hs hw h1) fun E σ H ⟨S,M,ρ,F,s,sr,q,k⟩=>⟨S,M,ρ,_,s,sr,q,fun v H1 ⟨d,M1,ρ1,s1,g1,r1,q1⟩=>⟨d,S,M1,ρ1,_,s1,sr.grow g1,r1,q1,fun σ' H' w=>k.nx σ' H' (SQ.trans g1 w)⟩⟩
def qSet:D->D->D->Mem->(Mem->Prop)->Prop:=fun o i v M Q=>match o,i with
 | .ref n,.int k=>∃ xs j,M[n]?=some (.lst xs)/\ixN xs.length k=some j/\Q (M.set n (.lst (xs.set j v)))
 | _,_=>False
theorem Reps.set{K:PySem.W.Frag}{ρ:List Addr}{H:Hp}{d:D}{v:V}(r:Rep K ρ H d v):∀ {ds:List D}{vs:List V} (i:Nat),Reps K ρ H ds vs->Reps K ρ H (ds.set i d) (vs.set i v)
 | _,_,_,.nil=>.nil
 | _,_,0,.cons _ t=>.cons r t
 | _,_,i+1,.cons q t=>.cons q (Reps.set r i t)
def yz(to ti:DTE):DTG:=fun v S M Q=>to S M fun o M1=>ti S M1 fun i M2=>qSet o i v M2 fun M3=>Q S M3
theorem EJ(ho:DE X o to)(hi:DE X i ti)
  (ha:∀ v,assign (.Subscript o i pos) X.env v=(do
   let ov ← holding [v] (eval o X.env)
   let iv ← holding [v,ov] (eval i X.env)
   standAt pos
   holding [v,ov,iv] (setItem ov iv v)
   release [v,ov,iv] []):=by intro _; rfl):DG X (.Subscript o i pos) (yz to ti):=by
 intro pins s σ H v u R I r ⟨d,S,M,ρ,Q,sm,sr,rd,q,k⟩
 refine CT ho hi xn ha pins s σ H v u R I r ⟨S,M,ρ,_,sm,sr,q,fun vo H1 ⟨o',M1,ρ1,s1,g1,r1,q1⟩=>⟨S,M1,ρ1,_,s1,sr.grow g1,q1,fun vi H2 ⟨i',M2,ρ2,s2,g2,r2,q2⟩=>?_⟩⟩
 have r1':=r1.grow g2
 cases r1' with
 | @ref n a hn =>
  cases r2 with
  | int j =>
   obtain⟨xs,jj,e,hj,q3⟩:=(show ∃ xs j',M2[n]?=some (.lst xs)/\ixN xs.length j=some j'/\Q S (M2.set n (.lst (xs.set j' d))) from q2)
   obtain⟨vs,hH,rr⟩:=s2.obj n a _ hn e
   obtain⟨w1,w2⟩:=s2.write hn e hH (Reps.set (rd.grow (g1.trans g2)) jj rr)
   exact⟨a,vs,j,jj,rfl,rfl,hH,by rw[← rr.length]; exact hj,k σ _ ⟨S,_,ρ2,w1,(g1.trans g2).trans w2,sr.grow ((g1.trans g2).trans w2),q3⟩⟩
  | _=>exact q2.elim
 | _=>exact q2.elim
def fP:DRA:=fun ds M Q=>match ds with
 | [.ref n]=>∃ xs,ao M n xs/\Q (.tup xs) M
 | [.tup xs]=>Q (.tup xs) M
 | _=>False
theorem yF:jI X (.type "tuple") fP:=by
 refine fE.imp lW fun vs H R ⟨ds,M,ρ,Q,sm,rs,q,k⟩=>?_
 unfold fP at q
 split at q
 ·obtain⟨xs,hL,q⟩:=q
  first | have hzz:=Reps.inv_cons rs | have hzz:=ar.inv_cons rs
  clear rs
  obtain⟨_,_,rfl,r1,rs⟩:=hzz
  cases rs
  obtain⟨_,rfl,e⟩:=Rep.inv_ref r1
  obtain⟨ws,hq,r⟩:=ao.seq sm hL e
  exact⟨_,ws,rfl,.inl ⟨hq,fun l hl=>k _ _ (VQ.laidT sm .refl r hl q)⟩⟩
 ·first | have hzz:=Reps.inv_cons rs | have hzz:=ar.inv_cons rs
  clear rs
  obtain⟨_,_,rfl,r1,rs⟩:=hzz
  cases rs
  cases r1 with
  | tup hq r=>exact⟨_,_,rfl,.inr ⟨hq,k _ H (VQ.now sm (.tup hq r) q)⟩⟩
 ·exact q.elim
theorem xD:OpR X (binaryOp .Add) (fun x y H Q=>∃ a b ys,x=.ref a/\y=.ref b/\SqT X.K H a []/\SqT X.K H b ys/\Q (.ref b) H):=by
 intro pins s σ H x y v u Q I rx ry h
 obtain⟨a,b,ys,rfl,rfl,ha,hb,q⟩:=h
 cases rx
 cases ry
 obtain⟨its,r1,p1,_⟩:=I.tuple ha
 obtain⟨its2,r2,p2,_⟩:=I.tuple hb
 have e:its=[]:=r1.nil_iff.mpr rfl
 subst e
 obtain⟨⟨cls,dd,data,sl⟩,ho,hc,n,hd⟩:=id p1
 obtain⟨⟨cls2,dd2,data2,sl2⟩,ho2,hc2,n2,hd2⟩:=id p2
 simp only at hc hd hc2 hd2
 subst hc hd hc2 hd2
 exact concat_meets ⟨_,ho,rfl⟩ ⟨_,ho2,rfl⟩ noFill_tuple_add seq_tuple_add PySem.F.slot_tuple_add PySem.F.entry_tuple_add (PySem.F.args_tuple_add_2 _ _)
  (tuple_addW0 a b _ _ n n2 dd dd2 sl sl2 (by simp)) ⟨ho,ho2,⟨.ref b,H,I,rfl,q⟩⟩
def bc:DR2:=fun x y M Q=>match x,y with
 | .tup xs,.tup ys=>xs.length+ys.length<=sizeLine/\Q (.tup (xs++ys)) M
 | _,_=>qAdd x y M Q
theorem AN:OpD X (binaryOp .Add) bc:=by
 intro pins s σ H vx vy v u R I rx ry ⟨x,y,M,ρ,Q,sm,r1,r2,q,k⟩
 unfold bc at q
 split at q
 ·rename_i xs ys
  obtain⟨a,vs,rfl,h1,t1⟩:=Rep.inv_tup r1
  obtain⟨b,ws,rfl,h2,t2⟩:=Rep.inv_tup r2
  have l1:=t1.length
  have l2:=t2.length
  cases xs with
  | nil =>
   cases t1
   exact xD pins s σ H _ _ v u R I rx ry ⟨a,b,ws,rfl,rfl,h1,h2,k _ H (VQ.now sm (.tup h2 t2) q.2)⟩
  | cons x0 xs0 =>
   refine AF pins s σ H _ _ v u R I rx ry ⟨a,b,vs,ws,rfl,rfl,h1,h2,?_,by rw[← l1,← l2]; exact q.1,fun z=>?_,fun _ p hp=>k _ _ (VQ.laidT sm .refl (t1.append t2) hp q.2)⟩
   ·intro z
    subst z
    simp at l1
   ·subst z
    have:ys=[]:=by simpa using l2
    subst this
    rw[List.append_nil] at q
    exact k _ H (VQ.now sm (.tup h1 t1) q.2)
 ·exact Dw pins s σ H vx vy v u R I rx ry ⟨x,y,M,ρ,Q,sm,r1,r2,q,k⟩
def iJ(n:Nat):DRA:=fun ds M Q=>match ds with
 | [.ref m]=>∃ xs ys,M[n]?=some (.lst xs)/\M[m]?=some (.lst ys)/\n≠m/\xs.length+ys.length<=sizeLine/\Q .non (M.set n (.lst (xs++ys)))
 | _=>False
theorem sJ:MtR X "list.extend" (sN X.K iJ):=by
 intro pins s σ H x xs v us R I rx rs ⟨n,a,ds,M,ρ,Q,ez,hn,sm,rr,q,k⟩
 unfold iJ at q
 split at q
 ·rename_i m
  obtain⟨ys,zs,e,e2,hne,hl,q⟩:=q
  first | have hzz:=Reps.inv_cons rr | have hzz:=ar.inv_cons rr
  clear rr
  obtain⟨_,_,rfl,r1,rr⟩:=hzz
  cases rr
  obtain⟨b,rfl,hm⟩:=Rep.inv_ref r1
  obtain⟨vs,hH,r⟩:=sm.obj n a _ hn e
  obtain⟨ws,hH2,r2⟩:=sm.obj m b _ hm e2
  obtain⟨w1,w2⟩:=sm.write hn e hH (r.append r2)
  exact vt pins s σ H x _ v us R I rx rs ⟨a,b,vs,ws,ez,rfl,hH,hH2,by rw[← r.length,← r2.length]; exact hl,k _ _ ⟨.non,_,ρ,w1,w2,.non,q⟩⟩
 ·exact q.elim
end
end L2
namespace Srt
open PySem PySem.W PyProof.Rows
def run{α:Type}(c:Nat->Nat->Bool):KasT α->α
 | .ret a=>a
 | .ask i j k=>run c (k (c i j))
theorem eH{α β:Type}{c:Nat->Nat->Bool}{f:α->KasT β}:∀ t:KasT α,run c (t.bind f)=run c (f (run c t))
 | .ret a=>rfl
 | .ask i j k=>eH (k (c i j))
def Bd{α:Type}(n:Nat):KasT α->Prop
 | .ret _=>True
 | .ask i j k=>i < n/\j < n/\∀ b,Bd n (k b)
def All{α:Type}(P:α->Prop):KasT α->Prop
 | .ret a=>P a
 | .ask _ _ k=>∀ b,All P (k b)
theorem All.mono{α:Type}{P Q:α->Prop}(h:∀ a,P a->Q a):∀ t:KasT α,All P t->All Q t
 | .ret a,q=>h a q
 | .ask _ _ k,q=>fun b=>All.mono h (k b) (q b)
theorem All.bind{α β:Type}{P:β->Prop}{f:α->KasT β}:∀ t:KasT α,All (fun a=>All P (f a)) t->All P (t.bind f)
 | .ret a,q=>q
 | .ask _ _ k,q=>fun b=>All.bind (k b) (q b)
theorem Bd.bindA{α β:Type}{n:Nat}{f:α->KasT β}:∀ t:KasT α,Bd n t->All (fun a=>Bd n (f a)) t->Bd n (t.bind f)
 | .ret a,_,q=>q
 | .ask _ _ k,b,q=>⟨b.1,b.2.1,fun x=>Bd.bindA (k x) (b.2.2 x) (q x)⟩
theorem All.run{α:Type}{P:α->Prop}{c:Nat->Nat->Bool}:∀ t:KasT α,All P t->P (Srt.run c t)
 | .ret a,q=>q
 | .ask i j k,q=>All.run (k (c i j)) (q _)
theorem wp_run{α:Type}{cmp:Nat->Nat->(Bool->Shared->Prop)->Shared->Prop}{c:Nat->Nat->Bool}{n:Nat}{s:Shared}{Q:α->Shared->Prop}(hc:∀ i j (C:Bool->Shared->Prop),i < n->j < n->C (c i j) s->cmp i j C s) :
  ∀ t:KasT α,Bd n t->Q (run c t) s->t.kasWp cmp Q s
 | .ret a,_,q=>q
 | .ask i j k,b,q=>hc i j _ b.1 b.2.1 (wp_run hc (k (c i j)) (b.2.2 _) q)
structure Ord(c:Nat->Nat->Bool):Prop where
 irr:∀ a,c a a=false
 tr:∀ a b d,c a b=true->c b d=true->c a d=true
 neg:∀ a b d,c a d=true->c a b=true\/c b d=true
section
variable{c:Nat->Nat->Bool}(O:Ord c)
def le(c:Nat->Nat->Bool)(a b:Nat):Prop:=c b a=false
theorem le_refl(O:Ord c)(a:Nat):le c a a:=O.irr a
theorem le_trans(O:Ord c)(h1:le c a b)(h2:le c b d):le c a d:=by
 unfold le at *
 cases q:c d a with
 | false=>rfl
 | true =>
  rcases O.neg d b a q with h | h
  ·rw[h2] at h; cases h
  ·rw[h1] at h; cases h
theorem le_of_lt(O:Ord c)(h:c a b=true):le c a b:=by
 unfold le
 cases q:c b a with
 | false=>rfl
 | true=>have:=O.tr a b a h q; rw[O.irr] at this; cases this
abbrev at_(p:Array Nat)(k:Nat):Nat:=p.getD k 0
def Up(c:Nat->Nat->Bool)(p:Array Nat)(m:Nat):Prop:=∀ i j,i<=j->j < m->le c (at_ p i) (at_ p j)
def Dn(c:Nat->Nat->Bool)(p:Array Nat)(m:Nat):Prop:=∀ i j,i<=j->j < m->le c (at_ p j) (at_ p i)
def Eqs(c:Nat->Nat->Bool)(p:Array Nat)(a b:Nat):Prop:=∀ i j,a<=i->i < b->a<=j->j < b->le c (at_ p i) (at_ p j)
theorem Up.one(O:Ord c)(p:Array Nat):Up c p 1:=fun i j hij hj=>by
 have:i=j:=by lia
 subst this; exact le_refl O _
theorem Up.snoc(O:Ord c)(h:Up c p n)(h1:1<=n)(hl:le c (at_ p (n-1)) (at_ p n)):Up c p (n+1):=fun i j hij hj=>by
 by_cases hjn:j < n
 ·exact h i j hij hjn
 ·have:j=n:=by lia
  subst this
  by_cases hi:i=j
  ·subst hi; exact le_refl O _
  ·exact le_trans O (h i (j-1) (by lia) (by lia)) hl
theorem Dn.snoc(O:Ord c)(h:Dn c p n)(h1:1<=n)(hl:le c (at_ p n) (at_ p (n-1))):Dn c p (n+1):=fun i j hij hj=>by
 by_cases hjn:j < n
 ·exact h i j hij hjn
 ·have:j=n:=by lia
  subst this
  by_cases hi:i=j
  ·subst hi; exact le_refl O _
  ·exact le_trans O hl (h i (j-1) (by lia) (by lia))
theorem eZ(hj:j<=p.size)(k:Nat):at_ (kas_rev p i j) k=if i<=k/\k < j then at_ p (i+j-1-k) else at_ p k:=by
 have e:=getElem?_mirror_all (xs:=p) (i:=i) hj k
 unfold at_ kas_rev
 rw[Array.getD_eq_getD_getElem?,e]
 by_cases h:i<=k/\k < j
 ·rw[if_pos h,if_pos h,Array.getD_eq_getD_getElem?]
 ·rw[if_neg h,if_neg h,Array.getD_eq_getD_getElem?]
theorem oj(hk:k < p.size)(hd:d<=k)(i:Nat):at_ (bubble p k d) i=if i=k-d then at_ p k else if k-d < i/\i<=k then at_ p (i-1) else at_ p i:=by
 have e:=getElem?_bubble (xs:=p) hk d hd i
 unfold at_
 rw[Array.getD_eq_getD_getElem?,e]
 by_cases h:i=k-d
 ·rw[if_pos h,if_pos h,Array.getD_eq_getD_getElem?]
 ·rw[if_neg h,if_neg h]
  by_cases h':k-d < i/\i<=k
  ·rw[if_pos h',if_pos h',Array.getD_eq_getD_getElem?]
  ·rw[if_neg h',if_neg h',Array.getD_eq_getD_getElem?]
theorem Dn.rev(h:Dn c p n)(hn:n<=p.size):Up c (kas_rev p 0 n) n:=fun i j hij hj=>by
 rw[eZ hn,eZ hn,if_pos ⟨Nat.zero_le _,by lia⟩,if_pos ⟨Nat.zero_le _,hj⟩]
 exact h _ _ (by lia) (by lia)
theorem Dn.revEq(O:Ord c)(h:Dn c p n)(hn:n<=p.size)(he:Eqs c p a n):Dn c (kas_rev p a n) n:=fun i j hij hj=>by
 rw[eZ hn,eZ hn]
 by_cases h1:a<=i/\i < n
 ·by_cases h2:a<=j/\j < n
  ·rw[if_pos h1,if_pos h2]
   exact he _ _ (by lia) (by lia) (by lia) (by lia)
  ·exact absurd ⟨by lia,hj⟩ h2
 ·by_cases h2:a<=j/\j < n
  ·rw[if_neg h1,if_pos h2]
   exact h _ _ (by lia) (by lia)
  ·rw[if_neg h1,if_neg h2]
   exact h _ _ hij hj
theorem pP(O:Ord c):∀ (f n:Nat),1<=n->Up c p n->Up c p (run c (kas_asc p f n))/\n<=run c (kas_asc p f n)/\run c (kas_asc p f n)<=n+f /\
  (run c (kas_asc p f n) < n+f->c (at_ p (run c (kas_asc p f n))) (at_ p (run c (kas_asc p f n)-1))=true)
 | 0,n,_,h=>⟨h,Nat.le_refl _,Nat.le_refl _,fun z=>absurd z (Nat.lt_irrefl _)⟩
 | f+1,n,h1,h=>by
  show Up c p (run c (if c (at_ p n) (at_ p (n-1))=true then .ret n else kas_asc p f (n+1)))/\n<=run c (if c (at_ p n) (at_ p (n-1))=true then .ret n else kas_asc p f (n+1)) /\
   run c (if c (at_ p n) (at_ p (n-1))=true then .ret n else kas_asc p f (n+1))<=n+(f+1)/\(run c (if c (at_ p n) (at_ p (n-1))=true then .ret n else kas_asc p f (n+1)) < n+(f+1) ->
    c (at_ p (run c (if c (at_ p n) (at_ p (n-1))=true then .ret n else kas_asc p f (n+1)))) (at_ p (run c (if c (at_ p n) (at_ p (n-1))=true then .ret n else kas_asc p f (n+1))-1))=true)
  by_cases q:c (at_ p n) (at_ p (n-1))=true
  ·rw[if_pos q]
   exact⟨h,Nat.le_refl _,Nat.le_add_right _ _,fun _=>q⟩
  ·rw[if_neg q]
   obtain⟨a1,a2,a3,a4⟩:=pP O f (n+1) (by lia) (h.snoc O h1 (by unfold le; simpa using q))
   exact⟨a1,by lia,by lia,fun z=>a4 (by lia)⟩
theorem cU:(kas_rev p i j).size=p.size:=mirror_size _ _ _ _
def wT(c:Nat->Nat->Bool)(z n m:Nat)(r:Array Nat×Nat×Nat):Prop:=r.1.size=z/\Dn c r.1 r.2.1/\n<=r.2.1/\r.2.1<=m/\r.2.2+1<=r.2.1/\Eqs c r.1 (r.2.1-(r.2.2+1)) r.2.1
def md(c:Nat->Nat->Bool)(z nrem:Nat)(r:Nat×Array Nat):Prop:=r.2.size=z/\Up c r.2 r.1/\1<=r.1/\r.1<=nrem
def pR(c:Nat->Nat->Bool)(p:Array Nat)(k m:Nat):Prop:=m<=k/\(∀ i,i < m->le c (at_ p i) (at_ p k))/\∀ i,m<=i->i < k->c (at_ p k) (at_ p i)=true
theorem io(O:Ord c):∀ (f:Nat) (p:Array Nat) (n q:Nat),q+1<=n->n+f<=p.size->Dn c p n->Eqs c p (n-(q+1)) n ->
  wT c p.size n (n+f) (run c (kas_desc f p n q))
 | 0,p,n,q,h1,h2,hd,he=>⟨rfl,hd,Nat.le_refl _,Nat.le_refl _,h1,he⟩
 | f+1,p,n,q,h1,h2,hd,he=>by
  have hn:n<=p.size:=by lia
  show wT c p.size n (n+(f+1)) (run c (if c (at_ p n) (at_ p (n-1))=true then (if q > 0 then kas_desc f (kas_rev p (n-(q+1)) n) (n+1) 0 else kas_desc f p (n+1) 0)
   else .ask (at_ p (n-1)) (at_ p n) fun d=>if d=true then .ret (p,n,q) else kas_desc f p (n+1) (q+1)))
  by_cases hc:c (at_ p n) (at_ p (n-1))=true
  ·rw[if_pos hc]
   by_cases hq:q > 0
   ·rw[if_pos hq]
    have hd':Dn c (kas_rev p (n-(q+1)) n) (n+1):=by
     refine(hd.revEq O hn he).snoc O (by lia) ?_
     rw[eZ hn,eZ hn,if_neg (by lia),if_pos ⟨by lia,by lia⟩]
     exact le_trans O (le_of_lt O hc) (he _ _ (by lia) (by lia) (by lia) (by lia))
    have r:=io O f (kas_rev p (n-(q+1)) n) (n+1) 0 (by lia) (by rw[cU]; lia) hd' (fun i j a1 a2 a3 a4=>by
     have:i=n:=by lia
     have:j=n:=by lia
     subst_vars
     exact le_refl O _)
    obtain⟨a1,a2,a3,a4,a5,a6⟩:=r
    exact⟨a1.trans cU,a2,by lia,by lia,a5,a6⟩
   ·rw[if_neg hq]
    have r:=io O f p (n+1) 0 (by lia) (by lia) (hd.snoc O (by lia) (le_of_lt O hc)) (fun i j a1 a2 a3 a4=>by
     have:i=n:=by lia
     have:j=n:=by lia
     subst_vars
     exact le_refl O _)
    obtain⟨a1,a2,a3,a4,a5,a6⟩:=r
    exact⟨a1,a2,by lia,by lia,a5,a6⟩
  ·rw[if_neg hc]
   show wT c p.size n (n+(f+1)) (run c (if c (at_ p (n-1)) (at_ p n)=true then .ret (p,n,q) else kas_desc f p (n+1) (q+1)))
   by_cases hc':c (at_ p (n-1)) (at_ p n)=true
   ·rw[if_pos hc']
    exact⟨rfl,hd,Nat.le_refl _,by show n<=_; lia,h1,he⟩
   ·rw[if_neg hc']
    have l1:le c (at_ p n) (at_ p (n-1)):=by unfold le; simpa using hc'
    have l2:le c (at_ p (n-1)) (at_ p n):=by unfold le; simpa using hc
    have r:=io O f p (n+1) (q+1) (by lia) (by lia) (hd.snoc O (by lia) l1) (fun i j a1 a2 a3 a4=>by
     by_cases hi:i=n
     ·by_cases hj:j=n
      ·subst hi hj; exact le_refl O _
      ·subst hi
       exact le_trans O l1 (he _ _ (by lia) (by lia) (by lia) (by lia))
     ·by_cases hj:j=n
      ·subst hj
       exact le_trans O (he _ _ (by lia) (by lia) (by lia) (by lia)) l2
      ·exact he _ _ (by lia) (by lia) (by lia) (by lia))
    obtain⟨a1,a2,a3,a4,a5,a6⟩:=r
    exact⟨a1,a2,by lia,by lia,a5,a6⟩
theorem mj(O:Ord c)(h1:1<=n)(hn:n<=nrem)(hz:nrem<=p.size)(hd:Dn c p n) :
  md c p.size nrem (run c (kas_tail3 n nrem p)):=by
 unfold kas_tail3
 rw[eH]
 obtain⟨a1,a2,a3,_⟩:=pP O (nrem-n) n h1 (hd.rev (by lia))
 exact⟨cU,a1,Nat.le_trans h1 a2,Nat.le_trans a3 (by lia)⟩
theorem hW(O:Ord c)(h1:1<=n)(hn:n+1<=nrem)(hz:nrem<=p.size)(he:Eqs c p 0 n)(hc:c (at_ p n) (at_ p (n-1))=true) :
  md c p.size nrem (run c (kas_descPart n nrem p)):=by
 have hd:Dn c p (n+1):=by
  refine Dn.snoc O (fun i j hij hj=>he _ _ (by lia) (by lia) (by lia) (by lia)) h1 (le_of_lt O hc)
 unfold kas_descPart
 rw[eH]
 obtain⟨b1,b2,b3,b4,b5,b6⟩:=io O (nrem-(n+1)) p (n+1) 0 (by lia) (by lia) hd (fun i j a1 a2 a3 a4=>by
  have:i=n:=by lia
  have:j=n:=by lia
  subst_vars
  exact le_refl O _)
 by_cases hq:(run c (kas_desc (nrem-(n+1)) p (n+1) 0)).2.2 > 0
 ·rw[if_pos hq]
  obtain⟨d1,d2,d3,d4⟩:=mj O (p:=kas_rev (run c (kas_desc (nrem-(n+1)) p (n+1) 0)).1 ((run c (kas_desc (nrem-(n+1)) p (n+1) 0)).2.1-((run c (kas_desc (nrem-(n+1)) p (n+1) 0)).2.2+1)) (run c (kas_desc (nrem-(n+1)) p (n+1) 0)).2.1)
   (n:=(run c (kas_desc (nrem-(n+1)) p (n+1) 0)).2.1) (nrem:=nrem) (by lia) (by lia) (by rw[cU,b1]; exact hz) (b2.revEq O (by rw[b1]; lia) b6)
  exact⟨d1.trans (cU.trans b1),d2,d3,d4⟩
 ·rw[if_neg hq]
  obtain⟨d1,d2,d3,d4⟩:=mj O (p:=(run c (kas_desc (nrem-(n+1)) p (n+1) 0)).1) (n:=(run c (kas_desc (nrem-(n+1)) p (n+1) 0)).2.1) (nrem:=nrem) (by lia) (by lia) (by rw[b1]; exact hz) b2
  exact⟨d1.trans b1,d2,d3,d4⟩
theorem wE(O:Ord c)(h1:1<=nrem)(hz:nrem<=p.size) :
  md c p.size nrem (run c (kas_count nrem p)):=by
 unfold kas_count
 rw[eH]
 obtain⟨a1,a2,a3,a4⟩:=pP O (nrem-1) 1 (Nat.le_refl _) (Up.one O p)
 generalize run c (kas_asc p (nrem-1) 1)=n at a1 a2 a3 a4
 by_cases hn:(n==nrem)=true
 ·rw[if_pos hn]
  exact⟨rfl,a1,a2,by show n<=nrem; lia⟩
 ·rw[if_neg hn]
  have hn':n≠nrem:=by simpa using hn
  have hlt:c (at_ p n) (at_ p (n-1))=true:=a4 (by lia)
  by_cases h2:n > 1
  ·rw[if_pos h2]
   show md c p.size nrem (run c (if c (at_ p 0) (at_ p (n-1))=true then .ret (n,p) else kas_descPart n nrem (kas_rev p 0 n)))
   by_cases hc:c (at_ p 0) (at_ p (n-1))=true
   ·rw[if_pos hc]
    exact⟨rfl,a1,a2,by show n<=nrem; lia⟩
   ·rw[if_neg hc]
    have hz':n<=p.size:=by lia
    have l0:le c (at_ p (n-1)) (at_ p 0):=by unfold le; simpa using hc
    have he:Eqs c p 0 n:=fun i j b1 b2 b3 b4=>le_trans O (a1 i (n-1) (by lia) (by lia)) (le_trans O l0 (a1 0 j (by lia) b4))
    have he':Eqs c (kas_rev p 0 n) 0 n:=fun i j b1 b2 b3 b4=>by
     rw[eZ hz',eZ hz',if_pos ⟨b1,b2⟩,if_pos ⟨b3,b4⟩]
     exact he _ _ (by lia) (by lia) (by lia) (by lia)
    have hc':c (at_ (kas_rev p 0 n) n) (at_ (kas_rev p 0 n) (n-1))=true:=by
     rw[eZ hz',eZ hz',if_neg (by lia),if_pos ⟨by lia,by lia⟩]
     rcases O.neg _ (at_ p (0+n-1-(n-1))) _ hlt with z | z
     ·exact z
     ·have:=he (n-1) (0+n-1-(n-1)) (by lia) (by lia) (by lia) (by lia)
      unfold le at this
      rw[this] at z; cases z
    obtain⟨d1,d2,d3,d4⟩:=hW O (p:=kas_rev p 0 n) (n:=n) (nrem:=nrem) (by lia) (by lia) (by rw[cU]; exact hz) he' hc'
    exact⟨d1.trans cU,d2,d3,d4⟩
  ·rw[if_neg h2]
   have:n=1:=by lia
   subst this
   exact hW O (by lia) (by lia) hz (fun i j b1 b2 b3 b4=>by
    have:i=0:=by lia
    have:j=0:=by lia
    subst_vars
    exact le_refl O _) hlt
theorem iK(O:Ord c)(hu:Up c p k):∀ (f l r:Nat),l<=r->r<=k->r-l<=f->(∀ i,i < l->le c (at_ p i) (at_ p k))->(∀ i,r<=i->i < k->c (at_ p k) (at_ p i)=true) ->
  pR c p k (run c (kas_place p k f l r))
 | 0,l,r,h1,h2,h3,h4,h5=>⟨by show l<=k; lia,h4,fun i a1 a2=>h5 i (by have a1':l<=i:=a1; lia) a2⟩
 | f+1,l,r,h1,h2,h3,h4,h5=>by
  show pR c p k (run c (if l ≥ r then .ret l else .ask (at_ p k) (at_ p ((l+r) / 2)) fun c=>if c=true then kas_place p k f l ((l+r) / 2) else kas_place p k f ((l+r) / 2+1) r))
  by_cases hl:l ≥ r
  ·rw[if_pos hl]
   exact⟨by show l<=k; lia,h4,fun i a1 a2=>h5 i (by have a1':l<=i:=a1; lia) a2⟩
  ·rw[if_neg hl]
   show pR c p k (run c (if c (at_ p k) (at_ p ((l+r) / 2))=true then kas_place p k f l ((l+r) / 2) else kas_place p k f ((l+r) / 2+1) r))
   by_cases hc:c (at_ p k) (at_ p ((l+r) / 2))=true
   ·rw[if_pos hc]
    refine iK O hu f l ((l+r) / 2) (by lia) (by lia) (by lia) h4 fun i a1 a2=>?_
    rcases O.neg _ (at_ p i) _ hc with z | z
    ·exact z
    ·have:=hu ((l+r) / 2) i a1 a2
     unfold le at this
     rw[this] at z; cases z
   ·rw[if_neg hc]
    have lm:le c (at_ p ((l+r) / 2)) (at_ p k):=by unfold le; simpa using hc
    refine iK O hu f ((l+r) / 2+1) r (by lia) h2 (by lia) (fun i hi=>?_) h5
    exact le_trans O (hu i ((l+r) / 2) (by lia) (by lia)) lm
theorem wL(O:Ord c)(hk:k < p.size)(hu:Up c p k)(hm:m<=k)(h1:∀ i,i < m->le c (at_ p i) (at_ p k))(h2:∀ i,m<=i->i < k->c (at_ p k) (at_ p i)=true):Up c (bubble p k (k-m)) (k+1):=by
 intro i j hij hj
 have e:k-(k-m)=m:=by lia
 rw[oj hk (by lia),oj hk (by lia),e]
 by_cases hi:i=m
 ·rw[if_pos hi]
  by_cases hjm:j=m
  ·rw[if_pos hjm]; exact le_refl O _
  ·rw[if_neg hjm,if_pos ⟨by lia,by lia⟩]
   exact le_of_lt O (h2 _ (by lia) (by lia))
 ·rw[if_neg hi]
  by_cases hi2:m < i/\i<=k
  ·rw[if_pos hi2,if_neg (by lia),if_pos ⟨by lia,by lia⟩]
   exact hu _ _ (by lia) (by lia)
  ·rw[if_neg hi2]
   by_cases hjm:j=m
   ·rw[if_pos hjm]; exact h1 i (by lia)
   ·rw[if_neg hjm]
    by_cases hj2:m < j/\j<=k
    ·rw[if_pos hj2]
     exact hu _ _ (by lia) (by lia)
    ·rw[if_neg hj2]
     exact hu _ _ hij (by lia)
theorem wO(O:Ord c):∀ (f:Nat) (p:Array Nat) (k:Nat),k+f<=p.size->Up c p k->(run c (kas_bin f p k)).size=p.size/\Up c (run c (kas_bin f p k)) (k+f)
 | 0,p,k,_,h=>⟨rfl,h⟩
 | f+1,p,k,hz,h=>by
  show (run c ((kas_place p k k 0 k).bind fun l=>kas_bin f (bubble p k (k-l)) (k+1))).size=p.size/\Up c (run c ((kas_place p k k 0 k).bind fun l=>kas_bin f (bubble p k (k-l)) (k+1))) (k+(f+1))
  rw[eH]
  obtain⟨a1,a2,a3⟩:=iK O h k 0 k (Nat.zero_le _) (Nat.le_refl _) (by lia) (fun i hi=>absurd hi (Nat.not_lt_zero _)) fun i a1 a2=>absurd a2 (by lia)
  obtain⟨b1,b2⟩:=wO O f (bubble p k (k-run c (kas_place p k k 0 k))) (k+1) (by rw[bubble_size]; lia) (wL O (by lia) h a1 a2 a3)
  exact⟨b1.trans (bubble_size _ _ _),by rw[show k+(f+1)=k+1+f by lia]; exact b2⟩
theorem zY(O:Ord c)(h1:1<=n):(run c (kas_sort n)).size=n/\Up c (run c (kas_sort n)) n:=by
 have hs:(List.toArray (List.range n)).size=n:=by simp
 unfold kas_sort
 rw[eH]
 obtain⟨a1,a2,a3,a4⟩:=wE O (p:=List.toArray (List.range n)) h1 (by rw[hs]; exact Nat.le_refl _)
 rw[hs] at a1
 generalize run c (kas_count n (List.toArray (List.range n)))=r at a1 a2 a3 a4
 by_cases hl:r.1 < n
 ·rw[if_pos hl]
  obtain⟨b1,b2⟩:=wO O (n-max r.1 1) r.2 (max r.1 1) (by rw[a1]; lia) (by rw[show max r.1 1=r.1 by lia]; exact a2)
  exact⟨b1.trans a1,by rw[show n=max r.1 1+(n-max r.1 1) by lia]; simpa using b2⟩
 ·rw[if_neg hl]
  have e1:r.1=n:=by lia
  rw[e1] at a2
  exact⟨a1,a2⟩
def Ent(n:Nat)(p:Array Nat):Prop:=p.toList.Perm (List.range n)
theorem Ent.lt(h:Ent n p)(h0:0 < n)(k:Nat):at_ p k < n:=by
 unfold at_
 rw[Array.getD_eq_getD_getElem?]
 cases e:p[k]? with
 | none=>simpa using h0
 | some x =>
  have:x∈p.toList:=by
   rw[← Array.getElem?_toList] at e
   exact List.mem_of_getElem? e
  have:=h.mem_iff.mp this
  simpa using this
theorem Ent.rev(h:Ent n p):Ent n (kas_rev p i j):=(Array.perm_iff_toList_perm.mp (mirror_perm p i j ((j-i) / 2))).trans h
theorem Ent.bub(h:Ent n p):Ent n (bubble p i j):=(Array.perm_iff_toList_perm.mp (bubble_perm p i j)).trans h
section
variable{n:Nat}(h0:0 < n)
theorem wQ(h0:0 < n)(h:Ent n p):∀ (f k:Nat),Bd n (kas_asc p f k)
 | 0,_=>trivial
 | f+1,k=>⟨h.lt h0 _,h.lt h0 _,fun b=>by cases b with
  | true=>exact trivial
  | false=>exact wQ h0 h f (k+1)⟩
theorem lR(h0:0 < n):∀ (f:Nat) (p:Array Nat) (k q:Nat),Ent n p->Bd n (kas_desc f p k q)/\All (fun r=>Ent n r.1) (kas_desc f p k q)
 | 0,p,k,q,h=>⟨trivial,h⟩
 | f+1,p,k,q,h=>by
  have key:∀ b,(Bd n (if b=true then (if q > 0 then kas_desc f (kas_rev p (k-(q+1)) k) (k+1) 0 else kas_desc f p (k+1) 0)
    else KasT.ask (p.getD (k-1) 0) (p.getD k 0) fun d=>if d=true then KasT.ret (p,k,q) else kas_desc f p (k+1) (q+1)))/\All (fun r=>Ent n r.1) (if b=true then (if q > 0 then kas_desc f (kas_rev p (k-(q+1)) k) (k+1) 0 else kas_desc f p (k+1) 0)
    else KasT.ask (p.getD (k-1) 0) (p.getD k 0) fun d=>if d=true then KasT.ret (p,k,q) else kas_desc f p (k+1) (q+1)):=fun b=>by
   cases b with
   | true =>
    rw[if_pos rfl]
    by_cases hq:q > 0
    ·rw[if_pos hq]; exact lR h0 f _ _ _ h.rev
    ·rw[if_neg hq]; exact lR h0 f _ _ _ h
   | false =>
    rw[if_neg (by simp)]
    have a:=lR h0 f p (k+1) (q+1) h
    refine⟨⟨h.lt h0 _,h.lt h0 _,fun b=>?_⟩,fun b=>?_⟩
    ·cases b with
     | true=>exact trivial
     | false=>exact a.1
    ·cases b with
     | true=>exact h
     | false=>exact a.2
  exact⟨⟨h.lt h0 _,h.lt h0 _,fun b=>(key b).1⟩,fun b=>(key b).2⟩
theorem ig(h0:0 < n)(h:Ent n p):Bd n (kas_tail3 k m p)/\All (fun r=>Ent n r.2) (kas_tail3 k m p):=by
 have triv:∀ {t:KasT Nat}{Q:Prop},Q->All (fun _=>Q) t:=fun {t Q} q=>by
  induction t with
  | ret a=>exact q
  | ask i j k ih=>exact fun b=>ih b
 unfold kas_tail3
 exact⟨Bd.bindA _ (wQ h0 h.rev _ _) (triv trivial),All.bind _ (triv h.rev)⟩
theorem dj(h0:0 < n)(h:Ent n p):Bd n (kas_descPart k m p)/\All (fun r=>Ent n r.2) (kas_descPart k m p):=by
 unfold kas_descPart
 obtain⟨b1,b2⟩:=lR h0 (m-(k+1)) p (k+1) 0 h
 refine⟨Bd.bindA _ b1 (b2.mono (fun r hr=>?_)),All.bind _ (b2.mono (fun r hr=>?_))⟩
 ·by_cases hq:r.2.2 > 0
  ·rw[if_pos hq]; exact(ig h0 hr.rev).1
  ·rw[if_neg hq]; exact(ig h0 hr).1
 ·by_cases hq:r.2.2 > 0
  ·rw[if_pos hq]; exact(ig h0 hr.rev).2
  ·rw[if_neg hq]; exact(ig h0 hr).2
theorem yE(h0:0 < n)(h:Ent n p):Bd n (kas_count m p)/\All (fun r=>Ent n r.2) (kas_count m p):=by
 have triv:∀ {t:KasT Nat}{Q:Nat->Prop},(∀ a,Q a)->All Q t:=fun {t Q} q=>by
  induction t with
  | ret a=>exact q a
  | ask i j k ih=>exact fun b=>ih b
 unfold kas_count
 refine⟨Bd.bindA _ (wQ h0 h _ _) (triv fun k=>?_),All.bind _ (triv fun k=>?_)⟩
 ·by_cases h1:(k==m)=true
  ·rw[if_pos h1]; exact trivial
  ·rw[if_neg h1]
   by_cases h2:k > 1
   ·rw[if_pos h2]
    refine⟨h.lt h0 _,h.lt h0 _,fun b=>?_⟩
    cases b with
    | true=>exact trivial
    | false=>exact(dj h0 h.rev).1
   ·rw[if_neg h2]; exact(dj h0 h).1
 ·by_cases h1:(k==m)=true
  ·rw[if_pos h1]; exact h
  ·rw[if_neg h1]
   by_cases h2:k > 1
   ·rw[if_pos h2]
    intro b
    cases b with
    | true=>exact h
    | false=>exact(dj h0 h.rev).2
   ·rw[if_neg h2]; exact(dj h0 h).2
theorem lg(h0:0 < n)(h:Ent n p):∀ (f l r:Nat),Bd n (kas_place p k f l r)
 | 0,_,_=>trivial
 | f+1,l,r=>by
  show Bd n (if l ≥ r then KasT.ret l else KasT.ask (p.getD k 0) (p.getD ((l+r) / 2) 0) fun c=>if c=true then kas_place p k f l ((l+r) / 2) else kas_place p k f ((l+r) / 2+1) r)
  by_cases hl:l ≥ r
  ·rw[if_pos hl]; exact trivial
  ·rw[if_neg hl]
   refine⟨h.lt h0 _,h.lt h0 _,fun b=>?_⟩
   cases b with
   | true=>exact lg h0 h f _ _
   | false=>exact lg h0 h f _ _
theorem rT(h0:0 < n):∀ (f:Nat) (p:Array Nat) (k:Nat),Ent n p->Bd n (kas_bin f p k)/\All (fun r=>Ent n r) (kas_bin f p k)
 | 0,p,k,h=>⟨trivial,h⟩
 | f+1,p,k,h=>by
  have triv:∀ {t:KasT Nat}{Q:Nat->Prop},(∀ a,Q a)->All Q t:=fun {t Q} q=>by
   induction t with
   | ret a=>exact q a
   | ask i j k ih=>exact fun b=>ih b
  exact⟨Bd.bindA _ (lg h0 h _ _ _) (triv fun l=>(rT h0 f _ _ h.bub).1),All.bind _ (triv fun l=>(rT h0 f _ _ h.bub).2)⟩
theorem sort_bd(h0:0 < n):Bd n (kas_sort n)/\All (fun r=>Ent n r) (kas_sort n):=by
 have h:Ent n (List.toArray (List.range n)):=by unfold Ent; simp
 obtain⟨b1,b2⟩:=yE h0 (m:=n) h
 unfold kas_sort
 refine⟨Bd.bindA _ b1 (b2.mono fun r hr=>?_),All.bind _ (b2.mono fun r hr=>?_)⟩
 ·by_cases hl:r.1 < n
  ·rw[if_pos hl]; exact(rT h0 _ _ _ hr).1
  ·rw[if_neg hl]; exact trivial
 ·by_cases hl:r.1 < n
  ·rw[if_pos hl]; exact(rT h0 _ _ _ hr).2
  ·rw[if_neg hl]; exact hr
end
theorem sort_list{α:Type}[Inhabited α]{lt:α->α->Bool}(xs:List α)(h1:1<=xs.length)(irr:∀ a∈xs,lt a a=false)(tr:∀ a∈xs,∀ b∈xs,∀ d∈xs,lt a b=true->lt b d=true->lt a d=true)
  (neg:∀ a∈xs,∀ b∈xs,∀ d∈xs,lt a d=true->lt a b=true\/lt b d=true) :
  let c:=fun i j=>if i < xs.length then (if j < xs.length then lt (xs.getD i default) (xs.getD j default) else true) else false
  let p:=run c (kas_sort xs.length)
  let ys:=p.toList.map fun i=>xs.getD i default
  ys.Perm xs/\ys.Pairwise fun a b=>lt b a=false:=by
 intro c p ys
 have mem:∀ i,i < xs.length->xs.getD i default∈xs:=fun i hi=>by
  rw[List.getD_eq_getElem?_getD,List.getElem?_eq_getElem hi]
  exact List.getElem_mem hi
 have O:Ord c:=by
  refine⟨fun a=>?_,fun a b d=>?_,fun a b d=>?_⟩
  ·show (if a < xs.length then (if a < xs.length then lt _ _ else true) else false)=false
   by_cases ha:a < xs.length
   ·rw[if_pos ha,if_pos ha]; exact irr _ (mem a ha)
   ·rw[if_neg ha]
  ·show (if a < xs.length then (if b < xs.length then lt _ _ else true) else false)=true->(if b < xs.length then (if d < xs.length then lt _ _ else true) else false)=true->(if a < xs.length then (if d < xs.length then lt _ _ else true) else false)=true
   by_cases ha:a < xs.length
   ·by_cases hb:b < xs.length
    ·by_cases hd:d < xs.length
     ·rw[if_pos ha,if_pos hb,if_pos hb,if_pos hd,if_pos ha,if_pos hd]; exact tr _ (mem a ha) _ (mem b hb) _ (mem d hd)
     ·intro _ _; rw[if_pos ha,if_neg hd]
    ·rw[if_neg (show ¬ b < xs.length from hb)]
     intro _ z
     rw[if_neg hb] at z; cases z
   ·intro z; rw[if_neg ha] at z; cases z
  ·show (if a < xs.length then (if d < xs.length then lt _ _ else true) else false)=true->(if a < xs.length then (if b < xs.length then lt _ _ else true) else false)=true\/(if b < xs.length then (if d < xs.length then lt _ _ else true) else false)=true
   by_cases ha:a < xs.length
   ·by_cases hb:b < xs.length
    ·by_cases hd:d < xs.length
     ·rw[if_pos ha,if_pos hd,if_pos ha,if_pos hb,if_pos hb,if_pos hd]; exact neg _ (mem a ha) _ (mem b hb) _ (mem d hd)
     ·intro _; right; rw[if_pos hb,if_neg hd]
    ·intro _; left; rw[if_pos ha,if_neg hb]
   ·intro z; rw[if_neg ha] at z; cases z
 have hE:Ent xs.length p:=All.run _ (sort_bd (by lia)).2
 obtain⟨hs,hU⟩:=zY O h1
 refine⟨?_,?_⟩
 ·have e:(List.range xs.length).map (fun i=>xs.getD i default)=xs:=by
   apply List.ext_getElem?
   intro i
   rw[List.getElem?_map]
   by_cases hi:i < xs.length
   ·rw[List.getElem?_range hi]
    simp[List.getD_eq_getElem?_getD,List.getElem?_eq_getElem hi]
   ·rw[List.getElem?_eq_none (by simpa using hi),List.getElem?_eq_none (by simpa using hi)]
    rfl
  have:=hE.map fun i=>xs.getD i default
  rw[e] at this
  exact this
 ·show (p.toList.map fun i=>xs.getD i default).Pairwise fun a b=>lt b a=false
  rw[List.pairwise_iff_getElem]
  intro i j hi hj hij
  rw[List.length_map,Array.length_toList] at hi hj
  have hs':p.size=xs.length:=hs
  have l:=hU i j (by lia) (by lia)
  have hl:∀ k,at_ p k < xs.length:=fun k=>hE.lt (by lia) k
  unfold le at l
  have l':(if at_ p j < xs.length then (if at_ p i < xs.length then lt (xs.getD (at_ p j) default) (xs.getD (at_ p i) default) else true) else false)=false:=l
  rw[if_pos (hl j),if_pos (hl i)] at l'
  have ai:p.toList[i]=at_ p i:=by unfold at_; simp[Array.getD,hi]
  have aj:p.toList[j]=at_ p j:=by unfold at_; simp[Array.getD,hj]
  rw[List.getElem_map,List.getElem_map,ai,aj]
  exact l'
end
end Srt
set_option maxRecDepth 100000
namespace L2
open PySem PySem.Spec PyProof.Rows DL
def tI(A:Around)(s:Shared)(x y:Value)(k:Bool):Prop:=∀ (prog:Program) (w:World) (E:Value->Shared->Prop) (Q:Value->Shared->Prop),Q (.bool k) s->wpAny (model prog w) A (richCompare .Lt x y) Q E s
inductive LexAt(A:Around)(s:Shared):List Value->List Value->Bool->Prop
 | nn:LexAt A s [] [] false
 | nc {y:Value}{ys:List Value}:LexAt A s [] (y::ys) true
 | cn {x:Value}{xs:List Value}:LexAt A s (x::xs) [] false
 | eq {x y:Value}{xs ys:List Value}{k:Bool} (h:SeqAt.EqAt A s x y true) (t:LexAt A s xs ys k):LexAt A s (x::xs) (y::ys) k
 | ne {x y:Value}{xs ys:List Value}{k:Bool} (h:SeqAt.EqAt A s x y false) (t:tI A s x y k):LexAt A s (x::xs) (y::ys) k
section
open PySem.SeqAt
open PySem.AutoSeq1 (wpAny_loadPart')
open PySem.MeetsSeq PySem.MeetsSeq2 PySem.MeetsSeq3
theorem mi(l b:Addr)(items items2:Array Value)(n n2:Nat)(dd dd2:Option Addr)(sl sl2:Array (Option Value))(k:Bool) :
  Meets (Builtin.«tuple.__lt__» ⟨[.ref l,.ref b],[]⟩)
   (fun A R s=>s.heap.get? l=some (⟨.type "tuple",dd,.seq items n,sl⟩:Obj)/\s.heap.get? b=some { cls:=.type "tuple",dict:=dd2,data:=.seq items2 n2,slots:=sl2 } /\
    LexAt A.in1 s items.toList items2.toList k/\R (.ok (.ret (.bool k))) s) :=
 .of_wp fun prog w A R s h=>by
  obtain⟨hp,g,d,tk,os⟩:=s; obtain⟨hl,hb,hx,h⟩:=h
  have f2:=AutoSeq1.sub_tuple_tuple
  wp_walk using wpAny_loadPart' hl,wpAny_loadPart' hb,wpAny_forIn_list _ (fun aN b s'=>b.1=none/\s'=⟨hp,g,d,tk,os⟩/\∃ (vs ws:List Value),aN=vs.zip ws /\
   LexAt A.in1 ⟨hp,g,d,tk,os⟩ vs ws k/\vs.length+items2.size=ws.length+items.size) _
  case turn =>
   rintro⟨y,x⟩ aN b s' ⟨hb',rfl,vs,ws,hz,hlex,hlen⟩
   cases hlex with
   | nn=>cases hz
   | nc=>cases hz
   | cn=>cases hz
   | eq he t =>
    rw[List.zip_cons_cons] at hz
    injection hz with hyx hrest
    injection hyx with hy hx
    subst hy hx
    refine wpAny_bind (he prog w _ _ ?_)
    wp_walk
    exact⟨rfl,rfl,_,_,hrest,t,by simp only[List.length_cons] at hlen; lia⟩
   | ne he t =>
    rw[List.zip_cons_cons] at hz
    injection hz with hyx hrest
    injection hyx with hy hx
    subst hy hx
    refine wpAny_bind (he prog w _ _ ?_)
    have hri:=t prog w
    wp_walk using hri
    exact⟨_,rfl,by simpa using h⟩
  case fin =>
   rintro⟨b1,b2⟩ s' ⟨hb',rfl,vs,ws,hz,hlex,hlen⟩
   simp only at hb'
   subst hb'
   have hv:k=decide (items.size < items2.size):=by
    cases hlex with
    | nn=>simp only[List.length_nil] at hlen; exact(decide_eq_false (by lia)).symm
    | nc=>simp only[List.length_nil,List.length_cons] at hlen; exact(decide_eq_true (by lia)).symm
    | cn=>simp only[List.length_nil,List.length_cons] at hlen; exact(decide_eq_false (by lia)).symm
    | eq _ _=>rw[List.zip_cons_cons] at hz; cases hz
    | ne _ _=>rw[List.zip_cons_cons] at hz; cases hz
   rw[hv] at h
   wp_walk
   exact⟨_,rfl,by simpa [Builtin.Tuple.tupleCompareSizes] using h⟩
  case h =>
   exact⟨rfl,rfl,items.toList,items2.toList,rfl,hx,by simp; lia⟩
end
theorem tI.tuples(hl:s.heap.IsTuple l items)(hb:s.heap.IsTuple b items2)(hu:A.units < cLine)(hx:LexAt A.in1 s items.toList items2.toList k):tI A s (.ref l) (.ref b) k:=fun prog w E Q h=>by
 obtain⟨⟨cls,dd,data,sl⟩,ho,hc,n,hd⟩:=id hl
 obtain⟨⟨cls2,dd2,data2,sl2⟩,ho2,hc2,n2,hd2⟩:=id hb
 simp only at hc hd hc2 hd2
 subst hc hd hc2 hd2
 exact richCompare_meets_room (op:=.Lt) ⟨_,ho,rfl⟩ ⟨_,ho2,rfl⟩ PySem.F.slot_tuple_lt PySem.F.entry_tuple_lt (PySem.F.args_tuple_lt_2 _ _) (mi l b items items2 n n2 dd dd2 sl sl2 k)
  ⟨ho,ho2,hx,show Value.bool k≠Value.notImplemented/\Q (.bool k) s from ⟨(fun x=>nomatch x),h⟩⟩ hu
end L2
set_option maxRecDepth 100000
namespace L2
open PySem PySem.Spec PyProof.Rows DL
def pc(f g:D->D->Bool):List D->List D->Bool
 | [],[]=>false
 | [],_::_=>true
 | _::_,[]=>false
 | x::xs,y::ys=>if f x y=true then pc f g xs ys else g x y
def ltD(M:Mem):Nat->D->D->Bool
 | _,.int a,.int b=>decide (a < b)
 | _,.str a,.str b=>oK a b
 | n+1,.tup xs,.tup ys=>pc (eqD M n) (ltD M n) xs ys
 | _,_,_=>false
def wV(f g:D->D->Bool):List D->List D->Bool
 | x::xs,y::ys=>if f x y=true then wV f g xs ys else g x y
 | _,_=>true
def gu(M:Mem):Nat->D->D->Bool
 | _,.int _,.int _=>true
 | _,.str _,.str _=>true
 | n+1,.tup xs,.tup ys=>wV (eqD M n) (gu M n) xs ys
 | _,_,_=>false
theorem tI.ints(A:Around)(s:Shared)(a:Int)(t:Tok)(c:Int)(u:Tok):tI A s (.int a t) (.int c u) (decide (a < c)):=fun prog w E Q h=>HT.rcLt_int A s a t c u prog w E Q h
theorem tI.texts(A:Around)(s:Shared)(a:Str)(t:Tok)(c:Str)(u:Tok):tI A s (.str a t) (.str c u) (oK a c):=fun prog w E Q h =>
 (PySem.P.lt_str (show Q (.bool (decide (a.cps.toList < c.cps.toList))) s from h):wpAny (model prog w) A (compareOp .Lt (.str a t) (.str c u)) Q E s)
section
variable{X:Cx}{pins:List (Addr×Obj)}{σ:St}{H:Hp}{s:Shared}{ρ:List Addr}{M:Mem}
theorem vB(I:Inv X pins σ H s)(sm:Sim X.K ρ M H):∀ (n:Nat) (A:Around) (x y:D) (vx vy:V) (u v:Value),A.units+n < cLine->Rep X.K ρ H x vx->aJ vx u->Rep X.K ρ H y vy->aJ vy v->okD M n x=true->okD M n y=true->gu M n x y=true ->
  tI A s u v (ltD M n x y):=by
 intro n
 induction n with
 | zero =>
  intro A x y vx vy u v hu r1 e1 r2 e2 o1 o2 cm
  cases r1 with
  | int a =>
   cases r2 with
   | int b=>obtain⟨t,rfl⟩:=e1; obtain⟨t',rfl⟩:=e2; exact tI.ints A s a t b t'
   | _=>simp[gu] at cm
  | str a =>
   cases r2 with
   | str b=>obtain⟨t,rfl⟩:=e1; obtain⟨t',rfl⟩:=e2; exact tI.texts A s a t b t'
   | _=>simp[gu] at cm
  | _=>simp[gu] at cm
 | succ n ih =>
  intro A x y vx vy u v hu r1 e1 r2 e2 o1 o2 cm
  have hu0:A.units < cLine:=by lia
  have hu1:A.in1.units+n < cLine:=by show A.units+1+n < cLine; lia
  have lex:∀ (ds es:List D) (vs ws:List V) (its jts:List Value),Reps X.K ρ H ds vs->ar vs its->Reps X.K ρ H es ws->ar ws jts->ds.all (okD M n)=true->es.all (okD M n)=true->wV (eqD M n) (gu M n) ds es=true ->
    LexAt A.in1 s its jts (pc (eqD M n) (ltD M n) ds es):=by
   intro ds
   induction ds with
   | nil =>
    intro es vs ws its jts p1 q1 p2 q2 _ _ _
    cases p1; cases q1
    cases p2 with
    | nil=>cases q2; exact .nn
    | cons _ _=>cases q2; exact .nc
   | cons d ds hi =>
    intro es vs ws its jts p1 q1 p2 q2 k1 k2 k3
    cases p1 with
    | cons a1 p1 =>
     cases q1 with
     | cons b1 q1 =>
      cases p2 with
      | nil=>cases q2; exact .cn
      | @cons e _ es' _ a2 p2 =>
       cases q2 with
       | cons b2 q2 =>
        rw[List.all_cons,Bool.and_eq_true] at k1 k2
        have he:=(jh I sm n A.in1 d _ _ _ _ _ hu1 a1 b1 a2 b2 k1.1 k2.1).1
        rw[pc]
        rw[wV] at k3
        by_cases hq:eqD M n d e=true
        ·rw[hq] at he
         rw[if_pos hq] at k3 ⊢
         exact .eq he (hi _ _ _ _ _ p1 q1 p2 q2 k1.2 k2.2 k3)
        ·have hq':=Bool.eq_false_iff.mpr hq
         rw[hq'] at he
         rw[if_neg hq] at k3 ⊢
         exact .ne he (ih A.in1 _ _ _ _ _ _ hu1 a1 b1 a2 b2 k1.1 k2.1 k3)
  cases r1 with
  | int a =>
   cases r2 with
   | int b=>obtain⟨t,rfl⟩:=e1; obtain⟨t',rfl⟩:=e2; exact tI.ints A s a t b t'
   | _=>simp[gu] at cm
  | str a =>
   cases r2 with
   | str b=>obtain⟨t,rfl⟩:=e1; obtain⟨t',rfl⟩:=e2; exact tI.texts A s a t b t'
   | _=>simp[gu] at cm
  | tup hq r =>
   cases r2 with
   | tup hq' r' =>
    cases e1; cases e2
    obtain⟨its,rr,pl,_⟩:=I.tuple hq
    obtain⟨jts,rr',pl',_⟩:=I.tuple hq'
    refine tI.tuples pl pl' hu0 ?_
    exact lex _ _ _ _ _ _ r rr r' rr' (by simpa [okD] using o1) (by simpa [okD] using o2) cm
   | _=>simp[gu] at cm
  | _=>simp[gu] at cm
end
def CD:DR2:=fun x y M Q=>match x,y with
 | .tup xs,.tup ys=>(okD M eqN (.tup xs)=true/\okD M eqN (.tup ys)=true/\gu M eqN (.tup xs) (.tup ys)=true)/\Q (.bl (ltD M eqN (.tup xs) (.tup ys))) M
 | _,_=>qLt x y M Q
theorem Dt(hr:Room k X.A):OpD X (compareOp .Lt) CD:=by
 intro pins s σ H vx vy v u R I rx ry ⟨x,y,M,ρ,Q,sm,r1,r2,q,k⟩
 unfold CD at q
 split at q
 ·obtain⟨⟨o1,o2,o3⟩,q⟩:=q
  exact vB I sm eqN X.A _ _ vx vy v u (kP hr) r1 rx r2 ry o1 o2 o3 _ _ _ _ (dW I sm k q)
 ·exact Du pins s σ H vx vy v u R I rx ry ⟨x,y,M,ρ,Q,sm,r1,r2,q,k⟩
def okP:Nat->D->Bool
 | _,.int _=>true
 | _,.str _=>true
 | n+1,.tup xs=>xs.all (okP n)
 | _,_=>false
def BY(f:D->List Int):List D->List Int
 | []=>[0]
 | x::xs=>1::(f x++BY f xs)
def enc:Nat->D->List Int
 | _,.int i=>[0,i]
 | _,.str x=>1::(x.cps.toList.map (fun (c:Nat)=>(c:Int)+1)++[0])
 | n+1,.tup xs=>2::BY (enc n) xs
 | _,_=>[3]
def bN(x y:List Int):Prop:=∀ a b,x++a < y++b
theorem bN.cons(i:Int)(h:bN x y):bN (i::x) (i::y):=fun a b=>List.cons_lt_cons_iff.mpr (.inr ⟨rfl,h a b⟩)
theorem bN.head(x y:List Int)(h:i < j):bN (i::x) (j::y):=fun a b=>List.cons_lt_cons_iff.mpr (.inl h)
theorem bN.lt(h:bN x y):x < y:=by have:=h [] []; simpa using this
theorem bN.pre(z:List Int)(h:bN x y):bN (z++x) (z++y):=by
 induction z with
 | nil=>exact h
 | cons i z ih=>exact ih.cons i
theorem bN.more(u v:List Int)(h:bN x y):bN (x++u) (y++v):=fun a b=>by
 rw[List.append_assoc,List.append_assoc]
 exact h _ _
def Tri(x y:D)(n:Nat)(l:Bool)(r:Bool):Prop:=(x=y/\l=false/\r=false)\/(x≠y/\l=true/\r=false/\bN (enc n x) (enc n y))\/(x≠y/\l=false/\r=true/\bN (enc n y) (enc n x))
theorem nT:∀ (x y:List Nat),(x=y)\/(x < y/\¬ y < x/\bN (x.map (fun (c:Nat)=>(c:Int)+1)++[0]) (y.map (fun (c:Nat)=>(c:Int)+1)++[0]))\/(¬ x < y/\y < x/\bN (y.map (fun (c:Nat)=>(c:Int)+1)++[0]) (x.map (fun (c:Nat)=>(c:Int)+1)++[0]))
 | [],[]=>.inl rfl
 | [],c::y=>.inr (.inl ⟨List.nil_lt_cons _ _,List.not_lt_nil _,bN.head _ _ (by dsimp only; lia)⟩)
 | c::x,[]=>.inr (.inr ⟨List.not_lt_nil _,List.nil_lt_cons _ _,bN.head _ _ (by dsimp only; lia)⟩)
 | c::x,e::y=>by
  rcases Nat.lt_trichotomy c e with h | h | h
  ·refine .inr (.inl ⟨List.cons_lt_cons_iff.mpr (.inl h),fun z=>?_,bN.head _ _ (by dsimp only; lia)⟩)
   rcases List.cons_lt_cons_iff.mp z with z | ⟨z,_⟩ <;> lia
  ·subst h
   rcases nT x y with q | ⟨q1,q2,q3⟩ | ⟨q1,q2,q3⟩
   ·exact .inl (by rw[q])
   ·refine .inr (.inl ⟨List.cons_lt_cons_iff.mpr (.inr ⟨rfl,q1⟩),fun z=>?_,q3.cons _⟩)
    rcases List.cons_lt_cons_iff.mp z with z | ⟨_,z⟩
    ·lia
    ·exact q2 z
   ·refine .inr (.inr ⟨fun z=>?_,List.cons_lt_cons_iff.mpr (.inr ⟨rfl,q2⟩),q3.cons _⟩)
    rcases List.cons_lt_cons_iff.mp z with z | ⟨_,z⟩
    ·lia
    ·exact q1 z
  ·refine .inr (.inr ⟨fun z=>?_,List.cons_lt_cons_iff.mpr (.inl h),bN.head _ _ (by dsimp only; lia)⟩)
   rcases List.cons_lt_cons_iff.mp z with z | ⟨z,_⟩ <;> lia
theorem Eo(M:Mem):∀ (n:Nat) (x y:D),okP n x=true->okP n y=true->(eqD M n x y=true↔x=y):=by
 have all:∀ (n:Nat),(∀ (x y:D),okP n x=true->okP n y=true->(eqD M n x y=true↔x=y))->∀ (xs ys:List D),xs.all (okP n)=true->ys.all (okP n)=true->(eqL (eqD M n) xs ys=true↔xs=ys):=by
  intro n ih xs
  induction xs with
  | nil=>intro ys _ _; cases ys <;> simp[eqL]
  | cons x xs hi =>
   intro ys h1 h2
   cases ys with
   | nil=>simp[eqL]
   | cons y ys =>
    rw[List.all_cons,Bool.and_eq_true] at h1 h2
    rw[eqL,Bool.and_eq_true,ih x y h1.1 h2.1,hi ys h1.2 h2.2,List.cons.injEq]
 intro n
 induction n with
 | zero =>
  intro x y h1 h2
  cases x <;> simp[okP] at h1 <;> cases y <;> simp[okP] at h2 <;> simp[eqD]
 | succ n ih =>
  intro x y h1 h2
  cases x with
  | int a=>cases y <;> simp[okP] at h2 <;> simp[eqD]
  | str a=>cases y <;> simp[okP] at h2 <;> simp[eqD]
  | tup xs =>
   cases y with
   | tup ys =>
    simp only[eqD,D.tup.injEq]
    exact all n ih xs ys (by simpa [okP] using h1) (by simpa [okP] using h2)
   | int a=>simp[eqD]
   | str a=>simp[eqD]
   | _=>simp[okP] at h2
  | _=>simp[okP] at h1
theorem Do(M:Mem):∀ (n:Nat) (x:D),okP n x=true->okD M n x=true:=by
 intro n
 induction n with
 | zero=>intro x h; cases x <;> simp[okP] at h <;> rfl
 | succ n ih =>
  intro x h
  cases x with
  | int a=>rfl
  | str a=>rfl
  | tup xs =>
   simp only[okD]
   rw[List.all_eq_true]
   intro y hy
   exact ih y (List.all_eq_true.mp (show xs.all (okP n)=true from h) y hy)
  | _=>simp[okP] at h
theorem Ck(M:Mem):∀ (n:Nat) (x y:D),okP n x=true->okP n y=true->gu M n x y=true->Tri x y n (ltD M n x y) (ltD M n y x):=by
 have base:∀ (n:Nat) (a b:Int),Tri (.int a) (.int b) n (decide (a < b)) (decide (b < a)):=fun n a b=>by
  have e:∀ a,enc n (.int a)=[0,a]:=fun a=>by cases n <;> rfl
  rcases Int.lt_trichotomy a b with h | h | h
  ·exact .inr (.inl ⟨by simp; lia,decide_eq_true h,decide_eq_false (by lia),by rw[e,e]; exact(bN.head [] [] h).cons 0⟩)
  ·subst h; exact .inl ⟨rfl,decide_eq_false (by lia),decide_eq_false (by lia)⟩
  ·exact .inr (.inr ⟨by simp; lia,decide_eq_false (by lia),decide_eq_true h,by rw[e,e]; exact(bN.head [] [] h).cons 0⟩)
 have bases:∀ (n:Nat) (a b:Str),Tri (.str a) (.str b) n (oK a b) (oK b a):=fun n a b=>by
  have e:∀ a:Str,enc n (.str a)=1::(a.cps.toList.map (fun (c:Nat)=>(c:Int)+1)++[0]):=fun a=>by cases n <;> rfl
  unfold oK
  rcases nT a.cps.toList b.cps.toList with h | ⟨h1,h2,h3⟩ | ⟨h1,h2,h3⟩
  ·have:a=b:=zX h
   subst this
   exact .inl ⟨rfl,decide_eq_false (List.lt_irrefl _),decide_eq_false (List.lt_irrefl _)⟩
  ·exact .inr (.inl ⟨fun z=>by cases z; exact h2 h1,decide_eq_true h1,decide_eq_false h2,by rw[e,e]; exact h3.cons 1⟩)
  ·exact .inr (.inr ⟨fun z=>by cases z; exact h1 h2,decide_eq_false h1,decide_eq_true h2,by rw[e,e]; exact h3.cons 1⟩)
 intro n
 induction n with
 | zero =>
  intro x y h1 h2 h3
  cases x <;> simp[okP] at h1 <;> cases y <;> simp[okP] at h2 <;> first | exact base 0 _ _ | exact bases 0 _ _ | simp[gu] at h3
 | succ n ih =>
  intro x y h1 h2 h3
  have lists:∀ (xs ys:List D),xs.all (okP n)=true->ys.all (okP n)=true->wV (eqD M n) (gu M n) xs ys=true ->
    (xs=ys/\pc (eqD M n) (ltD M n) xs ys=false/\pc (eqD M n) (ltD M n) ys xs=false) \/
    (xs≠ys/\pc (eqD M n) (ltD M n) xs ys=true/\pc (eqD M n) (ltD M n) ys xs=false/\bN (BY (enc n) xs) (BY (enc n) ys)) \/
    (xs≠ys/\pc (eqD M n) (ltD M n) xs ys=false/\pc (eqD M n) (ltD M n) ys xs=true/\bN (BY (enc n) ys) (BY (enc n) xs)):=by
   intro xs
   induction xs with
   | nil =>
    intro ys _ _ _
    cases ys with
    | nil=>exact .inl ⟨rfl,rfl,rfl⟩
    | cons y ys=>exact .inr (.inl ⟨by simp,rfl,rfl,bN.head _ _ (by decide)⟩)
   | cons x xs hi =>
    intro ys h1 h2 h3
    cases ys with
    | nil=>exact .inr (.inr ⟨by simp,rfl,rfl,bN.head _ _ (by decide)⟩)
    | cons y ys =>
     rw[List.all_cons,Bool.and_eq_true] at h1 h2
     rw[wV] at h3
     have qe:=Eo M n x y h1.1 h2.1
     have qe':=Eo M n y x h2.1 h1.1
     rw[pc,pc]
     by_cases hq:x=y
     ·subst hq
      rw[if_pos (qe.mpr rfl)] at h3
      rw[if_pos (qe.mpr rfl),if_pos (qe.mpr rfl)]
      rcases hi ys h1.2 h2.2 h3 with ⟨a1,a2,a3⟩ | ⟨a1,a2,a3,a4⟩ | ⟨a1,a2,a3,a4⟩
      ·exact .inl ⟨by rw[a1],a2,a3⟩
      ·exact .inr (.inl ⟨fun z=>a1 (List.cons.inj z).2,a2,a3,(a4.pre (enc n x)).cons 1⟩)
      ·exact .inr (.inr ⟨fun z=>a1 (List.cons.inj z).2,a2,a3,(a4.pre (enc n x)).cons 1⟩)
     ·have n1:¬ eqD M n x y=true:=fun z=>hq (qe.mp z)
      have n2:¬ eqD M n y x=true:=fun z=>hq (qe'.mp z).symm
      rw[if_neg n1] at h3
      rw[if_neg n1,if_neg n2]
      rcases ih x y h1.1 h2.1 h3 with ⟨a1,_⟩ | ⟨a1,a2,a3,a4⟩ | ⟨a1,a2,a3,a4⟩
      ·exact absurd a1 hq
      ·exact .inr (.inl ⟨fun z=>hq (List.cons.inj z).1,a2,a3,(a4.more _ _).cons 1⟩)
      ·exact .inr (.inr ⟨fun z=>hq (List.cons.inj z).1,a2,a3,(a4.more _ _).cons 1⟩)
  cases x with
  | int a=>cases y <;> simp[okP] at h2 <;> first | exact base (n+1) _ _ | simp[gu] at h3
  | str a=>cases y <;> simp[okP] at h2 <;> first | exact bases (n+1) _ _ | simp[gu] at h3
  | tup xs =>
   cases y with
   | tup ys =>
    rcases lists xs ys (by simpa [okP] using h1) (by simpa [okP] using h2) h3 with ⟨a1,a2,a3⟩ | ⟨a1,a2,a3,a4⟩ | ⟨a1,a2,a3,a4⟩
    ·exact .inl ⟨by rw[a1],a2,a3⟩
    ·exact .inr (.inl ⟨fun z=>a1 (D.tup.inj z),a2,a3,a4.cons 2⟩)
    ·exact .inr (.inr ⟨fun z=>a1 (D.tup.inj z),a2,a3,a4.cons 2⟩)
   | _=>simp[gu] at h3
  | _=>simp[okP] at h1
theorem lG(h1:okP n x=true)(h2:okP n y=true)(h3:gu M n x y=true):ltD M n x y=decide (enc n x < enc n y):=by
 rcases Ck M n x y h1 h2 h3 with ⟨a1,a2,a3⟩ | ⟨a1,a2,a3,a4⟩ | ⟨a1,a2,a3,a4⟩
 ·subst a1; rw[a2,decide_eq_false (List.lt_irrefl _)]
 ·rw[a2,decide_eq_true a4.lt]
 ·rw[a2,decide_eq_false (fun z=>List.lt_irrefl _ (List.lt_trans z a4.lt))]
theorem wz(h1:okP n x=true)(h2:okP n y=true)(h3:gu M n x y=true)(e:enc n x=enc n y):x=y:=by
 rcases Ck M n x y h1 h2 h3 with ⟨a1,_⟩ | ⟨_,_,_,a4⟩ | ⟨_,_,_,a4⟩
 ·exact a1
 ·have:=a4.lt; rw[e] at this; exact absurd this (List.lt_irrefl _)
 ·have:=a4.lt; rw[e] at this; exact absurd this (List.lt_irrefl _)
end L2
set_option maxRecDepth 100000
namespace L2
open PySem PySem.Spec PyProof.Rows DL PySem.W
section
variable{X:Cx}{pins:List (Addr×Obj)}{σ:St}{H:Hp}{s:Shared}
theorem Inv.laidF(I:Inv X pins σ H s)(k:∀ b u,b≠X.env.locals->s.heap.get? b=some u->h'.get? b=some u)(hn:s.heap.Ns X.env.locals m)(hn':h'.Ns X.env.locals m)
  (hp:s.heap.get? a=none) (fa:H a=none) (new:bW X.prog X.w (upd H a o) h' a o):Inv X pins σ (upd H a o) { s with heap:=h',toks:=t' }:=by
 have nea:∀ b u,s.heap.get? b=some u->b≠a:=fun b u e z=>by subst z; rw[hp] at e; cases e
 refine I.step (g':=s.gens) (d':=s.drawn) (ch:=[]) (fun _ z=>nomatch z) (fun b u hL _ _ e _=>k b u hL e) (fun b u hL _ _ e _=>⟨u.slots,k b u hL e⟩) (fun b u _ e n=>by rw[ak (nea b u e)]; exact n) (fun b u _ e=>?_)
  (fun b xs q=>by rw[ak (ad q fa)]; exact q) (fun b u xs q=>by rw[ak (ad q fa)]; exact q) (fun b ps q=>⟨#[],by rw[ak (ad q fa),q]; simp⟩) (fun m' hm=>?_) (fun b w q=>?_) I.bare
 ·by_cases hb:b=X.env.locals
  ·subst hb
   obtain⟨o',_,_,ho,_⟩:=hn'
   exact⟨o',ho⟩
  ·exact⟨u,k b u hb e⟩
 ·have:m=m':=funext fun x=>hn.agree hm x
  subst this
  exact hn'
 ·by_cases hb:b=a
  ·subst hb
   rw[aI] at q
   cases q
   exact new
  ·rw[ak hb] at q
   refine(I.hok b w q).stay (fun c v hc r=>k c v ?_ r) (fun c z=>by rw[ak (ad z fa)]; exact z) fun c xs z=>by rw[ak (ad z fa)]; exact z
   rcases hc with rfl | hc
   ·exact ad q I.free
   ·exact ad hc I.free
theorem Inv.keptF(I:Inv X pins σ H s)(k:∀ b u,b≠X.env.locals->s.heap.get? b=some u->h'.get? b=some u)(hn:s.heap.Ns X.env.locals m)(hn':h'.Ns X.env.locals m):Inv X pins σ H { s with heap:=h',toks:=t' }:=by
 refine I.step (g':=s.gens) (d':=s.drawn) (ch:=[]) (fun _ z=>nomatch z) (fun b u hL _ _ e _=>k b u hL e) (fun b u hL _ _ e _=>⟨u.slots,k b u hL e⟩) (fun b u _ e n=>n) (fun b u _ e=>?_)
  (fun b xs q=>q) (fun b u xs q=>q) (fun b ps q=>⟨#[],by rw[q]; simp⟩) (fun m' hm=>?_) (fun b w q=>?_) I.bare
 ·by_cases hb:b=X.env.locals
  ·subst hb
   obtain⟨o',_,_,ho,_⟩:=hn'
   exact⟨o',ho⟩
  ·exact⟨u,k b u hb e⟩
 ·have:m=m':=funext fun x=>hn.agree hm x
  subst this
  exact hn'
 ·refine(I.hok b w q).stay (fun c v hc r=>k c v ?_ r) (fun c z=>z) fun c xs z=>z
  rcases hc with rfl | hc
  ·exact ad q I.free
  ·exact ad hc I.free
end
section
variable{prog:Program}{w:World}{A:Around}{E:Value->Shared->Prop}{s:Shared}
theorem mI{l:Addr}{vs:List Value}{Q:Value->Shared->Prop}(hl:s.heap.IsList l vs.toArray)(h2:vs.length < 2)
  (h:∀ D h' n,s.heap.objs.size<=D->(∀ b o,s.heap.get? b=some o->h'.get? b=some o)->h'.get? D=some { cls:=.type "list",data:=.seq vs.toArray n }->Q (.ref D) { s with heap:=h' }) :
  wpAny (model prog w) A (call (.builtin "sorted") ([Value.ref l])) Q E s:=by
 have few:vs.length<=sizeLine:=by rw[sizeLine_eq]; lia
 refine Calls.call_function_entry kind_sorted plain_sorted entry_sorted (args_sorted1 (.ref l)) ?_
 unfold Builtin.«sorted»
 refine wpAny_bind (m:=checkCount "sorted" 1 1 _) (wpAny_pure (wpAny_bind (collect_list hl (wpAny_bind (wpAny_newList ?_ few)) few)))
 generalize hg:((s.heap.push (seqObj "list" #[] 0)).update s.heap.objs.size (Obj.mapSeq (· ++ vs.toArray)))=g1
 have hsz:g1.objs.size=s.heap.objs.size+1:=by rw[← hg,Heap.size_update,size_push']
 have k1:∀ b o,s.heap.get? b=some o->g1.get? b=some o:=fun b o q=>by
  have hlt:=Heap.lt_size q
  rw[← hg,Heap.get?_update_ne _ _ _ _ (Nat.ne_of_lt hlt),Heap.get?_push_ne _ _ _ (Nat.ne_of_lt hlt)]
  exact q
 show wpAny _ _ _ _ _ { s with heap:=g1.push (seqObj "list" vs.toArray 0) }
 have hoL:(g1.push (seqObj "list" vs.toArray 0)).get? g1.objs.size=some (seqObj "list" vs.toArray 0):=Heap.get?_push_size _ rfl
 refine wpAny_bind (wpAny_holding (wpAny_call_entry slot_list_sort (⟨_,hoL,rfl⟩) entry_list_sort ?body (args_list_sort (.ref _))))
 case body =>
  rw[list_sort_plain]
  refine wpAny_bind (listItems_at hoL rfl ?_)
  refine wpAny_bind (listUpdate_at hoL rfl ?_ (by rw[List.size_toArray,sizeLine_eq]; lia) (Nat.zero_le _))
  obtain⟨e1,ho1⟩:∃ e1,((g1.push (seqObj "list" vs.toArray 0)).update g1.objs.size (Obj.mapSeq fun _=>(#[]:Array Value))).get? g1.objs.size=some (seqObj "list" #[] e1):=⟨_,get?_update_seq hoL fun _=>#[]⟩
  refine wpAny_bind (seqEpoch_at ho1 rfl (wpAny_bind (wpAny_newTuple (wpAny_bind (wpAny_newList (wpAny_holding ?_) (Nat.zero_le _))) few)))
  dsimp only
  have hv2:vs.toArray.size < 2:=by rw[List.size_toArray]; exact h2
  rw[if_pos hv2,if_pos hv2]
  refine wpAny_bind (wpAny_pure ?_)
  rw[StateT.run_pure]
  refine wpAny_bind (wpAny_pure ?_)
  dsimp only
  generalize hg3:(((g1.push (seqObj "list" vs.toArray 0)).update g1.objs.size (Obj.mapSeq fun _=>(#[]:Array Value))).push (seqObj "tuple" vs.toArray 0)).push (seqObj "list" #[] 0)=g3
  have ho3:g3.get? g1.objs.size=some (seqObj "list" #[] e1):=by rw[← hg3]; exact Heap.get?_push_of_some _ (Heap.get?_push_of_some _ ho1)
  have k3:∀ b o,b≠g1.objs.size->s.heap.get? b=some o->g3.get? b=some o:=fun b o hb q=>by
   have q1:=k1 b o q
   rw[← hg3]
   refine Heap.get?_push_of_some _ (Heap.get?_push_of_some _ ?_)
   rw[Heap.get?_update_ne _ _ _ _ hb]
   exact Heap.get?_push_of_some _ q1
  refine wpAny_bind (seqEpoch_at ho3 rfl ?_)
  have eo:∀ us:List Value,us.length < 2->(us.toArray.zip us.toArray).map (·.2)=us.toArray:=fun us hu=>by
   match us,hu with
   | [],_=>simp
   | [v],_=>simp
   | _::_::_,hu=>simp at hu; lia
  have eout:(arrOf (SortSt.mk' general' (vs.toArray.zip vs.toArray) #[] 7 none)).map (·.2)=vs.toArray:=eo vs h2
  rw[eout]
  refine wpAny_bind (listUpdate_at ho3 rfl ?_ (Nat.zero_le _) (by rw[List.size_toArray,sizeLine_eq]; lia))
  simp only[show failedOf (SortSt.mk' general' (vs.toArray.zip vs.toArray) #[] 7 none)=none from rfl,bne_self_eq_false,Bool.false_eq_true,if_false]
  refine wpAny_pure ⟨_,rfl,wpAny_pure ⟨_,rfl,?_⟩⟩
  obtain⟨c2,hc2⟩:∃ c2,(g3.update g1.objs.size (Obj.mapSeq fun _=>vs.toArray)).get? g1.objs.size=some (seqObj "list" vs.toArray c2):=⟨_,get?_update_seq ho3 fun _=>vs.toArray⟩
  refine h g1.objs.size _ c2 (by lia) (fun b o q=>?_) hc2
  have hb:b≠g1.objs.size:=Nat.ne_of_lt (by rw[hsz]; exact Nat.lt_succ_of_lt (Heap.lt_size q))
  rw[Heap.get?_update_ne _ _ _ _ hb]
  exact k3 b o hb q
end
structure SrtOk(M:Mem)(xs:List D):Prop where
 len:xs.length < 64
 ok:∀ x∈xs,okP eqN x=true
 cm:∀ x∈xs,∀ y∈xs,gu M eqN x y=true
 kd:(∀ x∈xs,∃ z,x=.str z)\/(∀ x∈xs,∃ i,x=.int i)\/(∀ x∈xs,∃ z r,x=.tup (.str z::r))\/(∀ x∈xs,∃ i r,x=.tup (.int i::r))\/(∀ x∈xs,∃ z r,x=.tup (.tup z::r))
structure SrtG(M:Mem)(xs:List D):Prop where
 len:xs.length < 64
 okd:∀ x∈xs,okD M eqN x=true
 cm:∀ x∈xs,∀ y∈xs,gu M eqN x y=true
 kd:(∀ x∈xs,∃ z,x=.str z)\/(∀ x∈xs,∃ i,x=.int i)\/(∀ x∈xs,∃ z r,x=.tup (.str z::r))\/(∀ x∈xs,∃ i r,x=.tup (.int i::r))\/(∀ x∈xs,∃ z r,x=.tup (.tup z::r))
 od:∃ en:D->List Int,∀ a∈xs,∀ b∈xs,ltD M eqN a b=decide (en a < en b)
theorem SrtOk.g(so:SrtOk M xs):SrtG M xs :=
 ⟨so.len,fun x hx=>Do M _ _ (so.ok x hx),so.cm,so.kd,enc eqN,fun a ha b hb=>lG (so.ok a ha) (so.ok b hb) (so.cm a ha b hb)⟩
def BZ(M:Mem)(ys:List D):Prop:=ys.Pairwise fun a b=>ltD M eqN b a=false
def fg:DRA:=fun ds M Q=>match ds with
 | [.ref n]=>∃ xs,ao M n xs/\SrtG M xs/\∀ ys,ys.Perm xs->BZ M ys->Q (.ref M.length) (M++[.lst ys])
 | _=>False
theorem Reps.perm{K:PySem.W.Frag}{ρ:List Addr}{H:Hp}{ds:List D}{vs:List V}(r:Reps K ρ H ds vs)(is:List Nat)(hi:∀ i∈is,i < ds.length):Reps K ρ H (is.map fun i=>ds.getD i .non) (is.map fun i=>vs.getD i .non):=by
 induction is with
 | nil=>exact .nil
 | cons i is ih =>
  have h:=hi i List.mem_cons_self
  obtain⟨v,e,rv⟩:=r.get (List.getElem?_eq_getElem h)
  refine .cons ?_ (ih fun j hj=>hi j (List.mem_cons_of_mem _ hj))
  show Rep K ρ H (ds.getD i .non) (vs.getD i .non)
  rw[List.getD_eq_getElem?_getD,List.getD_eq_getElem?_getD,e,List.getElem?_eq_getElem h]
  exact rv
theorem ar.perm(r:ar vs us)(is:List Nat)(hi:∀ i∈is,i < vs.length):ar (is.map fun i=>vs.getD i .non) (is.map fun i=>us.getD i .none):=by
 induction is with
 | nil=>exact .nil
 | cons i is ih =>
  have h:=hi i List.mem_cons_self
  obtain⟨v,e,rv⟩:=fG r (List.getElem?_eq_getElem h)
  refine .cons ?_ (ih fun j hj=>hi j (List.mem_cons_of_mem _ hj))
  show aJ (vs.getD i .non) (us.getD i .none)
  rw[List.getD_eq_getElem?_getD,List.getD_eq_getElem?_getD,e,List.getElem?_eq_getElem h]
  exact rv
instance:Inhabited D:=⟨.non⟩
section
variable{X:Cx}{pins:List (Addr×Obj)}{σ:St}{H:Hp}{s:Shared}{ρ:List Addr}{M:Mem}
theorem AO:∀ (o:HO),bW P w H h a o->∃ u,h.get? a=some u
 | .lst _,⟨_,_,_,_,e⟩=>⟨_,e⟩
 | .tup _,⟨_,_,_,o,e,_⟩=>⟨o,e⟩
 | .dK _,⟨_,_,_,_,_,_,_,e,_⟩=>⟨_,e⟩
 | .dT _,⟨_,_,_,_,o,_,_,e,_⟩=>⟨o,e⟩
 | .set _ _,x=>by obtain⟨o,_,_,_,e,_⟩:=x; exact⟨_,e⟩
 | .ins _ _ _,⟨_,_,_,e,_⟩=>⟨_,e⟩
 | .own _,x=>x
 | .xd _,⟨_,⟨_,_,_,e,_⟩,_⟩=>⟨_,e⟩
 | .rng _ _,⟨_,_,_,e⟩=>⟨_,e⟩
 | .frz _ _,⟨e,_⟩=>⟨_,e⟩
 | .tbl _,e=>⟨_,e⟩
 | .met _ _,e=>⟨_,e⟩
 | .ext _,⟨_,e,_⟩=>e
theorem HOk.none(x:HOk P w H h)(e:h.get? a=none):H a=none:=by
 cases q:H a with
 | none=>rfl
 | some o =>
  exfalso
  obtain⟨u,hu⟩:=AO o (x a o q)
  rw[e] at hu; cases hu
theorem AV(I:Inv X pins σ H s)(sm:Sim X.K ρ M H)(n:Nat)(A:Around)(hu:A.units+n < cLine):∀ (ds es:List D) (vs ws:List V) (its jts:List Value),Reps X.K ρ H ds vs->ar vs its->Reps X.K ρ H es ws->ar ws jts->ds.all (okD M n)=true->es.all (okD M n)=true ->
  wV (eqD M n) (gu M n) ds es=true->LexAt A s its jts (pc (eqD M n) (ltD M n) ds es):=by
 intro ds
 induction ds with
 | nil =>
  intro es vs ws its jts p1 q1 p2 q2 _ _ _
  cases p1; cases q1
  cases p2 with
  | nil=>cases q2; exact .nn
  | cons _ _=>cases q2; exact .nc
 | cons d ds hi =>
  intro es vs ws its jts p1 q1 p2 q2 k1 k2 k3
  cases p1 with
  | cons a1 p1 =>
   cases q1 with
   | cons b1 q1 =>
    cases p2 with
    | nil=>cases q2; exact .cn
    | @cons e _ es' _ a2 p2 =>
     cases q2 with
     | cons b2 q2 =>
      rw[List.all_cons,Bool.and_eq_true] at k1 k2
      have he:=(jh I sm n A d _ _ _ _ _ hu a1 b1 a2 b2 k1.1 k2.1).1
      rw[pc]
      rw[wV] at k3
      by_cases hq:eqD M n d e=true
      ·rw[hq] at he
       rw[if_pos hq] at k3 ⊢
       exact .eq he (hi _ _ _ _ _ p1 q1 p2 q2 k1.2 k2.2 k3)
      ·have hq':=Bool.eq_false_iff.mpr hq
       rw[hq'] at he
       rw[if_neg hq] at k3 ⊢
       exact .ne he (vB I sm n A _ _ _ _ _ _ hu a1 b1 a2 b2 k1.1 k2.1 k3)
end
section
variable{prog:Program}{w:World}{A:Around}{s:Shared}{b:Bool}{Q:Bool->Shared->Prop}
theorem yd(h:LexAt A s its jts k):∀ (i:Nat),(b&&i==0)=false->(b&&i+1==0)=false->Q k s->KatLex prog w A b (decide (its.length < jts.length)) Q (its.zip jts) i s:=by
 have un:∀ i:Nat,(b&&i+1==0)=false:=fun i=>by cases b <;> simp
 induction h with
 | nn=>intro i _ _ q; exact q
 | nc=>intro i _ _ q; exact(show Q (decide (0 < _+1)) s by rw[decide_eq_true (Nat.succ_pos _)]; exact q)
 | cn=>intro i _ _ q; exact(show Q (decide (_+1 < 0)) s by rw[decide_eq_false (Nat.not_lt_zero _)]; exact q)
 | @eq x y xs ys k he t ih =>
  intro i hb _ q
  refine kat_cons (he prog w _ _ (kat_yes ?_))
  have:=ih (i+1) (un i) (un (i+1)) q
  rw[show decide ((x::xs).length < (y::ys).length)=decide (xs.length < ys.length) by simp]
  exact this
 | @ne x y xs ys k he t =>
  intro i hb _ q
  refine kat_cons (he prog w _ _ (kat_no ?_))
  rw[hb]
  exact kat_one _ _ (t prog w _ _ q)
theorem vY(he:SeqAt.EqAt A s p q e)(hl:e=false->∀ Q':Bool->Shared->Prop,Q' l s->wpAny (model prog w) A (oneLt' (b&&0==0) p q) Q' (fun _ _=>False) s)(ht:e=true->LexAt A s its jts k)(h:Q (if e=true then k else l) s) :
  KatLex prog w A b (decide ((p::its).length < (q::jts).length)) Q ((p::its).zip (q::jts)) 0 s:=by
 refine kat_cons (he prog w _ _ ?_)
 cases e with
 | true =>
  refine kat_yes ?_
  rw[show decide ((p::its).length < (q::jts).length)=decide (its.length < jts.length) by simp]
  exact yd (ht rfl) 1 (by cases b <;> rfl) (by cases b <;> rfl) h
 | false=>exact kat_no (hl rfl _ h)
end
section
variable{X:Cx}{pins:List (Addr×Obj)}{σ:St}{H:Hp}{s:Shared}{ρ:List Addr}{M:Mem}
theorem mW{M:Model}{h:Heap}{x:Str}{t:Tok}:Looks M h (typeOf (.str x t)) (.type "str"):=Looks.of_pure rfl
theorem mX{M:Model}{h:Heap}{x:Int}{t:Tok}:Looks M h (typeOf (.int x t)) (.type "int"):=Looks.of_pure rfl
theorem Reps.getD'(r:Reps X.K ρ H ds vs)(rr:ar vs its)(h:i < ds.length):∃ v,Rep X.K ρ H (ds.getD i default) v/\aJ v (its.getD i .none)/\ds.getD i default∈ds:=by
 obtain⟨v,e,rv⟩:=r.get (List.getElem?_eq_getElem h)
 obtain⟨u,e',ru⟩:=fG rr e
 refine⟨v,?_,?_,?_⟩
 ·rw[List.getD_eq_getElem?_getD,List.getElem?_eq_getElem h]; exact rv
 ·rw[List.getD_eq_getElem?_getD,e']; exact ru
 ·rw[List.getD_eq_getElem?_getD,List.getElem?_eq_getElem h]; exact List.getElem_mem h
theorem Reps.mem(r:Reps X.K ρ H ds vs)(rr:ar vs its)(h:u∈its):∃ d v,d∈ds/\Rep X.K ρ H d v/\aJ v u:=by
 induction ds generalizing vs its with
 | nil=>cases r; cases rr; cases h
 | cons d0 ds ih =>
  cases r with
  | cons r1 r =>
   cases rr with
   | cons q1 q =>
    rcases(List.mem_cons (a:=u)).mp h with rfl | h
    ·exact⟨_,_,List.mem_cons_self,r1,q1⟩
    ·obtain⟨d,v,h1,h2,h3⟩:=ih r q h
     exact⟨d,v,List.mem_cons_of_mem _ h1,h2,h3⟩
theorem pz(I:Inv X pins σ H s)(r:Reps X.K ρ H xs ws)(rr:ar ws its)(hx:∀ x∈xs,∃ f r,x=.tup (f::r)) :
  ∃ fs,KatTups s.heap its fs/\fs.length=its.length/\∀ u∈fs,∃ d v,Rep X.K ρ H d v/\aJ v u/\∃ r,D.tup (d::r)∈xs:=by
 induction xs generalizing ws its with
 | nil=>cases r; cases rr; exact⟨[],.nil,rfl,fun _ z=>nomatch z⟩
 | cons d ds ih =>
  cases r with
  | cons r1 r =>
   cases rr with
   | cons q1 q =>
    obtain⟨fs,h1,h2,h3⟩:=ih r q fun x hx'=>hx x (List.mem_cons_of_mem _ hx')
    obtain⟨f,aN,rfl⟩:=hx d List.mem_cons_self
    cases r1 with
    | tup hq rs =>
     cases q1
     obtain⟨its,rv,pl,hz⟩:=I.tuple hq
     cases rs with
     | cons a1 rs =>
      cases rv with
      | cons b1 rv =>
       obtain⟨o,ho,hc,n,hd⟩:=pl
       refine⟨_::fs,.cons ho hc hd rfl h1,by simp[h2],fun u hu=>?_⟩
       rcases List.mem_cons.mp hu with rfl | hu
       ·exact⟨_,_,a1,b1,_,List.mem_cons_self⟩
       ·obtain⟨d,v,e1,e2,r',e3⟩:=h3 u hu
        exact⟨d,v,e1,e2,r',List.mem_cons_of_mem _ e3⟩
def ltc(M:Mem)(xs:List D)(i j:Nat):Bool:=ltD M eqN (xs.getD i default) (xs.getD j default)
theorem iE(I:Inv X pins σ H s)(sm:Sim X.K ρ M H){xs:List D}{ws:List V}{its:List Value}(so:SrtG M xs)(r:Reps X.K ρ H xs ws)(rr:ar ws its)(h2:2<=its.length){A:Around}(hu:A.units+eqN < cLine) :
  wpAny (model X.prog X.w) A (keyKind' its.toArray) (fun κ s'=>s'=s/\∀ i j (C:Bool->Shared->Prop),i < its.length->j < its.length->C (ltc M xs i j) s->kas_ask X.prog X.w A κ its i j C s) (fun _ _=>False) s:=by
 have lw:=r.length
 have li:=rr.length
 have le:xs.length=its.length:=by lia
 have tups:∀ (b:Bool),(∀ x∈xs,∃ f r,x=.tup (f::r))->(∀ (f g:D) (vf vg:V) (p q:Value) (r r':List D),D.tup (f::r)∈xs->D.tup (g::r')∈xs->Rep X.K ρ H f vf->aJ vf p->Rep X.K ρ H g vg->aJ vg q ->
   (eqD M 29 f g=false->∀ Q':Bool->Shared->Prop,Q' (ltD M 29 f g) s->wpAny (model X.prog X.w) A (oneLt' (b&&0==0) p q) Q' (fun _ _=>False) s)) ->
   ∀ i j (C:Bool->Shared->Prop),i < its.length->j < its.length->C (ltc M xs i j) s->kas_ask X.prog X.w A (tuples' b) its i j C s:=by
  intro b hx hone i j C hi hj hc
  unfold kas_ask
  obtain⟨v1,r1,e1,m1⟩:=r.getD' rr (show i < xs.length by lia)
  obtain⟨v2,r2,e2,m2⟩:=r.getD' rr (show j < xs.length by lia)
  unfold ltc at hc
  have k1:=so.okd _ m1
  have k2:=so.okd _ m2
  have k3:=so.cm _ m1 _ m2
  generalize xs.getD i default=x at *
  generalize xs.getD j default=y at *
  obtain⟨f,rf,rfl⟩:=hx _ m1
  obtain⟨g,rg,rfl⟩:=hx _ m2
  cases r1 with
  | tup hq rs =>
   cases r2 with
   | tup hq' rs' =>
    generalize its.getD i .none=u1 at *
    generalize its.getD j .none=u2 at *
    cases e1; cases e2
    obtain⟨as,ra,pa,_⟩:=I.tuple hq
    obtain⟨bs,rb,pb,_⟩:=I.tuple hq'
    obtain⟨o,ho,_,n,hd⟩:=pa
    obtain⟨o',ho',_,n',hd'⟩:=pb
    refine kat_lt ho hd ho' hd' ?_
    cases rs with
    | cons a1 rs =>
     cases ra with
     | @cons _ p _ la b1 ra =>
      cases rs' with
      | cons a2 rs' =>
       cases rb with
       | @cons _ q _ lb b2 rb =>
        have hu':A.units+29 < cLine:=by have:eqN=30:=rfl; lia
        have z1:okD M 29 f=true/\rf.all (okD M 29)=true:=by
         have:(f::rf).all (okD M 29)=true:=k1
         rwa [List.all_cons,Bool.and_eq_true] at this
        have z2:okD M 29 g=true/\rg.all (okD M 29)=true:=by
         have:(g::rg).all (okD M 29)=true:=k2
         rwa [List.all_cons,Bool.and_eq_true] at this
        have z3:(if eqD M 29 f g=true then wV (eqD M 29) (gu M 29) rf rg else gu M 29 f g)=true:=k3
        have he:=(jh I sm 29 A _ _ _ _ _ _ hu' a1 b1 a2 b2 z1.1 z2.1).1
        have hc':C (if eqD M 29 f g=true then pc (eqD M 29) (ltD M 29) rf rg else ltD M 29 f g) s:=hc
        cases hq3:eqD M 29 f g with
        | true =>
         rw[hq3] at he hc' z3
         have:=vY (prog:=X.prog) (w:=X.w) (b:=b) (Q:=C) (l:=true) he (fun z=>nomatch z) (fun _=>AV I sm 29 A hu' _ _ _ _ _ _ rs ra rs' rb z1.2 z2.2 z3) hc'
         simpa using this
        | false =>
         rw[hq3] at he hc'
         have:=vY (prog:=X.prog) (w:=X.w) (b:=b) (Q:=C) (l:=ltD M 29 f g) (its:=la) (jts:=lb) (k:=true) he (fun _=>hone f g _ _ _ _ _ _ m1 m2 a1 b1 a2 b2 hq3) (fun z=>nomatch z) hc'
         simpa using this
 have fin:∀ (κ:SortKind),(∀ i j (C:Bool->Shared->Prop),i < its.length->j < its.length->C (ltc M xs i j) s->kas_ask X.prog X.w A κ its i j C s)->(s=s/\∀ i j (C:Bool->Shared->Prop),i < its.length->j < its.length->C (ltc M xs i j) s->kas_ask X.prog X.w A κ its i j C s):=fun κ h=>⟨rfl,h⟩
 have eqn:A.units+29 < cLine:=by have:eqN=30:=rfl; lia
 rcases so.kd with hk | hk | hk | hk | hk
 ·refine kas_kind (T:=.type "str") h2 (fun u hu=>?_) (by decide) (by decide) (fin _ fun i j C hi hj hc=>?_)
  ·obtain⟨d,v,m1,r1,e1⟩:=r.mem rr hu
   obtain⟨z,rfl⟩:=hk d m1
   cases r1
   obtain⟨t,rfl⟩:=e1
   exact mW
  ·unfold kas_ask
   obtain⟨v1,r1,e1,m1⟩:=r.getD' rr (show i < xs.length by lia)
   obtain⟨v2,r2,e2,m2⟩:=r.getD' rr (show j < xs.length by lia)
   unfold ltc at hc
   obtain⟨z,hz⟩:=hk _ m1
   obtain⟨z',hz'⟩:=hk _ m2
   rw[hz] at r1 hc
   rw[hz'] at r2 hc
   cases r1; cases r2
   obtain⟨t,h1⟩:=e1
   obtain⟨t',h2⟩:=e2
   rw[h1,h2]
   exact kas_lt_str hc
 ·refine kas_kind (T:=.type "int") h2 (fun u hu=>?_) (by decide) (by decide) (fin _ fun i j C hi hj hc=>?_)
  ·obtain⟨d,v,m1,r1,e1⟩:=r.mem rr hu
   obtain⟨z,rfl⟩:=hk d m1
   cases r1
   obtain⟨t,rfl⟩:=e1
   exact mX
  ·unfold kas_ask
   obtain⟨v1,r1,e1,m1⟩:=r.getD' rr (show i < xs.length by lia)
   obtain⟨v2,r2,e2,m2⟩:=r.getD' rr (show j < xs.length by lia)
   unfold ltc at hc
   obtain⟨z,hz⟩:=hk _ m1
   obtain⟨z',hz'⟩:=hk _ m2
   rw[hz] at r1 hc
   rw[hz'] at r2 hc
   cases r1; cases r2
   obtain⟨t,h1⟩:=e1
   obtain⟨t',h2⟩:=e2
   rw[h1,h2]
   exact kat_lt_int hc
 ·obtain⟨fs,t1,t2,t3⟩:=pz I r rr fun x hx=>(hk x hx).elim fun z ⟨r,e⟩=>⟨_,_,e⟩
  refine kat_kind (T:=.type "str") t1 (by lia) (fun u hu=>?_) (by decide) (fin _ (tups _ (fun x hx=>(hk x hx).elim fun z ⟨r,e⟩=>⟨_,_,e⟩) fun f g vf vg p q r r' m1 m2 r1 e1 r2 e2 hq Q' h=>?_))
  ·obtain⟨d,v,r1,e1,r',m1⟩:=t3 u hu
   obtain⟨z,r'',e⟩:=hk _ m1
   cases e
   cases r1
   obtain⟨t,rfl⟩:=e1
   exact mW
  ·obtain⟨z,_,e⟩:=hk _ m1
   cases e
   obtain⟨z',_,e'⟩:=hk _ m2
   cases e'
   cases r1; cases r2
   obtain⟨t,rfl⟩:=e1
   obtain⟨t',rfl⟩:=e2
   exact oneLt_str h
 ·obtain⟨fs,t1,t2,t3⟩:=pz I r rr fun x hx=>(hk x hx).elim fun z ⟨r,e⟩=>⟨_,_,e⟩
  refine kat_kind (T:=.type "int") t1 (by lia) (fun u hu=>?_) (by decide) (fin _ (tups _ (fun x hx=>(hk x hx).elim fun z ⟨r,e⟩=>⟨_,_,e⟩) fun f g vf vg p q r r' m1 m2 r1 e1 r2 e2 hq Q' h=>?_))
  ·obtain⟨d,v,r1,e1,r',m1⟩:=t3 u hu
   obtain⟨z,r'',e⟩:=hk _ m1
   cases e
   cases r1
   obtain⟨t,rfl⟩:=e1
   exact mX
  ·obtain⟨z,_,e⟩:=hk _ m1
   cases e
   obtain⟨z',_,e'⟩:=hk _ m2
   cases e'
   cases r1; cases r2
   obtain⟨t,rfl⟩:=e1
   obtain⟨t',rfl⟩:=e2
   exact oneLt_int h
 ·obtain⟨fs,t1,t2,t3⟩:=pz I r rr fun x hx=>(hk x hx).elim fun z ⟨r,e⟩=>⟨_,_,e⟩
  refine kat_kind (T:=.type "tuple") t1 (by lia) (fun u hu=>?_) (by decide) (fin _ (tups _ (fun x hx=>(hk x hx).elim fun z ⟨r,e⟩=>⟨_,_,e⟩) fun f g vf vg p q r r' m1 m2 r1 e1 r2 e2 hq Q' h=>?_))
  ·obtain⟨d,v,r1,e1,r',m1⟩:=t3 u hu
   obtain⟨z,r'',e⟩:=hk _ m1
   cases e
   cases r1 with
   | tup hq rs =>
    cases e1
    obtain⟨_,_,pl,_⟩:=I.tuple hq
    obtain⟨o,ho,hc,_⟩:=pl
    rw[← hc]
    exact(show Looks _ s.heap (typeOf (.ref _)) o.cls from (Looks.ld ho).andThen .now)
  ·have k1:okD M 29 f=true:=by
    have:(f::r).all (okD M 29)=true:=so.okd _ m1
    rw[List.all_cons,Bool.and_eq_true] at this
    exact this.1
   have k2:okD M 29 g=true:=by
    have:(g::r').all (okD M 29)=true:=so.okd _ m2
    rw[List.all_cons,Bool.and_eq_true] at this
    exact this.1
   have k3:(if eqD M 29 f g=true then wV (eqD M 29) (gu M 29) r r' else gu M 29 f g)=true:=so.cm _ m1 _ m2
   rw[hq] at k3
   exact kat_one _ _ (vB I sm 29 A _ _ _ _ _ _ eqn r1 e1 r2 e2 k1 k2 k3 _ _ _ _ h)
end
section
variable{X:Cx}{pins:List (Addr×Obj)}{σ:St}{H:Hp}{s:Shared}{ρ:List Addr}{M:Mem}
theorem AE(so:SrtG M xs):(∀ a∈xs,ltD M eqN a a=false)/\(∀ a∈xs,∀ b∈xs,∀ d∈xs,ltD M eqN a b=true->ltD M eqN b d=true->ltD M eqN a d=true)/\∀ a∈xs,∀ b∈xs,∀ d∈xs,ltD M eqN a d=true->ltD M eqN a b=true\/ltD M eqN b d=true:=by
 obtain⟨en,e⟩:=so.od
 refine⟨fun a ha=>?_,fun a ha b hb d hd h1 h2=>?_,fun a ha b hb d hd h=>?_⟩
 ·rw[e a ha a ha,decide_eq_false (List.lt_irrefl _)]
 ·rw[e a ha b hb,decide_eq_true_eq] at h1
  rw[e b hb d hd,decide_eq_true_eq] at h2
  rw[e a ha d hd,decide_eq_true_eq]
  exact List.lt_trans h1 h2
 ·rw[e a ha d hd,decide_eq_true_eq] at h
  rw[e a ha b hb,e b hb d hd,decide_eq_true_eq,decide_eq_true_eq]
  by_cases z:en a < en b
  ·exact .inl z
  ·have z':en b<=en a:=z
   exact .inr (List.lt_of_le_of_lt z' h)
theorem xh{k:Nat}{l:Addr}{xs:List D}{ws:List V}{its:List Value}{R:VK}(hr:Room k X.A)(I:Inv X pins σ H s)(sm:Sim X.K ρ M H)(so:SrtG M xs)(r:Reps X.K ρ H xs ws)(rr:ar ws its)(hl:s.heap.IsList l its.toArray)(hz:ws.length<=sizeLine)(h2:2<=its.length)(h64:its.length < 64)
  (hne:l≠X.env.locals) (kk:∀ v H',((∀ Q:DK,(∀ ys,ys.Perm xs->BZ M ys->Q (.ref M.length) (M++[.lst ys]))->VQ X.K ρ H Q v H'))->R v H') :
  wpAny (model X.prog X.w) X.A (call (.builtin "sorted") [.ref l]) (EP X pins σ R) X.xe s:=by
 obtain⟨m,hn,hm⟩:=I.loc
 have lw:=r.length
 have li:=rr.length
 obtain⟨ol,hol,_⟩:=id hl
 have mem:∀ a o,(a,o)∈[]++(l,ol)::Att.ledger s.heap X.env.locals l↔a≠X.env.locals/\s.heap.get? a=some o:=fun a o=>by
  rw[List.nil_append,List.mem_cons,Att.mem_ledger]
  constructor
  ·rintro(h | ⟨h1,_,h3⟩)
   ·cases h; exact⟨hne,hol⟩
   ·exact⟨h1,h3⟩
  ·rintro⟨h1,h2⟩
   by_cases hal:a=l
   ·subst hal
    rw[hol] at h2; cases h2
    exact .inl rfl
   ·exact .inr ⟨h1,hal,h2⟩
 refine kat_sorted (Att.fr_all hn) (Att.news_ledger hne hol) hl h2 h64 fun D e1 h' F' N' lt=>?_
 have kp:∀ b u,b≠X.env.locals->s.heap.get? b=some u->h'.get? b=some u:=fun b u hb e=>(N' (b,u) (List.mem_cons_of_mem _ ((mem b u).mpr ⟨hb,e⟩))).1
 have hDL:D≠X.env.locals:=(N' _ List.mem_cons_self).2.1
 have hD:s.heap.get? D=none:=by
  cases q:s.heap.get? D with
  | none=>rfl
  | some o=>exact absurd (lt (D,o) ((mem D o).mpr ⟨hDL,q⟩)) (Nat.lt_irrefl _)
 have I':Inv X pins σ H { s with heap:=h' }:=I.keptF (t':=s.toks) kp hn F'.ns
 have hu:X.A.in1.in1.units+eqN < cLine:=by
  have:=hr.un
  have:eqN=30:=rfl
  show X.A.units+1+1+eqN < cLine
  lia
 refine wpAny_mono (iE I' sm so r rr h2 hu) (fun κ s' hk=>?_) fun _ _ x=>x
 obtain⟨rfl,hask⟩:=hk
 refine Srt.wp_run (n:=its.length) (c:=fun i j=>if i < xs.length then (if j < xs.length then ltD M eqN (xs.getD i default) (xs.getD j default) else true) else false) (fun i j C hi hj hc=>?_) _ (Srt.sort_bd (by lia)).1 ?_
 ·refine hask i j C hi hj ?_
  rw[if_pos (by lia),if_pos (by lia)] at hc
  exact hc
 ·have hent:=Srt.All.run (c:=fun i j=>if i < xs.length then (if j < xs.length then ltD M eqN (xs.getD i default) (xs.getD j default) else true) else false) _ (Srt.sort_bd (n:=its.length) (by lia)).2
  obtain⟨o1,o2,o3⟩:=AE so
  have hsl:=Srt.sort_list xs (by lia) o1 o2 o3
  try dsimp only at hsl
  rw[show xs.length=its.length by lia] at hsl hent ⊢
  generalize Srt.run _ (kas_sort its.length)=p at hent hsl ⊢
  have hi:∀ i∈p.toList,i < xs.length:=fun i h=>by
   have:=hent.mem_iff.mp h
   rw[List.mem_range] at this
   lia
  refine KasFin.intro F' N' (UpdF.head fun q hq=>Nat.ne_of_lt (lt q hq)) fun h2 c F2 N2=>?_
  have r':=r.perm p.toList hi
  have rr':=rr.perm p.toList (fun i h=>by have:=hi i h; lia)
  have hD':H D=none:=HOk.none I.hok hD
  refine⟨.ref D,_,I.laidF (t':=s.toks) (o:=.lst (p.toList.map fun i=>ws.getD i .non)) (fun b u hb e=>(N2 (b,u) (List.mem_cons_of_mem _ ((mem b u).mpr ⟨hb,e⟩))).1) hn F2.ns hD hD' ⟨?_,_,c,rr',(N2 _ List.mem_cons_self).1⟩,rfl,
   kk _ _ fun Q hQ=>VQ.laidL sm .refl r' hD' (hQ _ hsl.1 hsl.2)⟩
  rw[List.length_map]
  have:=hsl.1.length_eq
  rw[List.length_map] at this
  lia
end
theorem Inv.sqL_ne(I:Inv X pins σ H s)(h:SqL X.K H a xs):a≠X.env.locals:=by
 rcases h with h | ⟨o,its,n,hk,_⟩
 ·rcases h with h | ⟨_,h⟩
  ·exact ad h I.free
  ·exact ad h I.free
 ·have:=Heap.lt_size (I.mod.kin a o hk)
  exact Nat.ne_of_lt (Nat.lt_of_lt_of_le this (Nat.le_trans I.ok.bsz I.ok.above))
section
variable{X:Cx}
theorem wI(hr:Room k X.A):jI X (.builtin "sorted") fg:=by
 intro pins s σ H vs us R I rv ⟨ds,M,ρ,Q,sm,rs,q,kk⟩
 unfold fg at q
 split at q
 ·obtain⟨xs,hL,so,q⟩:=q
  cases rs with
  | cons r1 rs =>
   cases rs
   obtain⟨u,rfl,e1⟩:=ar.one rv
   cases r1 with
   | ref e =>
    cases e1
    obtain⟨ws,hq,r⟩:=ao.seq sm hL e
    obtain⟨its,rr,pl,hz⟩:=I.list hq
    have lw:=r.length
    have li:=rr.length
    by_cases h2:its.length < 2
    ·refine mI pl.isList h2 fun D h' n hD hk ho=>?_
     refine⟨.ref D,_,I.laid (t':=s.toks) (o:=.lst ws) hk hD ⟨hz,its,n,rr,ho⟩,rfl,kk _ _ (VQ.laidL sm .refl r (I.hok.fresh hD) (q xs (List.Perm.refl _) ?_))⟩
     unfold BZ
     match xs,(show xs.length < 2 by lia) with
     | [],_=>exact List.Pairwise.nil
     | [x],_=>exact List.pairwise_singleton _ _
     | _::_::_,hx=>simp at hx; lia
    ·have h2':2<=its.length:=by lia
     have h64:its.length < 64:=by have:=so.len; lia
     exact xh hr I sm so r rr pl.isList hz h2' h64 (I.sqL_ne hq) fun v H' x=>kk v H' (x Q q)
 ·exact q.elim
end
end L2
set_option maxRecDepth 100000
namespace L2
open PySem PySem.Spec PyProof.Rows DL PySem.W
section
variable{prog:Program}{w:World}{A:Around}{E:Value->Shared->Prop}{s:Shared}
end
structure ZA(z TI TO i1 i2:Addr)(f1 f2:List Addr):Prop where
 nd:[z,TI,TO,i1,i2].Nodup
 z1:z∉f1
 o1:TO∉f1
 y1:i2∉f1
 z2:z∉f2
 o2:TO∉f2
 x2:i1∉f2
section
variable{prog:Program}{w:World}{A:Around}{E:Value->Shared->Prop}{s:Shared}{z TI TO i1 i2:Addr}{f1 f2:List Addr}{n1 n2 k:Nat}{P1 P2:Nat->Value->Prop}{S1 S2:Nat->Heap->Prop}{a b:Value}
end
section
variable{X:Cx}{pins:List (Addr×Obj)}{σ:St}{H:Hp}{s:Shared}{h':Heap}
theorem Inv.turnedL{t':Nat}{fp:List Addr}(I:Inv X pins σ H s)(hf:∀ b∈fp,tM X pins H b)(k:∀ b o,b∉fp->s.heap.get? b=some o->h'.get? b=some o):Inv X pins σ H { s with heap:=h',toks:=t' }:=by
 have nfp:∀ b u,H b=some u->b∉fp:=fun b u e z=>by rw[(hf b z).1] at e; cases e
 refine I.step (g':=s.gens) (d':=s.drawn) (ch:=fp) (fun b hb=>⟨(hf b hb).2.2.2.1,(hf b hb).2.1,(hf b hb).2.2.2.2.1,(hf b hb).2.2.2.2.2⟩) (fun b o _ _ hc e _=>k b o hc e) (fun b o _ _ hc e _=>⟨o.slots,k b o hc e⟩) (fun _ _ _ _ n=>n)
  (fun b o hc e=>⟨o,k b o hc e⟩) (fun _ _ e=>e) (fun _ _ _ e=>e) (fun b ps e=>⟨#[],by rw[e]; simp⟩) (fun m hm=>?_) (fun b u e=>?_) I.bare
 ·obtain⟨o,es,ep,ho,r⟩:=hm
  exact⟨o,es,ep,k _ o (fun z=>(hf _ z).2.1 rfl) ho,r⟩
 ·refine(I.hok b u e).stay (fun c v hc q=>k c v ?_ q) (fun _ q=>q) fun _ _ q=>q
  rcases hc with rfl | z
  ·exact nfp _ u e
  ·exact nfp _ _ z
end
section
variable{prog:Program}{w:World}{A:Around}{E:Value->Shared->Prop}{s:Shared}
end
def zipD(xs ys:List D):List D:=(xs.zip ys).map fun p=>.tup [p.1,p.2]
def RowAt(M:Mem)(x:D)(xs:List D)(ok:Mem->Prop):Prop:=match x with
 | .tup ds=>xs=ds/\ok=fun _=>True
 | .ref n=>ao M n xs/\ok=fun M=>ao M n xs
 | _=>False
section
variable{X:Cx}
end
end L2
set_option maxRecDepth 100000
namespace L2
open PySem PySem.Spec PyProof.Rows DL PySem.W
section
variable{X:Cx}{e:Expr}{te:DTE}{pos p2:Pos}
end
section
variable{X:Cx}
end
end L2
set_option maxRecDepth 100000
namespace L2
open PySem PySem.Spec PyProof.Rows DL PySem.W
section
variable{prog:Program}{w:World}{A:Around}{E:Value->Shared->Prop}{s:Shared}
theorem oY{D:Addr}{vs:List Value}{n:Nat}{Q:Value->Shared->Prop}(ho:s.heap.get? D=some (seqObj "list" vs.toArray n))(h2:vs.length < 2)
  (h:∀ h' c,(∀ b o,b≠D->s.heap.get? b=some o->h'.get? b=some o)->h'.get? D=some (seqObj "list" vs.toArray c)->Q .none { s with heap:=h' }):wpAny (model prog w) A (call (.builtin "list.sort") [.ref D]) Q E s:=by
 have few:vs.length<=sizeLine:=by rw[sizeLine_eq]; lia
 refine wpAny_call_entry slot_list_sort (⟨_,ho,rfl⟩) entry_list_sort ?_ (args_list_sort (.ref D))
 rw[list_sort_plain]
 refine wpAny_bind (listItems_at ho rfl (wpAny_bind (listUpdate_at ho rfl ?_ (by rw[List.size_toArray]; exact few) (Nat.zero_le _))))
 obtain⟨e1,ho1⟩:∃ e1,(s.heap.update D (Obj.mapSeq fun _=>(#[]:Array Value))).get? D=some (seqObj "list" #[] e1):=⟨_,get?_update_seq ho fun _=>#[]⟩
 refine wpAny_bind (seqEpoch_at ho1 rfl (wpAny_bind (wpAny_newTuple (wpAny_bind (wpAny_newList (wpAny_holding ?_) (Nat.zero_le _))) few)))
 dsimp only
 have hv2:vs.toArray.size < 2:=by rw[List.size_toArray]; exact h2
 rw[if_pos hv2,if_pos hv2]
 refine wpAny_bind (wpAny_pure ?_)
 rw[StateT.run_pure]
 refine wpAny_bind (wpAny_pure ?_)
 dsimp only
 generalize hg3:((s.heap.update D (Obj.mapSeq fun _=>(#[]:Array Value))).push (seqObj "tuple" vs.toArray 0)).push (seqObj "list" #[] 0)=g3
 have ho3:g3.get? D=some (seqObj "list" #[] e1):=by rw[← hg3]; exact Heap.get?_push_of_some _ (Heap.get?_push_of_some _ ho1)
 have k3:∀ b o,b≠D->s.heap.get? b=some o->g3.get? b=some o:=fun b o hb q=>by
  rw[← hg3]
  refine Heap.get?_push_of_some _ (Heap.get?_push_of_some _ ?_)
  rw[Heap.get?_update_ne _ _ _ _ hb]
  exact q
 refine wpAny_bind (seqEpoch_at ho3 rfl ?_)
 have eo:∀ us:List Value,us.length < 2->(us.toArray.zip us.toArray).map (·.2)=us.toArray:=fun us hu=>by
  match us,hu with
  | [],_=>simp
  | [v],_=>simp
  | _::_::_,hu=>simp at hu; lia
 have eout:(arrOf (SortSt.mk' general' (vs.toArray.zip vs.toArray) #[] 7 none)).map (·.2)=vs.toArray:=eo vs h2
 rw[eout]
 refine wpAny_bind (listUpdate_at ho3 rfl ?_ (Nat.zero_le _) (by rw[List.size_toArray]; exact Nat.le_succ_of_le few))
 simp only[show failedOf (SortSt.mk' general' (vs.toArray.zip vs.toArray) #[] 7 none)=none from rfl,bne_self_eq_false,Bool.false_eq_true,if_false]
 obtain⟨c2,hc2⟩:∃ c2,(g3.update D (Obj.mapSeq fun _=>vs.toArray)).get? D=some (seqObj "list" vs.toArray c2):=⟨_,get?_update_seq ho3 fun _=>vs.toArray⟩
 refine wpAny_pure ⟨_,rfl,h _ c2 (fun b o hb q=>?_) hc2⟩
 rw[Heap.get?_update_ne _ _ _ _ hb]
 exact k3 b o hb q
end
section
variable{X:Cx}{pins:List (Addr×Obj)}{σ:St}{H:Hp}{s:Shared}{ρ:List Addr}{M:Mem}
theorem zZ{k:Nat}{D:Addr}{xs:List L2.D}{ws:List V}{its:List Value}{R:VK}{h1:Heap}{tk n:Nat}{m:Str->Option Value}{A:Around}{E:Value->Shared->Prop}(hr:Room k X.A)(hA:A.units<=X.A.units+4)(I:Inv X pins σ H s)(sm:Sim X.K ρ M H)(so:SrtG M xs)(r:Reps X.K ρ H xs ws)(rr:ar ws its)
  (hn:s.heap.Ns X.env.locals m) (hn1:h1.Ns X.env.locals m) (kp1:∀ b u,b≠X.env.locals->s.heap.get? b=some u->h1.get? b=some u) (hD:s.heap.get? D=none) (hne:D≠X.env.locals) (ho:h1.get? D=some (seqObj "list" its.toArray n))
  (kk:∀ v H',((∀ Q:DK,(∀ ys,ys.Perm xs->BZ M ys->Q (.ref M.length) (M++[.lst ys]))->VQ X.K ρ H Q v H'))->R v H') :
  wpAny (model X.prog X.w) A (call (.builtin "list.sort") [.ref D]) (fun _ s'=>EP X pins σ R (.ref D) s') E { s with heap:=h1,toks:=tk }:=by
 have lw:=r.length
 have li:=rr.length
 have l64:=so.len
 have hH:H D=none:=HOk.none I.hok hD
 have neD:∀ b u,s.heap.get? b=some u->b≠D:=fun b u e q=>by subst q; rw[hD] at e; cases e
 by_cases h2:its.length < 2
 ·refine oY ho h2 fun h' c kp' ho'=>?_
  have hn':h'.Ns X.env.locals m:=by
   obtain⟨o,es,ep,e,aN⟩:=hn1
   exact⟨o,es,ep,kp' _ _ (Ne.symm hne) e,aN⟩
  refine⟨.ref D,_,I.laidF (t':=tk) (o:=.lst ws) (fun b u hb e=>kp' b u (neD b u e) (kp1 b u hb e)) hn hn' hD hH ⟨by rw[sizeLine_eq]; lia,its,c,rr,ho'⟩,rfl,kk _ _ fun Q hQ=>VQ.laidL sm .refl r hH (hQ xs (List.Perm.refl _) ?_)⟩
  unfold BZ
  match xs,(show xs.length < 2 by lia) with
  | [],_=>exact List.Pairwise.nil
  | [x],_=>exact List.pairwise_singleton _ _
  | _::_::_,hx=>simp at hx; lia
 ·have h2':2<=its.length:=by lia
  have mem:∀ a o,(a,o)∈Att.ledger h1 X.env.locals D↔a≠X.env.locals/\a≠D/\h1.get? a=some o:=fun a o=>Att.mem_ledger
  have U:UpdF D (seqObj "list" its.toArray n) ([]++(D,seqObj "list" its.toArray n)::Att.ledger h1 X.env.locals D) fun o'=>(D,o')::Att.ledger h1 X.env.locals D:=UpdF.head fun p hp=>((mem p.1 p.2).mp hp).2.1
  refine kat_lsort (s:={ s with heap:=h1,toks:=tk }) (vs:=its) (Att.fr_all hn1) (Att.news_ledger hne ho) U rfl h2' (by lia) fun e1 h' F' N'=>?_
  have kp:∀ b u,b≠X.env.locals->s.heap.get? b=some u->h'.get? b=some u:=fun b u hb e=>(N' (b,u) (List.mem_cons_of_mem _ ((mem b u).mpr ⟨hb,neD b u e,kp1 b u hb e⟩))).1
  have I':Inv X pins σ H { s with heap:=h',toks:=tk }:=I.keptF (t':=tk) kp hn F'.ns
  have hu:A.in1.units+eqN < cLine:=by
   have:=hr.un
   have:eqN=30:=rfl
   show A.units+1+eqN < cLine
   lia
  refine wpAny_mono (iE I' sm so r rr h2' hu) (fun κ s' hk=>?_) fun _ _ x=>x
  obtain⟨rfl,hask⟩:=hk
  refine Srt.wp_run (n:=its.length) (c:=fun i j=>if i < xs.length then (if j < xs.length then ltD M eqN (xs.getD i default) (xs.getD j default) else true) else false) (fun i j C hi hj hc=>?_) _ (Srt.sort_bd (by lia)).1 ?_
  ·refine hask i j C hi hj ?_
   rw[if_pos (by lia),if_pos (by lia)] at hc
   exact hc
  ·have hent:=Srt.All.run (c:=fun i j=>if i < xs.length then (if j < xs.length then ltD M eqN (xs.getD i default) (xs.getD j default) else true) else false) _ (Srt.sort_bd (n:=its.length) (by lia)).2
   obtain⟨o1,o2,o3⟩:=AE so
   have hsl:=Srt.sort_list xs (by lia) o1 o2 o3
   try dsimp only at hsl
   rw[show xs.length=its.length by lia] at hsl hent ⊢
   generalize Srt.run _ (kas_sort its.length)=p at hent hsl ⊢
   have hi:∀ i∈p.toList,i < xs.length:=fun i h=>by
    have:=hent.mem_iff.mp h
    rw[List.mem_range] at this
    lia
   refine KasFin.intro F' N' (UpdF.head fun q hq=>((mem q.1 q.2).mp hq).2.1) fun h2 c F2 N2=>?_
   have r':=r.perm p.toList hi
   have rr':=rr.perm p.toList (fun i h=>by have:=hi i h; lia)
   refine⟨.ref D,_,I.laidF (t':=tk) (o:=.lst (p.toList.map fun i=>ws.getD i .non)) (fun b u hb e=>(N2 (b,u) (List.mem_cons_of_mem _ ((mem b u).mpr ⟨hb,neD b u e,kp1 b u hb e⟩))).1) hn F2.ns hD hH ⟨?_,_,c,rr',(N2 _ List.mem_cons_self).1⟩,rfl,
    kk _ _ fun Q hQ=>VQ.laidL sm .refl r' hH (hQ _ hsl.1 hsl.2)⟩
   rw[List.length_map]
   have:=hsl.1.length_eq
   rw[List.length_map] at this
   rw[sizeLine_eq]
   lia
end
section
variable{K:PySem.W.Frag}{ρ:List Addr}{H:Hp}{M:Mem}
theorem Sim.laidM(S:Sim K ρ M H)(hp:H p=none)(ok:tL K (ρ++[p]) (upd H p o) p mo):Sim K (ρ++[p]) (M++[mo]) (upd H p o):=by
 have g:Grow K ρ H (ρ++[p]) (upd H p o):=Grow.laidR hp
 have old:∀ (n:Nat),ρ[n]?=some p->isK M[n]?:=fun n e=>by
  rcases S.tracked e with ⟨o,q⟩ | q
  ·rw[hp] at q; cases q
  ·exact q
 refine⟨fun n m a hnm e1 e2=>?_,by rw[List.length_append,List.length_append,S.len]; rfl,fun n a mo' e1 e2=>?_⟩
 ·rcases aM e1 with f1 | ⟨f1,g1⟩
  ·rcases aM e2 with f2 | ⟨f2,g2⟩
   ·exact(S.nd n m a hnm f1 f2).elim (fun z=>.inl z.more) fun z=>.inr z.more
   ·subst g2
    exact .inl (old n f1).more
  ·rcases aM e2 with f2 | ⟨f2,g2⟩
   ·subst g1
    exact .inr (old m f2).more
   ·exact absurd (f1.trans f2.symm) hnm
 ·rcases aM e1 with f1 | ⟨f1,g1⟩
  ·have hn:n < M.length:=by rw[← S.len]; exact(List.getElem?_eq_some_iff.mp f1).1
   rw[List.getElem?_append_left hn] at e2
   exact(S.obj n a mo' f1 e2).grow g (S.keeps hp f1 e2)
  ·subst g1 f1
   rw[S.len,List.getElem?_append_right (Nat.le_refl _),Nat.sub_self] at e2
   simp at e2
   subst e2
   exact ok
def yM(kvs:List (Str×D))(k:Str):Option D:=(kvs.find? fun p=>decide (p.1=k)).map (·.2)
def uO(kvs:List (Str×D))(k:Str)(d:D):List (Str×D):=if (kvs.any fun p=>decide (p.1=k))=true then kvs.map (fun p=>if p.1=k then (p.1,d) else p) else kvs++[(k,d)]
theorem Bk(a b:Str):decide ((Sum.inr a:Key)=Sum.inr b)=decide (a=b):=zn a b
theorem pV:∀ {kvs:List (Str×D)}{vs:List V},Reps K ρ H (kvs.map (·.2)) vs->yM kvs k=some d->∃ v,tK (jq (kvs.map (·.1)) vs) (Sum.inr k)=some v/\Rep K ρ H d v
 | [],_,_,e=>by simp[yM] at e
 | (k',d')::kvs,_,.cons h t,e=>by
  by_cases q:k'=k
  ·subst q
   have:d'=d:=by simpa [yM] using e
   subst this
   exact⟨_,by simp[jq,tK],h⟩
  ·have e':yM kvs k=some d:=by simpa [yM,List.find?_cons,q] using e
   obtain⟨v,h1,h2⟩:=pV t e'
   refine⟨v,?_,h2⟩
   have:¬ (Sum.inr k':Key)=Sum.inr k:=fun z=>q (Sum.inr.inj z)
   simpa [jq,tK,List.find?_cons,this] using h1
theorem rU:∀ {kvs:List (Str×D)}{vs:List V},Reps K ρ H (kvs.map (·.2)) vs->((jq (kvs.map (·.1)) vs).any fun kv=>decide (kv.1=Sum.inr k))=kvs.any fun p=>decide (p.1=k)
 | [],_,_=>rfl
 | (k',d')::kvs,_,.cons h t=>by
  have ih:=rU (k:=k) t
  show (decide ((Sum.inr k':Key)=Sum.inr k)||(jq (kvs.map (·.1)) _).any _)=(decide (k'=k)||kvs.any _)
  rw[ih,Bk]
theorem qU(hd:Rep K ρ H d v):∀ {kvs:List (Str×D)}{vs:List V},Reps K ρ H (kvs.map (·.2)) vs->∃ vs',(jq (kvs.map (·.1)) vs).map (fun kv=>if kv.1=Sum.inr k then (kv.1,v) else kv)=jq ((kvs.map fun p=>if p.1=k then (p.1,d) else p).map (·.1)) vs'/\Reps K ρ H ((kvs.map fun p=>if p.1=k then (p.1,d) else p).map (·.2)) vs'
 | [],_,.nil=>⟨[],rfl,.nil⟩
 | (k',d')::kvs,_,.cons (v:=v') h t=>by
  obtain⟨vs',e,r⟩:=qU (k:=k) hd t
  by_cases q:k'=k
  ·subst q
   refine⟨v::vs',?_,?_⟩
   ·simp only[List.map_cons,if_true,jq,List.zip_cons_cons] at e ⊢
    rw[e]
   ·simp only[List.map_cons,if_true]
    exact .cons hd r
  ·have q':¬ (Sum.inr k':Key)=Sum.inr k:=fun z=>q (Sum.inr.inj z)
   refine⟨v'::vs',?_,?_⟩
   ·simp only[List.map_cons,if_neg q,if_neg q',jq,List.zip_cons_cons] at e ⊢
    rw[e]
   ·simp only[List.map_cons,if_neg q]
    exact .cons h r
theorem mJ:∀ {kvs:List (Str×D)}{vs:List V},Reps K ρ H (kvs.map (·.2)) vs->jq (kvs.map (·.1)) vs++[(Sum.inr k,v)]=jq (kvs.map (·.1)++[k]) (vs++[v])
 | [],_,.nil=>rfl
 | (k',d')::kvs,_,.cons h t=>by
  have:=mJ (k:=k) (v:=v) t
  simp only[List.map_cons,jq,List.zip_cons_cons,List.cons_append] at this ⊢
  rw[this]
theorem Ak(hd:Rep K ρ H d v)(r:Reps K ρ H (kvs.map (·.2)) vs):∃ vs',putK (jq (kvs.map (·.1)) vs) (Sum.inr k) v=jq ((uO kvs k d).map (·.1)) vs'/\Reps K ρ H ((uO kvs k d).map (·.2)) vs':=by
 unfold putK uO
 rw[rU r]
 by_cases q:(kvs.any fun p=>decide (p.1=k))=true
 ·rw[if_pos q,if_pos q]
  exact qU hd r
 ·rw[if_neg q,if_neg q]
  refine⟨vs++[v],?_,?_⟩
  ·rw[mJ r,List.map_append]
   rfl
  ·rw[List.map_append]
   exact r.append (.cons hd .nil)
end
section
variable{X:Cx}{o i value:Expr}{td ty tv:DTE}{pos pos':Pos}
def yC(td ty:DTE):DTE:=fun S M Q=>td S M fun x M1=>ty S M1 fun y M2=>match x,y with
 | .ref n,.str k=>∃ kvs d,M2[n]?=some (.dct kvs)/\yM kvs k=some d/\Q d M2
 | _,_=>False
theorem ER(hu:X.A.units+1 < cLine)(ho:DE X o td)(hi:DE X i ty)(hs:Ca i):DE X (.Subscript o i pos) (yC td ty):=by
 refine PE.imp (Av hu ho hi hs) fun σ H R ⟨S,M,ρ,Q,s,sr,q,k⟩=>⟨S,M,ρ,_,s,sr,q,fun v H1 ⟨d,M1,ρ1,s1,g1,r1,q1⟩=>⟨S,M1,ρ1,_,s1,sr.grow g1,q1,fun u H2 ⟨e,M2,ρ2,s2,g2,r2,q2⟩=>?_⟩⟩
 try dsimp only at q2
 split at q2
 ·obtain⟨kvs,d,hM,hv,q3⟩:=q2
  obtain⟨_,rfl,hn⟩:=Rep.inv_ref r1
  cases r2
  obtain⟨vs,hH,rr⟩:=s2.obj _ _ _ (aw g2.pre hn) hM
  obtain⟨w,e1,rw'⟩:=pV rr hv
  exact⟨_,w,rfl,.inl ⟨_,Sum.inr _,.inl hH,rfl,e1.symm⟩,k _ _ ⟨d,M2,ρ2,s2,g1.trans g2,rw',q3⟩⟩
 ·exact q2.elim
end
end L2
set_option maxRecDepth 100000
namespace L2
open PySem PySem.Spec PyProof.Rows DL PySem.W
structure HGs(X:Cx)(es:List Expr)(t:zO):Prop where
 ok:DGs X es t
section
variable{X:Cx}{e a b c o i tg:Expr}{es aN:List Expr}{te ta tb tc to ti:DTE}{t:DTA}{pos p p2 pos':Pos}{x:Str}{k:Nat}{g:DTG}{u:zO}{name:Str}{apos cpos:Pos}
theorem vU:HGs X [] nO:=⟨BB⟩
theorem rj(h1:HG X e g)(h2:HGs X es u)(hs:(assignEach (e::es) X.env).map (·.2)=assign e X.env::(assignEach es X.env).map (·.2):=by kernel_rfl):HGs X (e::es) (bT g u):=⟨yy h1.ok h2.ok hs⟩
theorem zj(h:HGs X es u)(hc:X.calm=true:=by kernel_rfl)(hn:(assignEach es X.env).length=n:=by kernel_rfl)(hst:(assignEach es X.env).findIdx? (·.1)=none:=by kernel_rfl):HG X (.Tuple es j pos) (nN n u):=⟨EI h.ok hc hn hst⟩
theorem zk(ho:HE X o to)(hi:HE X i ti)
  (ha:∀ v,assign (.Subscript o i pos) X.env v=(do
   let ov ← holding [v] (eval o X.env)
   let iv ← holding [v,ov] (eval i X.env)
   standAt pos
   holding [v,ov,iv] (setItem ov iv v)
   release [v,ov,iv] []):=by intro _; kernel_rfl):HG X (.Subscript o i pos) (yz to ti):=⟨EJ ho.ok hi.ok ha⟩
theorem qZ(he:HE X e te)(hg:HG X tg g)(hs:swapsWithSole [tg] e pos.line X.env=pure false:=by kernel_rfl)(hw:swappedStores [tg] e X.env=pure none:=by kernel_rfl)
  (h1:(assignEach [tg] X.env).map (·.2)=[assign tg X.env]:=by kernel_rfl):HS X (.Assign [tg] e pos) (dAsg te g):=⟨ED he.ok hg.ok hs hw h1⟩
theorem wk:HOp X (binaryOp .Add) bc:=⟨AN⟩
theorem zD(hr:Room k X.A):HOp X (compareOp .Lt) CD:=⟨Dt hr⟩
theorem rE:HC X (.type "tuple") fP:=⟨yF⟩
theorem nD:HMl X "extend" iJ:=⟨_,PySem.F.slot_list_extend,PySem.F.type_list_extend,sJ⟩
theorem xq(hr:Room k X.A):X.A.units+1 < cLine:=by have:=hr.un; lia
theorem zu(hr:Room k X.A)(ho:HE X o to)(hi:HE X i ti)(hs:Ca i:=by intro _ _; kernel_rfl):HE X (.Subscript o i pos) (yC to ti):=⟨ER (xq hr) ho.ok hi.ok hs⟩
end
end L2
set_option maxRecDepth 100000
namespace L2
open PySem PySem.Spec PyProof.Rows DL PySem.W
section
variable{X:Cx}
def Cq(nt:Nat)(js:List Nat)(wi:TI)(g:TG)(tt:TT)(te:TE)(gN:TG):TS:=fun D σ H=>tLC nt js wi g tt te σ H fun v H1=>gN v σ H1 D.nx
theorem xw(B:BlkSc X N' nt js scope)(hc:X.calm=true)(hi:PI X tg iter wi)
  (hg:∀ cl s0 H0 ex,PG (blk X N' scope cl s0 H0 ex) tg g) (ht:∀ cl s0 H0 ex,PTs (blk X N' scope cl s0 H0 ex) ifs tt) (he:∀ cl s0 H0 ex,PE (blk X N' scope cl s0 H0 ex) elt te) (hn:PG X (.Name x pos') gN)
  (hs:∀ x,foldedSetIterable iter X.env x=pure x) (hsw:swapsWith (.ListComp elt [⟨tg,iter,ifs,0⟩] scope pos) (some (.Name x pos')) pos2.line X.env=pure true) :
  PS X (.Assign [.Name x pos'] (.ListComp elt [⟨tg,iter,ifs,0⟩] scope pos) pos2) (Cq nt js wi g tt te gN):=by
 intro pins s σ H Dn I h
 rw[exec_Assign_Name_used _ _ _ _ hsw]
 refine wpAny_bind (wpAny_standAt ?_)
 obtain⟨cl,ecl,hcl1,hcl2⟩:=hX (scope:=scope) (env:=X.env) fun p hp hf=>I.ok.has p.1 (B.free p hp hf)
 refine wpAny_bind (show wpAny (model X.prog X.w) X.A (comprehension (.ListComp elt [⟨tg,iter,ifs,0⟩] scope pos) scope X.env _ (newList []) false (eval iter X.env) (some (assign (.Name x pos') X.env)) >>= fun _=>pure ()) _ _ _ from wpAny_bind ?_)
 refine wpAny_comprehension_free (use:=some (assign (.Name x pos') X.env)) (Q:=fun _ s''=>wpAny (model X.prog X.w) X.A (pure ()) (fun _ s3=>wpAny (model X.prog X.w) X.A (pure Flow.next) (SP X pins Dn) X.xe s3) X.xe s'') rfl hs ecl B.kind B.loc ?_
 refine thn (hi pins s σ H _ I h) fun v s1 h1=>thn h1 fun itv s2 h2=>?_
 obtain⟨it,fp,tn,J,H2,e,I2,T,st2,f2,W,⟨m0,w0⟩,turn⟩:=h2
 subst e
 refine wpAny_newObj_type (wpAny_newFunctionEnv B.nocell (by intro y hy; simp at hy) (fun h1 hns1 hsb1=>?_) B.kind)
 have hfs:∀ b∈fp,b < s2.heap.objs.size:=fun b hb=>by
  obtain⟨o,e,_⟩:=T.obj _ _ st2 b hb
  exact Heap.lt_size e
 have hC:(s2.heap.push (bY [] 0)).objs.size=s2.heap.objs.size+1:=Heap.size_push ..
 have old:∀ b o,(s2.heap.push (bY [] 0)).get? b=some o->h1.get? b=some o:=fun b o e=>(hsb1.2 b (Nat.ne_of_lt (Heap.lt_size e))).trans (Heap.get?_push_of_some _ e)
 have I3:=I2.blkStart (tk:=s2.toks+([]:List (Str×Value)).length) B hcl1 hcl2 f2 hfs old hns1
 have st3:tn 0 h1:=T.keep _ _ _ st2 fun b _ o e=>old b o (Heap.get?_push_of_some _ e)
 have hDf:s2.heap.objs.size∉fp:=fun z=>Nat.lt_irrefl _ (hfs _ z)
 have hDs:s2.heap.objs.size∉frs X.stack:=fun z=>by
  rcases List.mem_cons.mp (I2.stkSub _ z) with q | q
  ·exact absurd I2.lt (by rw[← q]; exact Nat.lt_irrefl _)
  ·exact I2.nofs (Nat.le_refl _) q
 have hDC:s2.heap.objs.size≠(s2.heap.push (bY [] 0)).objs.size:=by rw[hC]; exact Nat.ne_of_lt (Nat.lt_succ_self _)
 have ltc:∀ z c,cl.lookup z=some c->c < s2.heap.objs.size:=fun z c e=>by
  obtain⟨v,q⟩:=I2.cell z c (hcl1 z c e)
  exact q.lt
 have hstat:∀ b∈fp,b≠(s2.heap.push (bY [] 0)).objs.size/\b∉frs X.stack/\∀ x c,cl.lookup x=some c->c≠b:=fun b hb=>by
  refine⟨by rw[hC]; exact Nat.ne_of_lt (Nat.lt_succ_of_lt (hfs b hb)),fun z=>?_,fun x c e=>(f2 b hb).2.2.2.2.1 x c (hcl1 x c e)⟩
  rcases List.mem_cons.mp (I2.stkSub b z) with q | q
  ·exact(f2 b hb).2.1 q
  ·exact(f2 b hb).2.2.1 q
 have leC:s2.heap.objs.size<=(s2.heap.push (bY [] 0)).objs.size:=by rw[hC]; exact Nat.le_succ _
 have loop:codeAny (model X.prog X.w) X.A (.compLoop (.ListComp elt [⟨tg,iter,ifs,0⟩] scope pos) 0 (.ref it) (.ref s2.heap.objs.size) (compEnvC scope cl (s2.heap.push (bY [] 0)).objs.size X.env))
   (compPost (model X.prog X.w) X.A X.xe (some (assign (.Name x pos') X.env)) (fun _ s''=>wpAny (model X.prog X.w) X.A (pure ()) (fun _ s3=>wpAny (model X.prog X.w) X.A (pure Flow.next) (SP X pins Dn) X.xe s3) X.xe s'') (.ref s2.heap.objs.size) (s2.heap.push (bY [] 0)).objs.size) { s2 with heap:=h1,toks:=s2.toks+([]:List (Str×Value)).length }:=by
  refine vK (s0:={ s2 with heap:=s2.heap.push (bY [] 0) }) (H0:=H2) (N':=N') (Q:=fun v H1=>gN v σ H1 Dn.nx) hc (hg _ _ _ _) (ht _ _ _ _) (he _ _ _ _) T hDf turn hstat hDC hDs (fun x c e=>Nat.ne_of_lt (ltc x c e)) ?_ m0 I3 st3 (fun b hb=>(f2 b hb).1) w0
  intro τ H' s' vs its k I4 rv hl q
  obtain⟨mm,hn4,_⟩:=id I4.loc
  obtain⟨oC,es,ep,eC,aN⟩:=id hn4
  have I5:Inv X pins σ (upd H' s2.heap.objs.size (.lst vs)) s':=I2.blkEnd f2 I4 rv hl ⟨rfl,fun _ _=>rfl⟩
  have fC:upd H' s2.heap.objs.size (.lst vs) (s2.heap.push (bY [] 0)).objs.size=none:=by rw[ak (Ne.symm hDC)]; exact I4.free
  have fk:∀ Hx:Hp,Hx (s2.heap.push (bY [] 0)).objs.size=none->tM X pins Hx (s2.heap.push (bY [] 0)).objs.size:=fun Hx hx=>I2.fpOk leC hx
  have dC:∀ v,oC.data≠.cell v:=fun v z=>by
   have:∃ es ep,oC.data=.dict es ep:=by
    first
     | (obtain⟨d,_⟩:=aN; exact⟨_,_,d⟩)
     | (obtain⟨_,d,_⟩:=aN; exact⟨_,_,d⟩)
     | (obtain⟨_,_,d,_⟩:=aN; exact⟨_,_,d⟩)
   obtain⟨_,_,d⟩:=this
   rw[d] at z; cases z
  have I6:Inv X (pins++[((s2.heap.push (bY [] 0)).objs.size,oC)]) σ (upd H' s2.heap.objs.size (.lst vs)) s':=I5.pins_of fun p hp=>by
   rcases List.mem_append.mp hp with hp | hp
   ·exact I5.pin p (List.mem_append_right _ hp)
   ·have:p=((s2.heap.push (bY [] 0)).objs.size,oC):=by simpa using hp
    subst this
    exact⟨eC,fC,(fk _ fC).2.1,(fk _ fC).2.2.1,dC⟩
  refine thn (hn _ s' σ _ (.ref s2.heap.objs.size) (.ref s2.heap.objs.size) _ I6 rfl q) fun _ s7 ⟨σ7,H7,I7,q7⟩=>?_
  obtain⟨p1,p2,_⟩:=I7.pin ((s2.heap.push (bY [] 0)).objs.size,oC) (List.mem_append_right _ (List.mem_append_right _ List.mem_cons_self))
  refine⟨mm,⟨oC,es,ep,p1,aN⟩,fun h' sb=>wpAny_pure (wpAny_pure ⟨σ7,H7,?_,q7⟩)⟩
  have I8:Inv X pins σ7 H7 s7:=I7.pins_of fun p hp=>I7.pin p (List.mem_append_right _ (List.mem_append_left _ hp))
  refine I8.turnedL (t':=s7.toks) (fp:=[(s2.heap.push (bY [] 0)).objs.size]) (fun b hb=>?_) fun b o hb e=>(sb.2 b (by simpa using hb)).trans e
  have:b=(s2.heap.push (bY [] 0)).objs.size:=by simpa using hb
  subst this
  exact fk H7 p2
 exact codeAny_compStart_list loop (T.self _ 0 _ _ _ st3 loop)
def kI(nt:Nat)(js:List Nat)(di:DTI)(g:DTG)(tt:DTT)(te:DTE)(i:Nat):DTS:=fun E S M=>dLC nt js di g tt te S M fun d M1=>au i d S M1 E.nx
theorem yt(B:BlkSc X N' nt js scope)(hc:X.calm=true)(hi:DI X tg iter di)
  (hg:∀ cl s0 H0 ex,DG (blk X N' scope cl s0 H0 ex) tg g) (ht:∀ cl s0 H0 ex,PTs (blk X N' scope cl s0 H0 ex) ifs (lowT X.K tt)) (he:∀ cl s0 H0 ex,DE (blk X N' scope cl s0 H0 ex) elt te) (hn:DG X (.Name x pos') (au i))
  (hs:∀ x,foldedSetIterable iter X.env x=pure x) (hsw:swapsWith (.ListComp elt [⟨tg,iter,ifs,0⟩] scope pos) (some (.Name x pos')) pos2.line X.env=pure true) :
  DS X (.Assign [.Name x pos'] (.ListComp elt [⟨tg,iter,ifs,0⟩] scope pos) pos2) (kI nt js di g tt te i) :=
 PS.imp (xw (g:=lowG X.K g) (tt:=lowT X.K tt) (te:=lowE X.K te) B hc hi (fun cl s0 H0 ex=>hg cl s0 H0 ex) ht (fun cl s0 H0 ex=>he cl s0 H0 ex) hn hs hsw) fun E σ H ⟨S,M,ρ,F,s,sr,q,k⟩ =>
  vD σ H _ ⟨S,M,ρ,_,s,sr,q,fun v H1 ⟨d,M1,ρ1,s1,g1,r1,q1⟩=>⟨d,S,M1,ρ1,_,s1,sr.grow g1,r1,q1,fun σ' H' w=>k.nx σ' H' (SQ.trans g1 w)⟩⟩
theorem xY(hN:X.N.Nodup)(hi:HI X tg iter di)
  (hg:∀ cl s0 H0 ex,HG (blk X N' scope cl s0 H0 ex) tg g) (ht:∀ cl s0 H0 ex,HTs (blk X N' scope cl s0 H0 ex) ifs tt) (he:∀ cl s0 H0 ex,HE (blk X N' scope cl s0 H0 ex) elt te) (B:kJ X.env.scope.names X.N N' nt js scope=true:=by kernel_rfl) (hc:X.calm=true:=by kernel_rfl)
  (hs:∀ x,foldedSetIterable iter X.env x=pure x:=by intro _; kernel_rfl) (hsw:swapsWith (.ListComp elt [⟨tg,iter,ifs,0⟩] scope pos) (some (.Name x pos')) pos2.line X.env=pure true:=by kernel_rfl)
  (hix:X.N[i]?=some x:=by kernel_rfl) (hx:BX X.env.scope x=true:=by kernel_rfl) (hf:X.fn x=true:=by kernel_rfl):HS X (.Assign [.Name x pos'] (.ListComp elt [⟨tg,iter,ifs,0⟩] scope pos) pos2) (kI nt js di g tt te i) :=
 ⟨yt (BlkSc.chk B) hc hi.ok (fun cl s0 H0 ex=>(hg cl s0 H0 ex).ok) (fun cl s0 H0 ex=>(ht cl s0 H0 ex).ok) (fun cl s0 H0 ex=>(he cl s0 H0 ex).ok) (pH hN hix (vF hx) (.inl hf)) hs hsw⟩
end
end L2
set_option maxRecDepth 100000
namespace L2
open PySem PySem.Spec PyProof.Rows DL PySem.W
theorem at0:atI (a::r) 0=some a:=by
 have:=ay (xs:=a::r) (j:=0) (v:=a) rfl
 simpa using this
theorem at1:atI (a::b::r) 1=some b:=by
 have:=ay (xs:=a::b::r) (j:=1) (v:=b) rfl
 simpa using this
theorem at2:atI (a::b::c::r) 2=some c:=by
 have:=ay (xs:=a::b::c::r) (j:=2) (v:=c) rfl
 simpa using this
theorem bx.lst(h:R (.ref M.length) (M++[.lst xs]))(hn:M.length<=n)(e:(M++L)[n]?=some (.lst xs))(b:Bels M.length xs):bx M R (.ref n) (M++L) :=
 .inr (.inr ⟨M,n,xs,.refl,rfl,hn,e,List.prefix_append _ _,b,h⟩)
theorem bx.chg(c:Chg M M1)(h:R d M1)(b:Bel M.length d)(p:M1 <+: M'):bx M R d M':=.inr (.inl ⟨M1,c,b,p,h⟩)
theorem bx.chgL(c:Chg M M1)(h:R (.ref M.length) (M1++[.lst xs]))(hn:M.length<=n)(e:M'[n]?=some (.lst xs))(p:M1 <+: M')(b:Bels M.length xs):bx M R (.ref n) M':=.inr (.inr ⟨M1,n,xs,c,rfl,hn,e,p,b,h⟩)
theorem iG:(M++a::L).set M.length b=M++b::L:=by
 rw[List.set_append_right _ _ (Nat.le_refl _)]
 simp
theorem gJ:(M++a::L)[M.length]?=some a:=by simp
theorem lV(I:List D->List D->SD->Mem->Prop)(h0:∀ acc S M,I [] acc S M->ok M/\Q (.ref M.length) (M++[.lst acc]))
  (h1:∀ x xs acc S M,I (x::xs) acc S M->∀ K:List D->SD->Mem->Prop,(∀ acc S M,I xs acc S M->K acc S M)->ok M/\g x S M fun S2 M2=>tt S2 M2 fun b M3=>if b=true then te S2 M3 fun y M4=>acc.length < sizeLine/\K (acc++[y]) S2 M4 else K acc S2 M3) :
  ∀ xs acc S M,I xs acc S M->jF ok g tt te Q xs acc S M
 | [],acc,S,M,h=>h0 acc S M h
 | x::xs,acc,S,M,h=>h1 x xs acc S M h _ (lV I h0 h1 xs)
def unS:D->Str
 | .str x=>x
 | _=>Str.empty
theorem mN{ys:List D}{ks:List Str}(h:ys.Perm (ks.map D.str)):∃ ns:List Str,ys=ns.map D.str/\ns.Perm ks:=by
 refine⟨ys.map unS,?_,?_⟩
 ·rw[List.map_map]
  have:∀ y∈ys,(D.str ∘ unS) y=y:=fun y hy=>by
   obtain⟨x,_,rfl⟩:=List.mem_map.mp (h.mem_iff.mp hy)
   rfl
  exact(List.map_congr_left this ▸ (List.map_id' ys).symm:ys=ys.map (D.str ∘ unS))
 ·have:=h.map unS
  rw[List.map_map] at this
  have e:(unS ∘ D.str)=id:=rfl
  rwa [e,List.map_id] at this
theorem xt:(uO kvs k d).length<=kvs.length+1/\1<=(uO kvs k d).length:=by
 unfold uO
 by_cases q:(kvs.any fun p=>decide (p.1=k))=true
 ·rw[if_pos q,List.length_map]
  obtain⟨p,hp,_⟩:=List.any_eq_true.mp q
  have:0 < kvs.length:=List.length_pos_of_mem hp
  lia
 ·rw[if_neg q,List.length_append,List.length_singleton]
  lia
theorem rG:(M++a::b::L)[M.length+1]?=some b:=by
 rw[List.getElem?_append_right (by lia),show M.length+1-M.length=1 by lia]; rfl
theorem xz{α:Type}(f:α->D)(g:D->α)(hg:∀ a,g (f a)=a){ys:List D}{l:List α}(h:ys.Perm (l.map f)):∃ l':List α,ys=l'.map f/\l'.Perm l:=by
 refine⟨ys.map g,?_,?_⟩
 ·rw[List.map_map]
  have:∀ y∈ys,(f ∘ g) y=y:=fun y hy=>by
   obtain⟨x,_,rfl⟩:=List.mem_map.mp (h.mem_iff.mp hy)
   show f (g (f x))=f x
   rw[hg]
  exact(List.map_congr_left this ▸ (List.map_id' ys).symm:ys=ys.map (f ∘ g))
 ·have:=h.map g
  rw[List.map_map] at this
  have e:(g ∘ f)=id:=funext hg
  rwa [e,List.map_id] at this
end L2
set_option maxRecDepth 100000
namespace L2
open PySem PySem.Spec PyProof.Rows DL PySem.W
section
variable{prog:Program}{w:World}{A:Around}{E:Value->Shared->Prop}{s:Shared}
end
end L2
set_option maxRecDepth 100000
namespace L2
open PySem PySem.Spec PyProof.Rows DL PySem.W
section
variable{prog:Program}{w:World}{A:Around}{E:Value->Shared->Prop}{s:Shared}
def aU(w:World):Obj:={ cls:=.type "set",dict:=none,data:=.set #[] 0 (.fresh 0 0 (!w.params.followText "set-order")) }
theorem pL(a:Value)(h:Q₁ (.ref s.heap.objs.size) { s with heap:=s.heap.push (aU w) }) :
  codeAny (model prog w) A (.call (.builtin "set.__new__") ⟨[.type "set",a],[]⟩) (wants Q₁ E) s:=by
 refine codeAny_of_tree (show wpAny (model prog w) A.in1 (do checkBuiltinCall "set.__new__" ⟨[.type "set",a],[]⟩; again (.builtin "set.__new__" ⟨[.type "set",a],[]⟩)) _ _ s from ?_)
 refine wpAny_bind (wpAny_of_eq (F.newCall_set_1 a) (wpAny_pure ⟨plainId_quiet F.plain_set_new _,codeAny_builtin F.entry_set_new ?_⟩))
 rw[Around.under_plainId F.plain_set_new _]
 have hsub:=sub_set_self
 obtain⟨hp,g,d,tk,os⟩:=s
 unfold Builtin.«set.__new__» Builtin.Frozenset.newClass
 dsimp only
 wp_walk
 refine wpAny_askSetting (wpAny_pure ?_)
 simp only[newObj]
 exact wpAny_bind (wpAny_alloc (wpAny_pure (wpAny_pure h)))
end
end L2
set_option maxRecDepth 100000
namespace L2
open PySem PySem.Spec PyProof.Rows DL PySem.W
structure TxSrc(prog:Program)(w:World)(h:Heap)(l:Addr)(T:String)(n:Nat)(P:Nat->Value->Prop):Prop where
 obj:∃ o,h.get? l=some o/\o.cls=.type T
 ns:isSubtype (.type T) (.type "set")=pure false
 nf:isSubtype (.type T) (.type "frozenset")=pure false
 nd:(Value.type T==Value.type "dict")=false
 iter:∀ (A:Around) (s':Shared),A.handled=none->(∀ o,h.get? l=some o->s'.heap.get? l=some o)->∃ (oI:Obj) (St:Nat->Heap->Prop),
  (∀ (E:Value->Shared->Prop) (Q:Value->Shared->Prop),Q (.ref s'.heap.objs.size) { s' with heap:=s'.heap.push oI }->wpAny (model prog w) A (pyIter (.ref l)) Q E s') /\
  Walks prog w A s'.heap.objs.size [s'.heap.objs.size,l] [s'.heap.objs.size] n P St/\St 0 (s'.heap.push oI)
theorem oH:isSubtype (.type "tuple") (.type "set")=pure false:=by rw[isSubtype_type]; kernel_rfl
theorem mG:isSubtype (.type "tuple") (.type "frozenset")=pure false:=by rw[isSubtype_type]; kernel_rfl
theorem TxSrc.list(hl:h.IsList l its):TxSrc prog w h l "list" its.size (fun i v=>its[i]?=some v):=by
 refine⟨let ⟨o,e,c,_⟩:=hl; ⟨o,e,c⟩,F.sub_list_set,F.sub_list_frozenset,by decide,fun A s' hh hk=>?_⟩
 have hl':s'.heap.IsList l its:=hl.at hk
 have lt:l < s'.heap.objs.size:=let ⟨o,e,_⟩:=hl'; Heap.lt_size e
 exact⟨_,_,fun E Q q=>wpAny_pyIter_list hl' q,Walks.list hh _ l (Nat.ne_of_lt lt) its,⟨_,Heap.get?_push_size _ rfl,rfl,rfl⟩,hl'.push _⟩
theorem TxSrc.tuple(hl:h.IsTuple l its):TxSrc prog w h l "tuple" its.size (fun i v=>its[i]?=some v):=by
 refine⟨let ⟨o,e,c,_⟩:=hl; ⟨o,e,c⟩,oH,mG,by decide,fun A s' hh hk=>?_⟩
 have hl':s'.heap.IsTuple l its:=let ⟨o,e,r⟩:=hl; ⟨o,hk o e,r⟩
 have lt:l < s'.heap.objs.size:=let ⟨o,e,_⟩:=hl'; Heap.lt_size e
 exact⟨_,_,fun E Q q=>wpAny_pyIter_tuple hl' q,Walks.tuple hh _ l (Nat.ne_of_lt lt) its,⟨_,Heap.get?_push_size _ rfl,rfl,rfl⟩,let ⟨o,e,r⟩:=hl'; ⟨o,Heap.get?_push_of_some _ e,r⟩⟩
section
variable{prog:Program}{w:World}{A:Around}{E:Value->Shared->Prop}{s:Shared}
end
end L2
set_option maxRecDepth 100000
namespace L2
open PySem PySem.Spec PyProof.Rows DL PySem.W
theorem aV:Slot "set_iterator" "__next__" "set_iterator.__next__" :=
 .of (owner:="set_iterator") (n:="__next__") (by rw[typeLookup_type,builtinLookup_eq_fast]; kernel_rfl) (by decide +kernel) (by decide +kernel) (by decide +kernel) (by first | exact .inl (by decide +kernel) | exact .inr (by decide +kernel)) (by rw[isSubtype_type]; kernel_rfl)
theorem df:entryFor table "set_iterator.__next__" = some Builtin.«set_iterator.__next__»:=entryFor_of_tree (by kernel_rfl)
theorem iP:Manifest.owners.lookup (String.ofList ['r','o','t','a','r','e','t','i','_','t','e','s'].reverse)=some Manifest.sig_set_iterator:=by kernel_rfl
theorem eK(a:Value):argsOk "set_iterator.__next__" ⟨[a],[]⟩:=by
 unfold argsOk; rw[signature?_of (id:="set_iterator.__next__") (n:=['_','_','t','x','e','n','_','_']) (o:=['r','o','t','a','r','e','t','i','_','t','e','s']) (by kernel_rfl) iP]; kernel_rfl
theorem lQ:entryFor table "set.__iter__" = some Builtin.«frozenset.__iter__»:=entryFor_alias (id':="frozenset.__iter__") (by kernel_rfl) rfl (by decide +kernel) (by kernel_rfl)
theorem gK{α:Type}:∀ (l:List α) (i:Nat) (h:i < l.length),(l[i]::l.eraseIdx i).Perm l
 | x::l,0,_=>List.Perm.refl _
 | x::l,i+1,h=>by
  have h':i < l.length:=by simpa using h
  exact(List.Perm.swap x l[i] (l.eraseIdx i)).trans (List.Perm.cons x (gK l i h'))
theorem tF(hn:n≠0)(h:∀ i d,i < n->Q i { s with drawn:=d }):wpAny M A (choose src n) Q E s:=by
 intro Γ p hΓ
 show Sem.wp M Γ (Sem.choose src n fun i=>Sem.pure i) _ _ p s
 rw[Sem.wp_choose]
 refine⟨hn,?_⟩
 rw[Sem.wp_pure]
 exact h _ _ (Nat.mod_lt _ (Nat.pos_of_ne_zero hn))
theorem nL{α:Type}{M:Model}{A:Around}{E:Value->Shared->Prop}:∀ (n:Nat) (xs:List α) (s:Shared) (Q:List α->Shared->Prop),xs.length=n->(∀ ys d,ys.Perm xs->Q ys { s with drawn:=d })->wpAny M A (drawOrder n xs) Q E s
 | 0,xs,s,Q,e,h=>by
  cases xs with
  | nil=>exact wpAny_pure (h [] s.drawn (List.Perm.refl _))
  | cons _ _=>cases e
 | n+1,[],s,Q,e,h=>by cases e
 | n+1,x::xs,s,Q,e,h=>by
  unfold drawOrder
  refine wpAny_bind (tF (by simp) fun i d hi=>?_)
  rw[List.getElem?_eq_getElem hi]
  refine wpAny_bind (nL n ((x::xs).eraseIdx i) { s with drawn:=d } _ (by rw[List.length_eraseIdx_of_lt hi]; simp at e ⊢; lia) fun ys d' hp=>wpAny_pure (h _ d' ?_))
  exact(List.Perm.cons _ hp).trans (gK _ i hi)
theorem iL{α:Type}(next:Nat->Nat)(xs:Array α):(pickOrder next xs).toList.Perm xs.toList:=by
 have go:∀ (fuel k:Nat) (left:List α) (out:Array α),left.length=fuel->(pickOrder.go next fuel k left out).toList.Perm (out.toList++left):=by
  intro fuel
  induction fuel with
  | zero =>
   intro k left out e
   cases left with
   | nil=>simp[pickOrder.go]
   | cons _ _=>cases e
  | succ n ih =>
   intro k left out e
   have hi:next k % left.length < left.length:=Nat.mod_lt _ (by lia)
   unfold pickOrder.go
   rw[List.getElem?_eq_getElem hi]
   dsimp only
   refine(ih (k+1) _ _ (by rw[List.length_eraseIdx_of_lt hi]; lia)).trans ?_
   rw[Array.toList_push,List.append_assoc]
   exact List.Perm.append_left _ (gK _ _ hi)
 have:=go xs.size 0 xs.toList #[] (by simp)
 simpa [pickOrder] using this
end L2
set_option maxRecDepth 100000
namespace L2
open PySem PySem.Spec PyProof.Rows DL PySem.W
def db(first:Value)(i n:Nat)(a:Addr)(ep:Nat):Obj:={ cls:=.type "set_iterator",data:=.fields #[first,rawInt i,.ref a,rawInt n,rawInt ep] }
structure SetAt(h:Heap)(a:Addr)(o:Obj)(es:Array (Int×Value))(ep:Nat)(t:SetTable):Prop where
 ob:h.get? a=some o
 dt:o.data=.set es ep t
 ft:t.fits es.size=true
section
variable{prog:Program}{w:World}{A:Around}{E:Value->Shared->Prop}{s:Shared}{a it:Addr}{o:Obj}{es:Array (Int×Value)}{ep:Nat}{t:SetTable}
theorem ko(hh:A.handled=none)(h:∀ h' e,(∀ b o,s.heap.get? b=some o->h'.get? b=some o)->(∃ o,h'.get? e=some o/\o.cls=.type "StopIteration")->F (.ref e) { s with heap:=h' }) :
  wpAny (model prog w) A (do raiseNew (← newExc (.type "StopIteration") []):Sem Fin) Q F s:=by
 refine wpAny_bind ?_
 simp only[newExc,newTuple]
 refine wpAny_bind (wpAny_newObj_type (wpAny_bind (m:=firstArgMember _ _) (wpAny_of_eq (a:=Value.none) (by first | rfl | (simp only[firstArgMember]; rfl)) (wpAny_newObj_type ?_ (by size_fits)))) (by size_fits))
 simp only[raiseNew]
 refine wpAny_bind (wpAny_handled ?_)
 rw[hh]
 exact wpAny_bind (wpAny_pure (wpAny_throw (h _ _ (fun b o e=>Heap.get?_push_of_some _ (Heap.get?_push_of_some _ e)) ⟨_,Heap.get?_push_size _ rfl,rfl⟩)))
theorem iV{slot i next:Nat}{x:Value}{Q:Option Value->Shared->Prop}(hI:s.heap.get? it=some (db (rawInt slot) i es.size a ep))(S:SetAt s.heap a o es ep t)
  (hn:∀ (A:Around) (E:Value->Shared->Prop) (Q:Option (Value×Nat)->Shared->Prop),Q (some (x,next)) s->wpAny (model prog w) A (setNext a slot i ep) Q E s)
  (hQ:∀ h',h'.get? it=some (db (rawInt next) (i+1) es.size a ep)->Heap.SameBut it s.heap h'->Q (some x) { s with heap:=h' }):wpAny (model prog w) A (pyNext (.ref it)) Q E s:=by
 have hT:s.TypeIs (.ref it) "set_iterator":=⟨_,hI,rfl⟩
 unfold pyNext
 refine wpAny_bind (wpAny_attempt (wpAny_callSpecial?_slot (name:=Str.ofString "__next__") hT aV (wpAny_call_entry aV hT df ?_ (eK _))))
 unfold Builtin.«set_iterator.__next__»
 refine wpAny_bind (wpAny_pure (wpAny_bind (wpAny_fieldsOf hI rfl ?_)))
 dsimp only [db,rawInt]
 refine wpAny_bind (wpAny_setEntries_of S.ob S.dt S.ft ?_)
 rw[if_neg (by simp)]
 refine wpAny_bind (hn _ _ _ ?_)
 dsimp only
 refine wpAny_bind (wpAny_setField hI rfl (by simp) (wpAny_bind (wpAny_setField (Heap.get?_update_self _ hI rfl) rfl (by simp) (wpAny_pure ⟨x,rfl,wpAny_pure (hQ _ ?_ ((Heap.SameBut.update ..).trans (Heap.SameBut.update ..)))⟩))))
 refine(Heap.get?_update_self _ (Heap.get?_update_self _ hI rfl) rfl).trans ?_
 simp[db,Obj.mapFields,rawInt]
theorem cZ{slot i:Nat}{Q:Option Value->Shared->Prop}(hh:A.handled=none)(hI:s.heap.get? it=some (db (rawInt slot) i es.size a ep))(S:SetAt s.heap a o es ep t)
  (hn:∀ (A:Around) (E:Value->Shared->Prop) (Q:Option (Value×Nat)->Shared->Prop),Q none s->wpAny (model prog w) A (setNext a slot i ep) Q E s)
  (hQ:∀ h',(∀ b o,b≠it->s.heap.get? b=some o->h'.get? b=some o)->Q none { s with heap:=h' }):wpAny (model prog w) A (pyNext (.ref it)) Q E s:=by
 have hT:s.TypeIs (.ref it) "set_iterator":=⟨_,hI,rfl⟩
 unfold pyNext
 refine wpAny_bind (wpAny_attempt (wpAny_callSpecial?_slot (name:=Str.ofString "__next__") hT aV (wpAny_call_entry aV hT df ?_ (eK _))))
 unfold Builtin.«set_iterator.__next__»
 refine wpAny_bind (wpAny_pure (wpAny_bind (wpAny_fieldsOf hI rfl ?_)))
 dsimp only [db,rawInt]
 refine wpAny_bind (wpAny_setEntries_of S.ob S.dt S.ft ?_)
 rw[if_neg (by simp)]
 refine wpAny_bind (hn _ _ _ ?_)
 dsimp only
 refine wpAny_bind (wpAny_setField hI rfl (by simp) ?_)
 refine ko (by simp[hh]) fun h' e hk ⟨oe,he,hc⟩=>?_
 refine wpAny_bind (wpAny_isInstance (T:="StopIteration") (b:=true) ⟨oe,he,hc⟩ isSubtype_stop (wpAny_pure (hQ h' fun b ob hb eb=>hk b ob ?_)))
 exact((Heap.SameBut.update ..).2 b hb).trans eb
theorem sI{tt:Addr}{ps:List Nat}{i j:Nat}{e:Int×Value}{Q:Option Value->Shared->Prop}(hI:s.heap.get? it=some (db (.ref tt) i es.size a ep))(hP:s.heap.IsTuple tt (ps.map fun (k:Nat)=>rawInt k).toArray)(S:SetAt s.heap a o es ep t)
  (hj:ps[i]?=some j) (he:es[j]?=some e) (hQ:∀ h',h'.get? it=some (db (.ref tt) (i+1) es.size a ep)->Heap.SameBut it s.heap h'->Q (some e.2) { s with heap:=h' }):wpAny (model prog w) A (pyNext (.ref it)) Q E s:=by
 have hT:s.TypeIs (.ref it) "set_iterator":=⟨_,hI,rfl⟩
 obtain⟨ot,hot,_,nt,hdt⟩:=hP
 unfold pyNext
 refine wpAny_bind (wpAny_attempt (wpAny_callSpecial?_slot (name:=Str.ofString "__next__") hT aV (wpAny_call_entry aV hT df ?_ (eK _))))
 unfold Builtin.«set_iterator.__next__»
 refine wpAny_bind (wpAny_pure (wpAny_bind (wpAny_fieldsOf hI rfl ?_)))
 dsimp only [db,rawInt]
 refine wpAny_bind (wpAny_setEntries_of S.ob S.dt S.ft ?_)
 rw[if_neg (by simp)]
 refine wpAny_bind (wpAny_seqItems hot hdt ?_)
 have hx:(ps.map fun (k:Nat)=>rawInt k).toArray[i]?=some (.int j 0):=by simp[hj,rawInt]
 simp only[Int.toNat_natCast,hx]
 unfold setNextDrawn
 refine wpAny_bind (wpAny_bind (wpAny_setState_of S.ob S.dt S.ft ?_))
 simp only[bne_self_eq_false,Bool.false_eq_true,if_false,he]
 refine wpAny_pure (wpAny_bind (wpAny_setField hI rfl (by simp) (wpAny_pure ⟨_,rfl,wpAny_pure (hQ _ ?_ (Heap.SameBut.update ..))⟩)))
 refine(Heap.get?_update_self _ hI rfl).trans ?_
 simp[db,Obj.mapFields,rawInt]
theorem jy{tt:Addr}{ps:List Nat}{i:Nat}{Q:Option Value->Shared->Prop}(hh:A.handled=none)(hI:s.heap.get? it=some (db (.ref tt) i es.size a ep))(hP:s.heap.IsTuple tt (ps.map fun (k:Nat)=>rawInt k).toArray)(S:SetAt s.heap a o es ep t)
  (hj:ps[i]?=none) (hQ:∀ h',(∀ b o,b≠it->s.heap.get? b=some o->h'.get? b=some o)->Q none { s with heap:=h' }):wpAny (model prog w) A (pyNext (.ref it)) Q E s:=by
 have hT:s.TypeIs (.ref it) "set_iterator":=⟨_,hI,rfl⟩
 obtain⟨ot,hot,_,nt,hdt⟩:=hP
 unfold pyNext
 refine wpAny_bind (wpAny_attempt (wpAny_callSpecial?_slot (name:=Str.ofString "__next__") hT aV (wpAny_call_entry aV hT df ?_ (eK _))))
 unfold Builtin.«set_iterator.__next__»
 refine wpAny_bind (wpAny_pure (wpAny_bind (wpAny_fieldsOf hI rfl ?_)))
 dsimp only [db,rawInt]
 refine wpAny_bind (wpAny_setEntries_of S.ob S.dt S.ft ?_)
 rw[if_neg (by simp)]
 refine wpAny_bind (wpAny_seqItems hot hdt ?_)
 have hx:(ps.map fun (k:Nat)=>rawInt k).toArray[i]?=none:=by simpa using hj
 simp only[Int.toNat_natCast,hx]
 refine wpAny_bind (wpAny_setField hI rfl (by simp) (wpAny_bind (wpAny_setField (Heap.get?_update_self _ hI rfl) rfl (by simp) ?_)))
 refine ko (by simp[hh]) fun h' e hk ⟨oe,he,hc⟩=>?_
 refine wpAny_bind (wpAny_isInstance (T:="StopIteration") (b:=true) ⟨oe,he,hc⟩ isSubtype_stop (wpAny_pure (hQ h' fun b ob hb eb=>hk b ob ?_)))
 exact(((Heap.SameBut.update ..).trans (Heap.SameBut.update ..)).2 b hb).trans eb
end
end L2
set_option maxRecDepth 100000
namespace L2
theorem nodup_le{α:Type}[DecidableEq α]:∀ (l xs:List α),l.Nodup->(∀ x∈l,x∈xs)->l.length<=xs.length
 | [],xs,_,_=>Nat.zero_le _
 | a::l,xs,nd,h=>by
  have ha:a∈xs:=h a List.mem_cons_self
  have nd':=List.nodup_cons.mp nd
  have ih:=nodup_le l (xs.erase a) nd'.2 fun x hx=>(List.mem_erase_of_ne (show x≠a from fun z=>nd'.1 (by rw[← z]; exact hx))).mpr (h x (List.mem_cons_of_mem _ hx))
  rw[List.length_erase_of_mem ha] at ih
  have:0 < xs.length:=List.length_pos_of_mem ha
  rw[List.length_cons]
  lia
end L2
set_option maxRecDepth 100000
namespace Ht
open PySem
def adv(m:Nat)(p:SetTable.Probe):SetTable.Probe :=
 if p.more > 0 then { p with j:=p.j+1,more:=p.more-1 } else
 { p with j:=(SetTable.leap m p.i p.perturb).1,more:=SetTable.runEnd m (SetTable.leap m p.i p.perturb).1-(SetTable.leap m p.i p.perturb).1,i:=(SetTable.leap m p.i p.perturb).1,perturb:=(SetTable.leap m p.i p.perturb).2 }
def gz(m i pt:Nat):SetTable.Probe:={ j:=i,more:=SetTable.runEnd m i-i,i,perturb:=pt,dummy:=none }
def iD(m:Nat)(p:SetTable.Probe):Nat->SetTable.Probe
 | 0=>p
 | n+1=>adv m (iD m p n)
def sq(m:Nat)(h:Int)(n:Nat):SetTable.Probe:=iD m (gz m (SetTable.bits h % (m+1)) (SetTable.bits h)) n
theorem mH(m:Nat)(p:SetTable.Probe)(a b:Nat):iD m p (a+b)=iD m (iD m p a) b:=by
 induction b with
 | zero=>rfl
 | succ b ih=>rw[Nat.add_succ,iD,ih]; rfl
theorem Cz(m i:Nat):SetTable.runEnd m i-i<=9:=by
 unfold SetTable.runEnd; split <;> lia
theorem wf(m i pt:Nat):∀ k,k<=SetTable.runEnd m i-i->iD m (gz m i pt) k={ j:=i+k,more:=SetTable.runEnd m i-i-k,i,perturb:=pt,dummy:=none }
 | 0,_=>by simp[iD,gz]
 | k+1,h=>by
  rw[iD,wf m i pt k (by lia)]
  unfold adv
  rw[if_pos (show SetTable.runEnd m i-i-k > 0 by lia)]
  simp only[SetTable.Probe.mk.injEq,true_and,and_true]
  lia
theorem xJ(m i pt:Nat):iD m (gz m i pt) (SetTable.runEnd m i-i+1)=gz m (SetTable.leap m i pt).1 (SetTable.leap m i pt).2:=by
 rw[iD,wf m i pt _ (Nat.le_refl _)]
 unfold adv
 rw[if_neg (show ¬ SetTable.runEnd m i-i-(SetTable.runEnd m i-i) > 0 by lia)]
 rfl
def cT(m:Nat)(h:Int):Nat->Nat×Nat
 | 0=>(SetTable.bits h % (m+1),SetTable.bits h)
 | k+1=>SetTable.leap m (cT m h k).1 (cT m h k).2
def dn(m:Nat)(h:Int):Nat->Nat
 | 0=>0
 | k+1=>dn m h k+(SetTable.runEnd m (cT m h k).1-(cT m h k).1+1)
theorem yK(m:Nat)(h:Int)(k:Nat):dn m h k<=10*k:=by
 induction k with
 | zero=>exact Nat.le_refl _
 | succ k ih=>have:=Cz m (cT m h k).1; unfold dn; lia
theorem yU(m:Nat)(h:Int)(k:Nat):sq m h (dn m h k)=gz m (cT m h k).1 (cT m h k).2:=by
 induction k with
 | zero=>rfl
 | succ k ih =>
  unfold sq at ih ⊢
  unfold dn
  rw[mH,ih,xJ]
  rfl
theorem uF(m:Nat)(h:Int)(k r:Nat)(hr:r<=SetTable.runEnd m (cT m h k).1-(cT m h k).1):(sq m h (dn m h k+r)).j=(cT m h k).1+r:=by
 have e:=yU m h k
 unfold sq at e ⊢
 rw[mH,e,wf _ _ _ _ hr]
theorem BO(h:Int):SetTable.bits h < 2 ^ 64:=by
 unfold SetTable.bits
 have h0:=Int.emod_nonneg h (show (2 ^ 64:Int)≠0 by decide)
 have h1:=Int.emod_lt_of_pos h (show (0:Int) < 2 ^ 64 by decide)
 lia
theorem kw(m:Nat)(h:Int):∀ k,(cT m h k).2=SetTable.bits h / 32 ^ k
 | 0=>by simp[cT]
 | k+1=>by
  show (cT m h k).2 / 32=_
  rw[kw m h k,Nat.div_div_eq_div_mul,← Nat.pow_succ]
theorem mM(m:Nat)(h:Int)(k:Nat)(hk:13<=k):(cT m h k).2=0:=by
 rw[kw]
 apply Nat.div_eq_of_lt
 have h1:=BO h
 have h2:32 ^ 13<=32 ^ k:=Nat.pow_le_pow_right (by decide) hk
 have h3:(2:Nat) ^ 64 < 32 ^ 13:=by decide
 lia
def pS(m i:Nat):Nat:=(i*5+1) % (m+1)
def bA(m i:Nat):Nat->Nat
 | 0=>i
 | k+1=>pS m (bA m i k)
theorem cS(m i a b:Nat):bA m i (a+b)=bA m (bA m i a) b:=by
 induction b with
 | zero=>rfl
 | succ b ih=>rw[Nat.add_succ,bA,ih]; rfl
theorem oM(m:Nat)(h:Int)(r:Nat):(cT m h (13+r)).1=bA m (cT m h 13).1 r:=by
 induction r with
 | zero=>rfl
 | succ r ih =>
  show (SetTable.leap m (cT m h (13+r)).1 (cT m h (13+r)).2).1=pS m (bA m (cT m h 13).1 r)
  rw[mM m h _ (by lia),ih]
  rfl
theorem oN(m:Nat)(h:Int):∀ k,(cT m h k).1<=m
 | 0=>Nat.lt_succ_iff.mp (Nat.mod_lt _ (Nat.succ_pos _))
 | k+1=>Nat.lt_succ_iff.mp (Nat.mod_lt _ (Nat.succ_pos _))
def Cb(m:Nat):Prop:=bA m 0 (m+1)=0/\∀ s,s<=m->∃ k,k<=m/\bA m 0 k=s
def oT(m:Nat):Nat->Nat->List Nat
 | 0,_=>[]
 | n+1,i=>i::oT m n (pS m i)
theorem iQ(m:Nat):∀ (n i k:Nat),k < n->(oT m n i)[k]?=some (bA m i k)
 | 0,_,_,h=>absurd h (Nat.not_lt_zero _)
 | n+1,i,0,_=>rfl
 | n+1,i,k+1,h=>by
  rw[oT,List.getElem?_cons_succ,iQ m n (pS m i) k (by lia),← show bA m (bA m i 1) k=bA m i (k+1) from by rw[← cS,Nat.add_comm]]
  rfl
theorem pD(m:Nat)(h:((oT m (m+2) 0)[m+1]?==some 0&&(List.range (m+1)).all fun s=>(oT m (m+1) 0).contains s)=true):Cb m:=by
 rw[Bool.and_eq_true,beq_iff_eq,List.all_eq_true] at h
 refine⟨?_,fun s hs=>?_⟩
 ·have:=iQ m (m+2) 0 (m+1) (by lia)
  rw[h.1] at this
  exact(Option.some.inj this).symm
 ·have:=h.2 s (List.mem_range.mpr (by lia))
  rw[List.contains_iff_mem] at this
  obtain⟨k,hk⟩:=List.getElem?_of_mem this
  have hl:k < m+1:=by
   have:=(List.getElem?_eq_some_iff.mp hk).1
   have len:∀ n i,(oT m n i).length=n:=by
    intro n; induction n with
    | zero=>intro i; rfl
    | succ n ih=>intro i; simp[oT,ih]
   rw[len] at this; exact this
  rw[iQ m _ 0 k hl] at hk
  exact⟨k,by lia,Option.some.inj hk⟩
theorem full7:Cb 7:=pD 7 (by decide +kernel)
theorem Em:Cb 31:=pD 31 (by decide +kernel)
theorem Bn:Cb 127:=pD 127 (by decide +kernel)
theorem wu(F:Cb m)(hi:i<=m)(hs:s<=m):∃ k,k<=m/\bA m i k=s:=by
 obtain⟨a,ha,ea⟩:=F.2 i hi
 obtain⟨b,hb,eb⟩:=F.2 s hs
 by_cases h:a<=b
 ·refine⟨b-a,by lia,?_⟩
  rw[← ea,← cS,show a+(b-a)=b by lia]; exact eb
 ·refine⟨m+1-a+b,by lia,?_⟩
  rw[← ea,← cS,show a+(m+1-a+b)=(m+1)+b by lia,cS,F.1]; exact eb
def jH(m:Nat):Prop:=m=7\/m=31\/m=127
theorem jH.full(h:jH m):Cb m:=by
 rcases h with rfl | rfl | rfl
 ·exact full7
 ·exact Em
 ·exact Bn
theorem zL(hm:jH m)(h:Int)(hs:s<=m):∃ k,k<=m+13/\(cT m h k).1=s:=by
 obtain⟨r,hr,e⟩:=wu hm.full (oN m h 13) hs
 exact⟨13+r,by lia,by rw[oM]; exact e⟩
theorem Ae(hm:jH m)(h:Int)(hs:s<=m):∃ n,n < 10*(m+15)/\(sq m h n).j=s:=by
 obtain⟨k,hk,e⟩:=zL hm h hs
 refine⟨dn m h k,by have:=yK m h k; lia,?_⟩
 rw[yU]; exact e
theorem Ct(h:Int):∀ n,∃ k r,r<=SetTable.runEnd m (cT m h k).1-(cT m h k).1/\n=dn m h k+r
 | 0=>⟨0,0,Nat.zero_le _,rfl⟩
 | n+1=>by
  obtain⟨k,r,hr,e⟩:=Ct (m:=m) h n
  by_cases q:r < SetTable.runEnd m (cT m h k).1-(cT m h k).1
  ·exact⟨k,r+1,q,by lia⟩
  ·exact⟨k+1,0,Nat.zero_le _,by rw[dn]; lia⟩
theorem uE(h:Int)(n:Nat):(sq m h n).j<=m:=by
 obtain⟨k,r,hr,e⟩:=Ct (m:=m) h n
 rw[e,uF m h k r hr]
 have:=oN m h k
 unfold SetTable.runEnd at hr
 split at hr <;> lia
end Ht
set_option maxRecDepth 100000
namespace Ht
open PySem
theorem below_spec(xs:Array Nat)(hr:xs.toList.Pairwise (· < ·))(j:Nat) :
  SetTable.below xs j<=xs.size/\(∀ k (h:k < xs.size),k < SetTable.below xs j->xs[k] < j)/\∀ k (h:k < xs.size),SetTable.below xs j<=k->j<=xs[k]:=by
 have mono:∀ a b (ha:a < xs.size) (hb:b < xs.size),a < b->xs[a] < xs[b]:=fun a b ha hb h=>by
  have:=List.pairwise_iff_getElem.mp hr a b (by simpa using ha) (by simpa using hb) h
  simpa using this
 have go:∀ (fuel lo hi:Nat),lo<=hi->hi<=xs.size->hi-lo<=fuel->(∀ k (h:k < xs.size),k < lo->xs[k] < j)->(∀ k (h:k < xs.size),hi<=k->j<=xs[k]) ->
   SetTable.below.go xs j fuel lo hi<=xs.size/\(∀ k (h:k < xs.size),k < SetTable.below.go xs j fuel lo hi->xs[k] < j)/\∀ k (h:k < xs.size),SetTable.below.go xs j fuel lo hi<=k->j<=xs[k]:=by
  intro fuel
  induction fuel with
  | zero =>
   intro lo hi h1 h2 h3 h4 h5
   have:lo=hi:=by lia
   subst this
   exact⟨h2,h4,h5⟩
  | succ fuel ih =>
   intro lo hi h1 h2 h3 h4 h5
   unfold SetTable.below.go
   by_cases h:lo < hi
   ·rw[if_pos h]
    have hm:(lo+hi) / 2 < xs.size:=by lia
    have eg:xs.getD ((lo+hi) / 2) j=xs[(lo+hi) / 2]:=by simp[Array.getD,hm]
    simp only[eg]
    by_cases q:xs[(lo+hi) / 2] < j
    ·rw[if_pos q]
     refine ih _ _ (by lia) h2 (by lia) (fun k hk hlt=>?_) h5
     rcases Nat.lt_or_ge k ((lo+hi) / 2) with z | z
     ·exact Nat.lt_trans (mono k _ hk hm z) q
     ·have:k=(lo+hi) / 2:=by lia
      subst this; exact q
    ·rw[if_neg q]
     refine ih _ _ (by lia) (by lia) (by lia) h4 fun k hk hle=>?_
     rcases Nat.lt_or_ge ((lo+hi) / 2) k with z | z
     ·exact Nat.le_trans (Nat.not_lt.mp q) (Nat.le_of_lt (mono _ k hm hk z))
     ·have:k=(lo+hi) / 2:=by lia
      subst this; exact Nat.not_lt.mp q
   ·rw[if_neg h]
    have:lo=hi:=by lia
    subst this
    exact⟨h2,h4,h5⟩
 exact go xs.size 0 xs.size (Nat.zero_le _) (Nat.le_refl _) (by lia) (fun k _ h=>absurd h (Nat.not_lt_zero _)) fun k h h'=>absurd h (Nat.not_lt.mpr h')
theorem below_at(hr:xs.toList.Pairwise (· < ·))(h:xs[i]?=some j):SetTable.below xs j=i:=by
 obtain⟨hi,e⟩:=Array.getElem?_eq_some_iff.mp h
 obtain⟨b1,b2,b3⟩:=below_spec xs hr j
 have mono:∀ a b (ha:a < xs.size) (hb:b < xs.size),a < b->xs[a] < xs[b]:=fun a b ha hb h=>by
  have:=List.pairwise_iff_getElem.mp hr a b (by simpa using ha) (by simpa using hb) h
  simpa using this
 rcases Nat.lt_trichotomy (SetTable.below xs j) i with q | q | q
 ·have hb:SetTable.below xs j < xs.size:=by lia
  have:=b3 _ hb (Nat.le_refl _)
  have:=mono _ i hb hi q
  lia
 ·exact q
 ·have:=b2 i hi q
  lia
theorem slot_live{t:SetTable}(hr:t.place.toList.Pairwise (· < ·)){i j:Nat}(h:t.place[i]?=some j):t.slot j=.live i:=by
 unfold SetTable.slot
 simp only[below_at hr h]
 rw[if_pos (by rw[h]; simp)]
theorem sA{t:SetTable}(hd:t.dummies = #[]){j:Nat}(h:j∉t.place.toList):t.slot j=.empty:=by
 unfold SetTable.slot
 have e1:¬ (t.place[SetTable.below t.place j]?==some j)=true:=fun z=>h (by
  rw[beq_iff_eq] at z
  have:=Array.mem_of_getElem? z
  simpa using this)
 have e2:SetTable.has t.dummies j=false:=by rw[hd]; rfl
 simp only[e1,if_false,e2,Bool.false_eq_true]
theorem go_spec{t:SetTable}(hr:t.place.toList.Pairwise (· < ·))(hd:t.dummies = #[])(hashAt:Nat->Int)(h:Int):∀ (fuel n N:Nat),n<=N->N < n+fuel->(sq t.mask h N).j∉t.place.toList->(∀ k,n<=k->k < N->(sq t.mask h k).j∈t.place.toList) ->
  (∀ k,(sq t.mask h k).dummy=none) ->
  ((∀ k i,n<=k->k < N->t.place[i]?=some (sq t.mask h k).j->hashAt i≠h)/\SetTable.probe.go t hashAt h fuel (sq t.mask h n)=some (.empty (sq t.mask h N).j none)) \/
  ∃ n' i,n<=n'/\n' < N/\t.place[i]?=some (sq t.mask h n').j/\hashAt i=h/\(∀ k i,n<=k->k < n'->t.place[i]?=some (sq t.mask h k).j->hashAt i≠h)/\SetTable.probe.go t hashAt h fuel (sq t.mask h n)=some (.candidate (sq t.mask h n').j i (sq t.mask h (n'+1))):=by
 intro fuel
 induction fuel with
 | zero=>intro n N h1 h2; lia
 | succ fuel ih =>
  intro n N h1 h2 h3 h4 h5
  unfold SetTable.probe.go
  by_cases e:n=N
  ·subst e
   rw[sA hd h3]
   exact .inl ⟨fun k i a b=>by lia,by rw[h5]⟩
  ·have hm:=h4 n (Nat.le_refl _) (by lia)
   obtain⟨i,hi⟩:=List.getElem?_of_mem hm
   have hi':t.place[i]?=some (sq t.mask h n).j:=by rw[← Array.getElem?_toList]; exact hi
   rw[slot_live hr hi']
   dsimp only
   have uq:∀ i',t.place[i']?=some (sq t.mask h n).j->i'=i:=fun i' z=>by rw[← below_at hr z,below_at hr hi']
   by_cases q:hashAt i=h
   ·simp only[beq_iff_eq,q,if_true]
    exact .inr ⟨n,i,Nat.le_refl _,by lia,hi',q,fun k i a b=>by lia,rfl⟩
   ·simp only[beq_iff_eq,q,if_false]
    rcases ih (n+1) N (by lia) (by lia) h3 (fun k a b=>h4 k (by lia) b) h5 with ⟨z1,z2⟩ | ⟨n',i',a1,a2,a3,a4,a5,a6⟩
    ·refine .inl ⟨fun k i' a b c=>?_,z2⟩
     rcases Nat.lt_or_ge n k with z | z
     ·exact z1 k i' z b c
     ·have:k=n:=by lia
      subst this; rw[uq i' c]; exact q
    ·refine .inr ⟨n',i',by lia,a2,a3,a4,fun k i'' a b c=>?_,a6⟩
     rcases Nat.lt_or_ge n k with z | z
     ·exact a5 k i'' z b c
     ·have:k=n:=by lia
      subst this; rw[uq i'' c]; exact q
theorem sq_dummy(m:Nat)(h:Int):∀ n,(sq m h n).dummy=none
 | 0=>rfl
 | n+1=>by
  show (adv m (sq m h n)).dummy=none
  unfold adv
  split
  ·exact sq_dummy m h n
  ·exact sq_dummy m h n
structure TOk(t:SetTable)(hs:List Int):Prop where
 msk:jH t.mask
 len:t.place.size=hs.length
 nod:t.dummies = #[]
 ris:t.place.toList.Pairwise (· < ·)
 rng:∀ j∈t.place.toList,j<=t.mask
 few:t.place.size*5 < t.mask*3
 path:∀ (i:Nat) (h:Int) (j:Nat),hs[i]?=some h->t.place[i]?=some j->∃ n,(sq t.mask h n).j=j/\∀ n',n' < n->(sq t.mask h n').j∈t.place.toList
theorem wt{m:Nat}{l:List Nat}(hn:l.Nodup)(hr:∀ j∈l,j<=m)(hl:l.length<=m):∃ j,j<=m/\j∉l:=by
 refine Classical.byContradiction fun hc=>?_
 have all:∀ j∈List.range (m+1),j∈l:=fun j hj=>Classical.byContradiction fun hj'=>hc ⟨j,by have:=List.mem_range.mp hj; lia,hj'⟩
 have:=L2.nodup_le (List.range (m+1)) l List.nodup_range all
 rw[List.length_range] at this
 lia
theorem pE{m:Nat}(hm:jH m){l:List Nat}(hn:l.Nodup)(hr:∀ j∈l,j<=m)(hl:l.length<=m)(h:Int):∃ N,N < 10*(m+15)/\(sq m h N).j∉l/\∀ k,k < N->(sq m h k).j∈l:=by
 obtain⟨s,hs,hs'⟩:=wt hn hr hl
 obtain⟨n,hn1,hn2⟩:=Ae hm h hs
 have:∀ b n,n < b->(sq m h n).j∉l->∃ N,N<=n/\(sq m h N).j∉l/\∀ k,k < N->(sq m h k).j∈l:=by
  intro b
  induction b with
  | zero=>intro n h; lia
  | succ b ih =>
   intro n hb hq
   by_cases q:∀ k,k < n->(sq m h k).j∈l
   ·exact⟨n,Nat.le_refl _,hq,q⟩
   ·have:∃ k,k < n/\(sq m h k).j∉l:=Classical.byContradiction fun z=>q fun k hk=>Classical.byContradiction fun z'=>z ⟨k,hk,z'⟩
    obtain⟨k,hk,hk'⟩:=this
    obtain⟨N,a1,a2,a3⟩:=ih k (by lia) hk'
    exact⟨N,by lia,a2,a3⟩
 obtain⟨N,a1,a2,a3⟩:=this (n+1) n (Nat.lt_succ_self _) (by rw[hn2]; exact hs')
 exact⟨N,by lia,a2,a3⟩
theorem TOk.empty{t:SetTable}{hs:List Int}(T:TOk t hs)(h:Int):∃ N,N < 10*(t.mask+15)/\(sq t.mask h N).j∉t.place.toList/\∀ k,k < N->(sq t.mask h k).j∈t.place.toList:=by
 refine pE T.msk (T.ris.imp fun h=>Nat.ne_of_lt h) T.rng ?_ h
 have:=T.few
 rw[Array.length_toList]
 rcases T.msk with e | e | e <;> lia
theorem uN{t:SetTable}(hr:t.place.toList.Pairwise (· < ·)){j:Nat}(hj:j∉t.place.toList) :
  (t.put j).1.place.toList=t.place.toList.take (SetTable.below t.place j)++j::t.place.toList.drop (SetTable.below t.place j)/\(t.put j).1.place.toList.Pairwise (· < ·):=by
 obtain⟨b1,b2,b3⟩:=below_spec t.place hr j
 have e:(t.put j).1.place.toList=t.place.toList.take (SetTable.below t.place j)++j::t.place.toList.drop (SetTable.below t.place j):=by
  show (SetTable.insertAt t.place (SetTable.below t.place j) j).toList=_
  rw[SetTable.toList_insertAt]
 refine⟨e,?_⟩
 rw[e,List.pairwise_append]
 refine⟨hr.sublist (List.take_sublist ..),List.pairwise_cons.mpr ⟨fun x hx=>?_,hr.sublist (List.drop_sublist ..)⟩,fun x hx y hy=>?_⟩
 ·obtain⟨k,hk⟩:=List.getElem?_of_mem hx
  rw[List.getElem?_drop] at hk
  have hk':t.place[SetTable.below t.place j+k]?=some x:=by rw[← Array.getElem?_toList]; exact hk
  obtain⟨hl,ex⟩:=Array.getElem?_eq_some_iff.mp hk'
  have:=b3 _ hl (Nat.le_add_right _ _)
  rw[ex] at this
  rcases Nat.lt_or_ge j x with z | z
  ·exact z
  ·have:x=j:=by lia
   subst this
   exact absurd (List.mem_of_mem_drop hx) hj
 ·obtain⟨k,hk⟩:=List.getElem?_of_mem hx
  rw[List.getElem?_take] at hk
  split at hk
  ·rename_i hkl
   have hk':t.place[k]?=some x:=by rw[← Array.getElem?_toList]; exact hk
   obtain⟨hl,ex⟩:=Array.getElem?_eq_some_iff.mp hk'
   have h1:=b2 k hl hkl
   rw[ex] at h1
   rcases List.mem_cons.mp hy with rfl | hy
   ·exact h1
   ·obtain⟨k2,hk2⟩:=List.getElem?_of_mem hy
    rw[List.getElem?_drop] at hk2
    have hk2':t.place[SetTable.below t.place j+k2]?=some y:=by rw[← Array.getElem?_toList]; exact hk2
    obtain⟨hl2,ey⟩:=Array.getElem?_eq_some_iff.mp hk2'
    have:=b3 _ hl2 (Nat.le_add_right _ _)
    rw[ey] at this
    lia
  ·cases hk
end Ht
set_option maxRecDepth 100000
namespace L2
open PySem PySem.Spec PyProof.Rows DL PySem.W
theorem dG:Slot "set_iterator" "__iter__" "set_iterator.__iter__" :=
 .of (owner:="set_iterator") (n:="__iter__") (by rw[typeLookup_type,builtinLookup_eq_fast]; kernel_rfl) (by decide +kernel) (by decide +kernel) (by decide +kernel) (by first | exact .inl (by decide +kernel) | exact .inr (by decide +kernel)) (by rw[isSubtype_type]; kernel_rfl)
theorem ie:entryFor table "set_iterator.__iter__" = some Builtin.«dict_keyiterator.__iter__»:=entryFor_alias (id':="dict_keyiterator.__iter__") (by kernel_rfl) rfl (by decide +kernel) (by kernel_rfl)
theorem jp(a:Value):argsOk "set_iterator.__iter__" ⟨[a],[]⟩:=by
 unfold argsOk; rw[signature?_of (id:="set_iterator.__iter__") (n:=['_','_','r','e','t','i','_','_']) (o:=['r','o','t','a','r','e','t','i','_','t','e','s']) (by kernel_rfl) iP]; kernel_rfl
section
variable{prog:Program}{w:World}{A:Around}{E:Value->Shared->Prop}{s:Shared}{a it:Addr}{o:Obj}{es:Array (Int×Value)}{ep:Nat}{t:SetTable}
theorem eF(hI:s.heap.get? it=some (db first i n a ep))(h:Q (.ref it) s):wpAny (model prog w) A (pyIter (.ref it)) Q E s:=by
 have hT:s.TypeIs (.ref it) "set_iterator":=⟨_,hI,rfl⟩
 refine wpAny_pyIter_slot hT dG (wpAny_call_entry dG hT ie (show wpAny _ _ (ret (.ref it)) _ _ s from ?_) (jp _))
 exact wpAny_pure ⟨_,rfl,"set_iterator",_,hT,aV.lookup,h⟩
theorem SetAt.at(S:SetAt h a o es ep t)(k:∀ o,h.get? a=some o->h'.get? a=some o):SetAt h' a o es ep t:=⟨k _ S.ob,S.dt,S.ft⟩
theorem gW(hb:w.params.followText "set-order" = true)(S:SetAt s.heap a o es ep t)(h:Q (((pickOrder (w.params.setOrder a ep) es)[i]?).map fun e=>(e.2,0)) s) :
  wpAny (model prog w) A (setNext a 0 i ep) Q E s:=by
 unfold setNext
 refine wpAny_bind (wpAny_setState_of S.ob S.dt S.ft ?_)
 unfold setsByText
 refine wpAny_bind (wpAny_bind (wpAny_askSetting (wpAny_pure ?_)))
 simp only[model,hb,if_true,bne_self_eq_false,Bool.false_eq_true,if_false]
 unfold setWalk
 refine wpAny_bind (wpAny_bind (wpAny_setState_of S.ob S.dt S.ft ?_))
 unfold setsByText
 refine wpAny_bind (wpAny_bind (wpAny_askSetting (wpAny_pure ?_)))
 simp only[model,hb,if_true]
 exact wpAny_bind (wpAny_askSetting (wpAny_pure (wpAny_pure h)))
theorem sd(hb:w.params.followText "set-order" = true)(hh:A.handled=none)(hne:a≠it) :
  Walks prog w A it [it,a] [it] es.size (fun i v=>((pickOrder (w.params.setOrder a ep) es).toList.map (·.2))[i]?=some v) (fun i h=>h.get? it=some (db (rawInt 0) i es.size a ep)/\SetAt h a o es ep t) where
 sub:=fun b hb=>by simp at hb; simp[hb]
 frame:=fun _ _ _ st hk=>⟨hk it (by simp) _ st.1,st.2.at fun o e=>hk a (by simp) o e⟩
 item:=fun i s Q E hi st hQ=>by
  have hl:(pickOrder (w.params.setOrder a ep) es).size=es.size:=by have:=(iL (w.params.setOrder a ep) es).length_eq; simpa using this
  obtain⟨e,he⟩:∃ e,(pickOrder (w.params.setOrder a ep) es)[i]?=some e:=⟨_,Array.getElem?_eq_getElem (by rw[hl]; exact hi)⟩
  refine iV (slot:=0) (next:=0) (x:=e.2) st.1 st.2 (fun A E Q q=>gW hb st.2 (by rw[he]; exact q)) fun h' h1 sb=>hQ _ h' s.toks (by simp[he]) ⟨h1,st.2.at fun o e=>(sb.2 a hne).trans e⟩ fun b o hb e=>(sb.2 b (by simpa using hb)).trans e
 done:=fun s Q E st hQ=>by
  have hl:(pickOrder (w.params.setOrder a ep) es).size=es.size:=by have:=(iL (w.params.setOrder a ep) es).length_eq; simpa using this
  refine cZ (slot:=0) hh st.1 st.2 (fun A E Q q=>gW hb st.2 ?_) fun h' k=>hQ h' s.toks fun b o hb e=>k b o (by simpa using hb) e
  rw[Array.getElem?_eq_none (by rw[hl]; exact Nat.le_refl _)]
  exact q
 self:=fun _ _ _ _ st hQ=>eF st.1 hQ
theorem oA{tt:Addr}{ps:List Nat}(hp:ps.Perm (List.range es.size))(hh:A.handled=none)(hne:a≠it)(hnt:tt≠it) :
  Walks prog w A it [it,a,tt] [it] es.size (fun i v=>(ps.filterMap fun j=>(es[j]?).map (·.2))[i]?=some v) (fun i h=>h.get? it=some (db (.ref tt) i es.size a ep)/\SetAt h a o es ep t/\h.IsTuple tt (ps.map fun (k:Nat)=>rawInt k).toArray) where
 sub:=fun b hb=>by simp at hb; simp[hb]
 frame:=fun _ _ _ st hk=>⟨hk it (by simp) _ st.1,st.2.1.at fun o e=>hk a (by simp) o e,let ⟨o,e,r⟩:=st.2.2; ⟨o,hk tt (by simp) _ e,r⟩⟩
 item:=fun i s Q E hi st hQ=>by
  have hl:ps.length=es.size:=by have:=hp.length_eq; simpa using this
  have hall:∀ j∈ps,j < es.size:=fun j hj=>by have:=hp.mem_iff.mp hj; simpa using this
  have hj:ps[i]?=some ps[i]:=List.getElem?_eq_getElem (by lia)
  have hlt:ps[i] < es.size:=hall _ (List.getElem_mem _)
  have he:es[ps[i]]?=some es[ps[i]]:=Array.getElem?_eq_getElem hlt
  have fm:(ps.filterMap fun j=>(es[j]?).map (·.2))=ps.map fun j=>(es.getD j default).2:=by
   clear hj hl hp hi st hQ he hlt
   induction ps with
   | nil=>rfl
   | cons j r ih =>
    have hj:=hall j List.mem_cons_self
    rw[List.filterMap_cons,Array.getElem?_eq_getElem hj,List.map_cons,← ih fun k hk=>hall k (List.mem_cons_of_mem _ hk)]
    simp[Array.getD,hj]
  refine sI st.1 st.2.2 st.2.1 hj he fun h' h1 sb=>hQ _ h' s.toks ?_ ⟨h1,st.2.1.at fun o e=>(sb.2 a hne).trans e,let ⟨o,e,r⟩:=st.2.2; ⟨o,(sb.2 tt hnt).trans e,r⟩⟩ fun b o hb e=>(sb.2 b (by simpa using hb)).trans e
  rw[fm,List.getElem?_map,hj]
  simp[Array.getD,hlt]
 done:=fun s Q E st hQ=>by
  have hl:ps.length=es.size:=by have:=hp.length_eq; simpa using this
  exact jy hh st.1 st.2.2 st.2.1 (List.getElem?_eq_none (by lia)) fun h' k=>hQ h' s.toks fun b o hb e=>k b o (by simpa using hb) e
 self:=fun _ _ _ _ st hQ=>eF st.1 hQ
theorem gX(hb:w.params.followText "set-order" = false)(hled:t.led=true)(hsz:es.size<=1)(S:SetAt s.heap a o es ep t)
  (h:Q (match es[SetTable.below t.place slot]?,t.place[SetTable.below t.place slot]? with | some (_,x),some j=>some (x,j+1) | _,_=>none) s) :
  wpAny (model prog w) A (setNext a slot i ep) Q E s:=by
 unfold setNext
 refine wpAny_bind (wpAny_setState_of S.ob S.dt S.ft ?_)
 unfold setsByText
 refine wpAny_bind (wpAny_bind (wpAny_askSetting (wpAny_pure ?_)))
 simp only[model,hb,Bool.false_eq_true,if_false]
 refine wpAny_ite_split (fun z=>?_) fun _=>?_
 ·have z':(!t.plain&&decide (es.size > 1))=true:=z
  simp at z'
  lia
 ·refine wpAny_bind (show wpAny (model prog w) A (if (!t.led && !es.isEmpty)=true then unsupported _ else pure ()) _ _ s from ?_)
  rw[hled]
  simp only[Bool.not_true,Bool.false_and,Bool.false_eq_true,if_false]
  exact wpAny_pure (wpAny_pure h)
theorem oh(j k:Nat):SetTable.below #[j] k=if j < k then 1 else 0:=by
 unfold SetTable.below
 simp only[List.size_toArray,List.length_cons,List.length_nil]
 unfold SetTable.below.go
 simp only[Nat.zero_lt_succ,if_true]
 by_cases h:j < k
 ·simp[h,SetTable.below.go]
 ·simp[h,SetTable.below.go]
theorem sf(hb:w.params.followText "set-order" = false)(hled:t.led=true)(hsz:es.size<=1)(hh:A.handled=none)(hne:a≠it) :
  Walks prog w A it [it,a] [it] es.size (fun i v=>(es.toList.map (·.2))[i]?=some v) (fun i h=>h.get? it=some (db (rawInt (if i=0 then 0 else t.place.getD 0 0+1:Nat)) i es.size a ep)/\SetAt h a o es ep t) where
 sub:=fun b hb=>by simp at hb; simp[hb]
 frame:=fun _ _ _ st hk=>⟨hk it (by simp) _ st.1,st.2.at fun o e=>hk a (by simp) o e⟩
 item:=fun i s Q E hi st hQ=>by
  obtain rfl:i=0:=by lia
  have ps:t.place.size=1:=by have:=st.2.ft; simp[SetTable.fits] at this; lia
  obtain⟨j,hj⟩:∃ j,t.place = #[j]:=⟨t.place[0],by apply Array.ext (by simpa using ps); intro i h1 h2; simp at h2; subst h2; rfl⟩
  have he:es[0]?=some es[0]:=Array.getElem?_eq_getElem hi
  refine iV (slot:=0) (next:=j+1) (x:=es[0].2) st.1 st.2 (fun A E Q q=>gX hb hled hsz st.2 ?_) fun h' h1 sb=>hQ _ h' s.toks ?_ ⟨?_,st.2.at fun o e=>(sb.2 a hne).trans e⟩ fun b o hb e=>(sb.2 b (by simpa using hb)).trans e
  ·rw[hj,oh,if_neg (Nat.not_lt_zero _),he]
   exact q
  ·rw[List.getElem?_map,Array.getElem?_toList,he]; rfl
  ·simpa [hj] using h1
 done:=fun s Q E st hQ=>by
  refine cZ (slot:=if es.size=0 then 0 else t.place.getD 0 0+1) hh st.1 st.2 (fun A E Q q=>gX hb hled hsz st.2 ?_) fun h' k=>hQ h' s.toks fun b o hb e=>k b o (by simpa using hb) e
  have ps:t.place.size=es.size:=by have:=st.2.ft; simp[SetTable.fits] at this; lia
  by_cases z:es.size=0
  ·have:es = #[]:=Array.eq_empty_of_size_eq_zero z
   subst this
   simpa using q
  ·obtain⟨j,hj⟩:∃ j,t.place = #[j]:=⟨t.place[0],by apply Array.ext (by simp; lia); intro i h1 h2; simp at h2; subst h2; rfl⟩
   have e1:SetTable.below t.place (if es.size=0 then 0 else t.place.getD 0 0+1)=1:=by rw[if_neg z,hj,oh]; simp
   rw[e1,Array.getElem?_eq_none (by lia)]
   exact q
 self:=fun _ _ _ _ st hQ=>eF st.1 hQ
theorem gY(hb:w.params.followText "set-order" = false)(hled:t.led=true)(hnd:(!t.plain&&decide (es.size > 1))=false)(S:SetAt s.heap a o es ep t)
  (h:Q (match es[SetTable.below t.place slot]?,t.place[SetTable.below t.place slot]? with | some (_,x),some j=>some (x,j+1) | _,_=>none) s) :
  wpAny (model prog w) A (setNext a slot i ep) Q E s:=by
 unfold setNext
 refine wpAny_bind (wpAny_setState_of S.ob S.dt S.ft ?_)
 unfold setsByText
 refine wpAny_bind (wpAny_bind (wpAny_askSetting (wpAny_pure ?_)))
 simp only[model,hb,Bool.false_eq_true,if_false]
 refine wpAny_ite_split (fun z=>?_) fun _=>?_
 ·have z':(!t.plain&&decide (es.size > 1))=true:=z
  rw[hnd] at z'; cases z'
 ·refine wpAny_bind (show wpAny (model prog w) A (if (!t.led && !es.isEmpty)=true then unsupported _ else pure ()) _ _ s from ?_)
  rw[hled]
  simp only[Bool.not_true,Bool.false_and,Bool.false_eq_true,if_false]
  exact wpAny_pure (wpAny_pure h)
theorem si(hb:w.params.followText "set-order" = false)(hled:t.led=true)(hnd:(!t.plain&&decide (es.size > 1))=false)(hr:t.place.toList.Pairwise (· < ·))(hh:A.handled=none)(hne:a≠it) :
  Walks prog w A it [it,a] [it] es.size (fun i v=>(es.toList.map (·.2))[i]?=some v) (fun i h=>h.get? it=some (db (rawInt (if i=0 then 0 else t.place.getD (i-1) 0+1:Nat)) i es.size a ep)/\SetAt h a o es ep t):=by
 have bel:∀ i,i<=t.place.size->SetTable.below t.place (if i=0 then 0 else t.place.getD (i-1) 0+1)=i:=fun i hi=>by
  obtain⟨b1,b2,b3⟩:=Ht.below_spec t.place hr (if i=0 then 0 else t.place.getD (i-1) 0+1)
  have mono:∀ a b (ha:a < t.place.size) (hb:b < t.place.size),a < b->t.place[a] < t.place[b]:=fun a b ha hb h=>by
   have:=List.pairwise_iff_getElem.mp hr a b (by simpa using ha) (by simpa using hb) h
   simpa using this
  by_cases z:i=0
  ·rw[if_pos z] at b1 b2 b3 ⊢
   rcases Nat.eq_zero_or_pos (SetTable.below t.place 0) with q | q
   ·rw[q,z]
   ·have:=b2 0 (by lia) q
    lia
  ·rw[if_neg z] at b1 b2 b3 ⊢
   have hl:i-1 < t.place.size:=by lia
   have eg:t.place.getD (i-1) 0=t.place[i-1]:=by simp[Array.getD,hl]
   rw[eg] at b1 b2 b3 ⊢
   rcases Nat.lt_trichotomy (SetTable.below t.place (t.place[i-1]+1)) i with q | q | q
   ·have:=b3 (i-1) hl (by lia)
    lia
   ·exact q
   ·have:=b2 i (by lia) q
    have:=mono (i-1) i hl (by lia) (by lia)
    lia
 exact {
  sub:=fun b hb=>by simp at hb; simp[hb]
  frame:=fun _ _ _ st hk=>⟨hk it (by simp) _ st.1,st.2.at fun o e=>hk a (by simp) o e⟩
  item:=fun i s Q E hi st hQ=>by
   have ps:t.place.size=es.size:=by have:=st.2.ft; simp[SetTable.fits] at this; lia
   have hp:i < t.place.size:=by lia
   have he:es[i]?=some es[i]:=Array.getElem?_eq_getElem hi
   have hpl:t.place[i]?=some t.place[i]:=Array.getElem?_eq_getElem hp
   refine iV (next:=t.place[i]+1) (x:=es[i].2) st.1 st.2 (fun A E Q q=>gY hb hled hnd st.2 ?_) fun h' h1 sb=>hQ _ h' s.toks ?_ ⟨?_,st.2.at fun o e=>(sb.2 a hne).trans e⟩ fun b o hb e=>(sb.2 b (by simpa using hb)).trans e
   ·rw[bel i (by lia),he,hpl]
    exact q
   ·rw[List.getElem?_map,Array.getElem?_toList,he]; rfl
   ·rw[if_neg (Nat.succ_ne_zero i),Nat.add_sub_cancel,show t.place.getD i 0=t.place[i] by simp[Array.getD,hp]]
    exact h1
  done:=fun s Q E st hQ=>by
   have ps:t.place.size=es.size:=by have:=st.2.ft; simp[SetTable.fits] at this; lia
   refine cZ hh st.1 st.2 (fun A E Q q=>gY hb hled hnd st.2 ?_) fun h' k=>hQ h' s.toks fun b o hb e=>k b o (by simpa using hb) e
   rw[bel es.size (by lia),Array.getElem?_eq_none (Nat.le_refl _)]
   exact q
  self:=fun _ _ _ _ st hQ=>eF st.1 hQ }
end
end L2
set_option maxRecDepth 100000
namespace L2
open PySem PySem.Spec PyProof.Rows DL PySem.W
section
variable{prog:Program}{w:World}{A:Around}{E:Value->Shared->Prop}{s:Shared}{a:Addr}{o:Obj}{es:Array (Int×Value)}{ep:Nat}{t:SetTable}
theorem ye(S:SetAt s.heap a o es ep t)(hc:o.cls=.type "set")(hpl:t.plain=true->es.size<=1\/t.place.toList.Pairwise (· < ·))(hled:t.led = !w.params.followText "set-order")(hz:es.size<=sizeLine)
  (h:∀ (it:Addr) (h':Heap) (d:Drawn) (vs:List Value) (fp:List Addr) (St:Nat->Heap->Prop),(∀ b o,s.heap.get? b=some o->h'.get? b=some o)->vs.Perm (es.toList.map (·.2))->s.heap.objs.size<=it->it < h'.objs.size->(∀ b∈fp,b=a\/s.heap.objs.size<=b/\b < h'.objs.size) ->
   (∀ A':Around,A'.handled=none->Walks prog w A' it fp [it] es.size (fun i v=>vs[i]?=some v) St)->St 0 h'->Q (.ref it) { s with heap:=h',drawn:=d }):wpAny (model prog w) A (pyIter (.ref a)) Q E s:=by
 have hT:s.TypeIs (.ref a) "set":=⟨o,S.ob,hc⟩
 have la:a < s.heap.objs.size:=Heap.lt_size S.ob
 refine wpAny_pyIter_slot hT F.slot_set_iter (wpAny_call_entry F.slot_set_iter hT lQ ?_ (F.args_set_iter_1 _))
 unfold Builtin.«frozenset.__iter__»
 refine wpAny_bind (show wpAny (model prog w) _ (pure a) _ _ s from wpAny_pure ?_)
 unfold Builtin.Frozenset.sizeOf
 refine wpAny_bind (wpAny_bind (wpAny_setEntries_of S.ob S.dt S.ft (wpAny_pure ?_)))
 unfold setDrawn
 refine wpAny_bind (wpAny_bind (wpAny_setState_of S.ob S.dt S.ft ?_))
 unfold setsByText
 refine wpAny_bind (wpAny_bind (wpAny_askSetting (wpAny_pure (wpAny_pure ?_))))
 by_cases hd:(!w.params.followText "set-order" && (!t.plain&&decide (es.size > 1)))=true
 ·refine wpAny_ite_split (fun _=>?_) fun z=>absurd hd z
  refine wpAny_bind (nL _ _ _ _ (by simp) fun ps d hp=>?_)
  refine wpAny_bind (show wpAny (model prog w) _ (newObj (.type "tuple") (.seq (ps.map fun (i:Nat)=>rawInt i).toArray)) _ _ _ from wpAny_newObj_type ?_ (by have e:=hp.length_eq; rw[List.length_range] at e; show (ps.map fun (i:Nat)=>rawInt i).toArray.size<=sizeLine; rw[List.size_toArray,List.length_map,e]; exact hz))
  have S1:=S.at (h':=s.heap.push { cls:=.type "tuple",data:=.seq (ps.map fun (i:Nat)=>rawInt i).toArray }) fun o e=>Heap.get?_push_of_some _ e
  refine wpAny_bind (wpAny_setEpoch_of (s:={ s with heap:=_,drawn:=d }) S1.ob S1.dt S1.ft ?_)
  refine wpAny_bind (show wpAny (model prog w) _ (newObj (.type "set_iterator") (.fields #[.ref s.heap.objs.size,rawInt 0,.ref a,rawInt es.size,rawInt ep])) _ _ _ from wpAny_newObj_type ?_ (by size_fits))
  refine wpAny_pure ⟨_,rfl,"set_iterator",_,⟨_,Heap.get?_push_size _ rfl,rfl⟩,aV.lookup,?_⟩
  have sz:(s.heap.push { cls:=.type "tuple",data:=.seq (ps.map fun (i:Nat)=>rawInt i).toArray }).objs.size=s.heap.objs.size+1:=Heap.size_push ..
  refine h _ _ d (ps.filterMap fun j=>(es[j]?).map (·.2)) _ _ (fun b o e=>Heap.get?_push_of_some _ (Heap.get?_push_of_some _ e)) ?_ (by show s.heap.objs.size<=(s.heap.push _).objs.size; rw[sz]; exact Nat.le_succ _) (by show _ < ((s.heap.push _).push _).objs.size; rw[Heap.size_push (h:=s.heap.push _)]; exact Nat.lt_succ_self _) ?_
   (fun A' hh=>oA (o:=o) (t:=t) (ep:=ep) hp hh (Nat.ne_of_lt (by rw[sz]; exact Nat.lt_succ_of_lt la)) (Nat.ne_of_lt (by rw[sz]; exact Nat.lt_succ_self _))) ⟨Heap.get?_push_size _ rfl,S1.at fun o e=>Heap.get?_push_of_some _ e,⟨_,Heap.get?_push_of_some _ (Heap.get?_push_size _ rfl),rfl,_,rfl⟩⟩
  ·refine(hp.filterMap _).trans ?_
   have e1:(List.range es.size).filterMap (fun j=>(es[j]?).map (·.2))=((List.range es.size).filterMap fun j=>es[j]?).map (·.2):=by rw[List.map_filterMap]
   rw[e1,filterMap_getElem?_range]
  ·intro b hb
   rw[Heap.size_push,sz]
   rcases List.mem_cons.mp hb with rfl | hb
   ·exact .inr ⟨by rw[sz]; exact Nat.le_succ _,by rw[sz]; exact Nat.lt_succ_self _⟩
   ·rcases List.mem_cons.mp hb with rfl | hb
    ·exact .inl rfl
    ·rw[List.mem_singleton.mp hb]
     exact .inr ⟨Nat.le_refl _,Nat.lt_succ_of_lt (Nat.lt_succ_self _)⟩
 ·refine wpAny_ite_split (fun z=>absurd z hd) fun _=>?_
  refine wpAny_bind (wpAny_pure (wpAny_bind (wpAny_setEpoch_of S.ob S.dt S.ft ?_)))
  refine wpAny_bind (show wpAny (model prog w) _ (newObj (.type "set_iterator") (.fields #[rawInt 0,rawInt 0,.ref a,rawInt es.size,rawInt ep])) _ _ _ from wpAny_newObj_type ?_ (by size_fits))
  refine wpAny_pure ⟨_,rfl,"set_iterator",_,⟨_,Heap.get?_push_size _ rfl,rfl⟩,aV.lookup,?_⟩
  have S1:=S.at (h':=s.heap.push (db (rawInt 0) 0 es.size a ep)) fun o e=>Heap.get?_push_of_some _ e
  have fpl:∀ b∈[s.heap.objs.size,a],b=a\/s.heap.objs.size<=b/\b < (s.heap.push (db (rawInt 0) 0 es.size a ep)).objs.size:=fun b hb=>by
   rcases List.mem_cons.mp hb with rfl | hb
   ·exact .inr ⟨Nat.le_refl _,by rw[Heap.size_push]; exact Nat.lt_succ_self _⟩
   ·exact .inl (List.mem_singleton.mp hb)
  by_cases hb:w.params.followText "set-order" = true
  ·refine h _ _ s.drawn ((pickOrder (w.params.setOrder a ep) es).toList.map (·.2)) _ _ (fun b o e=>Heap.get?_push_of_some _ e) ((iL _ es).map _) (Nat.le_refl _) (by rw[Heap.size_push]; exact Nat.lt_succ_self _) fpl
    (fun A' hh=>sd (o:=o) (t:=t) (ep:=ep) hb hh (Nat.ne_of_lt la)) ⟨Heap.get?_push_size _ rfl,S1⟩
  ·have hb':w.params.followText "set-order" = false:=by simpa using hb
   have hnd:(!t.plain&&decide (es.size > 1))=false:=by
    rw[hb'] at hd
    simpa using hd
   have ap:es.size<=1\/t.place.toList.Pairwise (· < ·):=by
    by_cases q:t.plain=true
    ·exact hpl q
    ·simp[q] at hnd
     exact .inl hnd
   rcases ap with h1 | hr
   ·refine h _ _ s.drawn (es.toList.map (·.2)) _ _ (fun b o e=>Heap.get?_push_of_some _ e) (List.Perm.refl _) (Nat.le_refl _) (by rw[Heap.size_push]; exact Nat.lt_succ_self _) fpl
     (fun A' hh=>sf (o:=o) (t:=t) (ep:=ep) hb' (by rw[hled,hb']; rfl) h1 hh (Nat.ne_of_lt la)) ⟨?_,S1⟩
    rw[if_pos rfl]
    exact Heap.get?_push_size _ rfl
   ·refine h _ _ s.drawn (es.toList.map (·.2)) _ _ (fun b o e=>Heap.get?_push_of_some _ e) (List.Perm.refl _) (Nat.le_refl _) (by rw[Heap.size_push]; exact Nat.lt_succ_self _) fpl
     (fun A' hh=>si (o:=o) (t:=t) (ep:=ep) hb' (by rw[hled,hb']; rfl) hnd hr hh (Nat.ne_of_lt la)) ⟨?_,S1⟩
    rw[if_pos rfl]
    exact Heap.get?_push_size _ rfl
end
end L2
set_option maxRecDepth 100000
namespace L2
open PySem PySem.Spec PyProof.Rows DL PySem.W PySem.Calls PyProof.V
section
variable{prog:Program}{w:World}{A:Around}{E:Value->Shared->Prop}{s:Shared}{a:Addr}{o:Obj}{es:Array (Int×Value)}{ep:Nat}{t:SetTable}
theorem yh(hT:s.TypeIs (.ref a) "set")(h:Q false s):wpAny (model prog w) A (Builtin.List.listLengthHint (.ref a)) Q E s:=by
 unfold Builtin.List.listLengthHint
 refine wpAny_bind (wpAny_specialOf hT F.slot_set_len.lookup ?_)
 generalize hi:("set.__len__":String)=ident
 wp_delta
 rw[show splitId ident=some ("set","__len__") by rw[← hi]; decide +kernel]
 rw[← hi]
 refine wpAny_bind (wpAny_isInstance (T:="set") (b:=true) hT sub_set_self (wpAny_ite_split (fun z=>absurd z (by decide)) fun _=>wpAny_ite_split (fun _=>wpAny_bind (wpAny_typeOf hT (wpAny_pure h))) fun z=>absurd (by decide +kernel) z))
theorem sY{R:Result->Shared->Prop}(hh:A.handled=none)(S:SetAt s.heap a o es ep t)(hc:o.cls=.type "set")(hpl:t.plain=true->es.size<=1\/t.place.toList.Pairwise (· < ·))(hled:t.led = !w.params.followText "set-order")(hz:es.size<=sizeLine)
  {D:Addr}{c₀:Nat} (hDa:D≠a) (hD:s.heap.get? D=some { cls:=.type "list",data:=.seq #[] c₀ }) (res:Value)
  (hR:∀ h' tk d vs c,(∀ b u,b≠D->s.heap.get? b=some u->h'.get? b=some u)->h'.get? D=some { cls:=.type "list",data:=.seq vs c }->vs.toList.Perm (es.toList.map (·.2))->R (.ok (.ret res)) { s with heap:=h',toks:=tk,drawn:=d }) :
  wpAny (model prog w) A.in1 (Builtin.List.listExtendWith (.ref D) (.ref a) res)
   (fun fin s'=>match fin with | .done f=>R (.ok f) s' | .again c'=>c'.quiet=true/\codeAny (model prog w) A c' R s') (fun e s'=>R (.error e) s') s:=by
 have ld:D < s.heap.objs.size:=Heap.lt_size hD
 have hT:s.TypeIs (.ref a) "set":=⟨o,S.ob,hc⟩
 unfold Builtin.List.listExtendWith
 refine wpAny_bind (wpAny_typeOf hT ?_)
 have e1:Builtin.List.listSameRef (.ref D) (.ref a)=false:=by simp[Builtin.List.listSameRef,hDa]
 have e2:(Value.type "set" == Value.type "list")=false:=by decide
 have e3:(Value.type "set" == Value.type "tuple")=false:=by decide
 simp only[e1,e2,e3,Bool.or_false,Bool.false_eq_true,if_false]
 refine wpAny_bind (ye S hc hpl hled hz fun it h1 d vs fp St k1 pv lit uit hfp W st=>?_)
 have hDf:D∉fp:=fun z=>by
  rcases hfp D z with e | ⟨e,_⟩
  ·exact hDa e
  ·exact absurd ld (Nat.not_lt.mpr e)
 have lv:vs.length=es.size:=by have:=pv.length_eq; simpa using this
 have go:∀ (h:Heap) (c₁:Nat),St 0 h->(∀ b u,b≠D->h1.get? b=some u->h.get? b=some u)->h.get? D=some { cls:=.type "list",data:=.seq #[] c₁ } ->
   codeAny (model prog w) A (.builtin "list.extend.loop" ⟨[.ref D,.ref it,res],[]⟩) R { s with heap:=h,drawn:=d }:=fun h c₁ st' kk hD'=>by
  refine codeAny_extend_loopS (W A.in1 (by simp[hh])).toS hz D hDf res es.size 0 _ #[] c₁ rfl (Nat.zero_le _) st' hD' (ItemsOf.nil _) fun s' acc c' hm hD'' hacc=>?_
  rw[Moved.eq_with hm]
  have ea:acc.toList=vs:=by
   apply List.ext_getElem?
   intro i
   by_cases hi:i < es.size
   ·have hi':i < acc.size:=by rw[hacc.1]; exact hi
    have h1:acc[i]?=some acc[i]:=Array.getElem?_eq_getElem hi'
    rw[Array.getElem?_toList,h1]
    exact(hacc.2 i _ h1).symm
   ·rw[List.getElem?_eq_none (by rw[Array.length_toList,hacc.1]; lia),List.getElem?_eq_none (by lia)]
  refine hR s'.heap s'.toks d acc c' (fun b u hb e=>hm.heap b u (fun z=>?_) (kk b u hb (k1 b u e))) hD'' (by rw[ea]; exact pv)
  rcases List.mem_cons.mp z with e' | z
  ·exact hb e'
  ·rw[List.mem_singleton.mp z] at e
   exact absurd (Heap.lt_size e) (Nat.not_lt.mpr lit)
 have hD1:=k1 _ _ hD
 refine wpAny_bind (wpAny_holding (yh (s:={ s with heap:=h1,drawn:=d }) ⟨o,k1 _ _ S.ob,hc⟩ ?_))
 refine wpAny_ite_split (fun z=>?_) fun _=>wpAny_pure ⟨plainId_quiet F.plain_extend_loop _,go h1 c₀ st (fun _ _ _ e=>e) hD1⟩
 refine wpAny_bind (wpAny_rule (wpAny_bind (show wpAny (model prog w) _ (updateSeq D (·.push .none) >>= fun _=>updateSeq D (·.pop)) _ _ _ from wpAny_bind (wpAny_updateSeq hD1 rfl ?_))))
 have hD2:=Heap.get?_update_self (Obj.mapSeq (·.push Value.none)) hD1 rfl
 refine wpAny_updateSeq (hz:=by seq_fits) hD2 rfl ?_
 have hD3:=Heap.get?_update_self (Obj.mapSeq (·.pop)) hD2 rfl
 have other:∀ b,b≠D->((h1.update D (Obj.mapSeq (·.push Value.none))).update D (Obj.mapSeq (·.pop))).get? b=h1.get? b:=fun b hb=>by
  rw[Heap.get?_update_other _ _ (Ne.symm hb),Heap.get?_update_other _ _ (Ne.symm hb)]
 refine wpAny_pure ⟨plainId_quiet F.plain_extend_loop _,go _ _ ((W A hh).frame 0 _ _ st fun b hb u e=>(other b fun q=>hDf (q ▸ hb)).trans e) (fun b u hb e=>(other b hb).trans e) hD3⟩
theorem sw{Q:Value->Shared->Prop}(hh:A.handled=none)(S:SetAt s.heap a o es ep t)(hc:o.cls=.type "set")(hpl:t.plain=true->es.size<=1\/t.place.toList.Pairwise (· < ·))(hled:t.led = !w.params.followText "set-order")(hz:es.size<=sizeLine)
  (h:∀ h' tk d D (vs:List Value),(∀ b u,s.heap.get? b=some u->h'.get? b=some u)->s.heap.get? D=none->h'.get? D=some { cls:=.type "list",data:=.seq vs.toArray }->vs.Perm (es.toList.map (·.2)) ->
   wpAny (model prog w) A.in1 (call (.builtin "list.sort") [.ref D]) (fun _ s'=>Q (.ref D) s') E { s with heap:=h',toks:=tk,drawn:=d }):wpAny (model prog w) A (call (.builtin "sorted") [.ref a]) Q E s:=by
 have la:a < s.heap.objs.size:=Heap.lt_size S.ob
 refine call_function_entry kind_sorted plain_sorted entry_sorted (args_sorted1 _) ?_
 unfold Builtin.«sorted»
 refine wpAny_bind (m:=checkCount "sorted" 1 1 _) (wpAny_pure ?_)
 unfold collect
 refine wpAny_bind (wpAny_bind (wpAny_runValue (codeAny_builtin F.entry_proto_collect ?_)))
 rw[Around.under_plainId F.plain_proto_collect _]
 refine(show wpAny (model prog w) _ (newList [] >>= fun l=>again (.builtin "list.__iadd__" ⟨[l,.ref a],[]⟩)) _ _ s from wpAny_bind (wpAny_newObj_type (wpAny_pure ⟨plainId_quiet F.plain_list_iadd _,codeAny_builtin F.entry_list_iadd ?_⟩)))
 rw[Around.under_plainId F.plain_list_iadd _]
 have S1:=S.at (h':=s.heap.push { cls:=.type "list",data:=.seq ([]:List Value).toArray }) fun o e=>Heap.get?_push_of_some _ e
 have key:=sY (prog:=prog) (A:=A.in1) (s:={ s with heap:=s.heap.push { cls:=.type "list",data:=.seq ([]:List Value).toArray } }) (D:=s.heap.objs.size) (c₀:=0) (res:=.ref s.heap.objs.size)
  (R:=fun r s'=>∃ h' tk d vs c,r=.ok (.ret (.ref s.heap.objs.size))/\s'={ s with heap:=h',toks:=tk,drawn:=d }/\(∀ b u,s.heap.get? b=some u->h'.get? b=some u)/\h'.get? s.heap.objs.size=some { cls:=.type "list",data:=.seq vs c }/\vs.toList.Perm (es.toList.map (·.2)))
  (by simp[hh]) S1 hc hpl hled hz (Nat.ne_of_gt la) (Heap.get?_push_size _ rfl) fun h' tk d vs c k hD p=>⟨h',tk,d,vs,c,rfl,rfl,fun b u e=>k b u (Nat.ne_of_lt (Heap.lt_size e)) (Heap.get?_push_of_some _ e),hD,p⟩
 have last:∀ h' tk d (vs:Array Value) c,(∀ b u,s.heap.get? b=some u->h'.get? b=some u)->h'.get? s.heap.objs.size=some { cls:=.type "list",data:=.seq vs c }->vs.toList.Perm (es.toList.map (·.2)) ->
   wpAny (model prog w) A.in1 (do let ob ← load s.heap.objs.size; match ob.data with | .seq xs _=>pure xs.toList | _=>unsupported "internal:collect":Sem (List Value))
    (fun xs s'=>wpAny (model prog w) A.in1 (do let l ← newList xs; let _ ← holding [l] (call (.builtin "list.sort") [l] []); ret l) (fun fin s'=>∃ v,fin=Fin.done (Flow.ret v)/\Q v s') E s') E { s with heap:=h',toks:=tk,drawn:=d }:=fun h' tk d vs c kk hD p=>by
  refine wpAny_bind (wpAny_load hD (wpAny_pure (wpAny_bind (wpAny_newList ?_ (by rw[p.length_eq]; simpa using hz)))))
  have la':s.heap.objs.size < h'.objs.size:=Heap.lt_size hD
  refine wpAny_bind (wpAny_holding (wpAny_mono (h (h'.push { cls:=.type "list",data:=.seq vs.toList.toArray }) tk d h'.objs.size vs.toList (fun b u e=>Heap.get?_push_of_some _ (kk b u e)) ?_ (Heap.get?_push_size _ rfl) p) (fun _ s' q=>wpAny_pure ⟨_,rfl,q⟩) fun _ _ z=>z))
  cases q:s.heap.get? h'.objs.size with
  | none=>rfl
  | some o'=>exact absurd (Heap.lt_size (kk _ _ q)) (Nat.lt_irrefl _)
 refine wpAny_mono key (fun fin s' x=>?_) fun e s' ⟨_,_,_,_,_,z,_⟩=>by cases z
 cases fin with
 | done f =>
  obtain⟨h',tk,d,vs,c,z,rfl,kk,hD,p⟩:=x
  cases z
  exact last h' tk d vs c kk hD p
 | again c' =>
  refine⟨x.1,codeAny_mono x.2 fun r s2 ⟨h',tk,d,vs,c,z,e,kk,hD,p⟩=>?_⟩
  subst z e
  exact last h' tk d vs c kk hD p
end
end L2
set_option maxRecDepth 100000
namespace L2
open PySem PySem.Spec PyProof.Rows DL PySem.W
section
variable{X:Cx}{e:Expr}{te:DTE}{p p' pos pos':Pos}{k:Nat}
theorem Inv.drew(I:Inv X pins σ H s):Inv X pins σ H { s with drawn:=d } :=
 ⟨I.ok,I.os,I.bare,I.base,I.loc,I.cell,I.free,I.freeC,I.pin,I.hok,I.len⟩
end
end L2
set_option maxRecDepth 100000
namespace L2
open PySem PySem.Spec PyProof.Rows DL PySem.Builtin PySem.Builtin.Str PySem.StrLaws
theorem wH(a b len:Nat):strSliceIndices (some (a:Int)) (some (b:Int)) 1 len=strSliceIndices (some ((min a len:Nat):Int)) (some ((min b len:Nat):Int)) 1 len:=by
 have e:∀ i:Nat,max (0:Int) (min (i:Int) (len:Int))=max (0:Int) (min ((min i len:Nat):Int) (len:Int)):=fun i=>by lia
 have n:∀ i:Nat,¬ ((i:Int) < 0):=fun i=>by lia
 simp only[strSliceIndices,n,if_false,show ((1:Int) > 0)=True by simp,if_true]
 rw[e a,e b]
theorem fM(x:Str)(l u:Option Int):(Txt.slice x l u).cps.toList=if (strSliceIndices l u 1 x.length).length=x.length then x.cps.toList else (strSliceIndices l u 1 x.length).filterMap (x.cps[·]?):=by
 unfold Txt.slice
 by_cases h:(strSliceIndices l u 1 x.length).length=x.length
 ·rw[if_pos (by simp[h]),if_pos h]
 ·rw[if_neg (by simp[h]),if_neg h]
theorem uG(x:Str){a b:Nat}(hab:a<=b):(Txt.slice x (some (a:Int)) (some (b:Int))).cps.toList=(x.cps.toList.drop a).take (b-a):=by
 have hm:min a x.length<=min b x.length:=by lia
 have key:(strSliceIndices (some ((min a x.length:Nat):Int)) (some ((min b x.length:Nat):Int)) 1 x.length).filterMap (x.cps[·]?)=(x.cps.toList.drop (min a x.length)).take (min b x.length-min a x.length):=sliced_plain x hm (Nat.min_le_right ..)
 have ll:=jb (a:=x)
 have fin:(x.cps.toList.drop (min a x.length)).take (min b x.length-min a x.length)=(x.cps.toList.drop a).take (b-a):=by
  by_cases ha:a<=x.length
  ·rw[Nat.min_eq_left ha]
   by_cases hb:b<=x.length
   ·rw[Nat.min_eq_left hb]
   ·rw[Nat.min_eq_right (by lia),List.take_of_length_le (by rw[List.length_drop]; lia),List.take_of_length_le (by rw[List.length_drop]; lia)]
  ·rw[List.drop_eq_nil_of_le (i:=a) (by lia),List.drop_eq_nil_of_le (i:=min a x.length) (by lia)]
   simp
 rw[fM,wH,key,fin]
 split
 ·rename_i h
  rw[strSliceIndices_plain hm (Nat.min_le_right ..)] at h
  simp only[List.length_map,List.length_range] at h
  have h0:min a x.length=0:=by lia
  by_cases hx:x.length=0
  ·have:x.cps.toList=[]:=List.eq_nil_of_length_eq_zero (by lia)
   rw[this]; simp
  ·have:a=0:=by lia
   subst this
   rw[List.drop_zero,List.take_of_length_le (by lia)]
 ·rfl
end L2
set_option maxRecDepth 100000
namespace L2
open PySem PySem.Spec PyProof.Rows DL PySem.W
section
variable{X:Cx}
def Ah:DR2:=fun x y M Q=>match x,y with
 | .int i,.int j=>CPow i j/\Q (.int (i ^ j.toNat)) M
 | _,_=>False
theorem Dr:OpD X (binaryOp .Pow) Ah:=by
 refine OpR.imp Df fun vx vy H R ⟨x,y,M,ρ,Q,sm,r1,r2,q,k⟩=>?_
 unfold Ah at q
 split at q
 ·cases r1
  cases r2
  exact⟨_,_,rfl,rfl,q.1,k _ H (VQ.now sm (.int _) q.2)⟩
 ·exact q.elim
theorem zA:HOp X (binaryOp .Pow) Ah:=⟨Dr⟩
end
end L2
set_option maxRecDepth 100000
namespace Ht
open PySem
def Occ(ow:Array (Option Nat))(s:Nat):Prop:=∃ i,ow[s]?=some (some i)
theorem getD_none(hs:s < ow.size):(ow.getD s (some 0)).isNone=true↔¬ Occ ow s:=by
 have e:ow[s]?=some ow[s]:=Array.getElem?_eq_getElem hs
 have e2:ow.getD s (some 0)=ow[s]:=by simp[Array.getD,hs]
 rw[e2]
 unfold Occ
 rw[e]
 cases ow[s] <;> simp
theorem wv(hz:ow.size=m+1)(h:Int):∀ (fuel k0 k:Nat),k0<=k->k < k0+fuel->¬ Occ ow (cT m h k).1->(∀ n,n < dn m h k0->Occ ow (sq m h n).j) ->
  ∃ N,SetTable.layClean.free m ow fuel (cT m h k0).1 (cT m h k0).2=some (sq m h N).j/\¬ Occ ow (sq m h N).j/\∀ n,n < N->Occ ow (sq m h n).j:=by
 intro fuel
 induction fuel with
 | zero=>intro k0 k h1 h2; lia
 | succ fuel ih =>
  intro k0 k h1 h2 h3 h4
  have ile:=oN m h k0
  have rle:SetTable.runEnd m (cT m h k0).1<=m/\(cT m h k0).1<=SetTable.runEnd m (cT m h k0).1:=by
   unfold SetTable.runEnd; split <;> lia
  unfold SetTable.layClean.free
  cases hf:(List.range (SetTable.runEnd m (cT m h k0).1+1-(cT m h k0).1)).find? fun k=>(ow.getD ((cT m h k0).1+k) (some 0)).isNone with
  | some r =>
   have hr:=List.find?_some hf
   have hmem:=List.mem_of_find?_eq_some hf
   rw[List.mem_range] at hmem
   refine⟨dn m h k0+r,by rw[uF m h k0 r (by lia)],?_,fun n hn=>?_⟩
   ·rw[uF m h k0 r (by lia)]
    exact(getD_none (by lia)).mp hr
   ·rcases Nat.lt_or_ge n (dn m h k0) with q | q
    ·exact h4 n q
    ·obtain⟨r',rfl⟩:∃ r',n=dn m h k0+r':=⟨n-dn m h k0,by lia⟩
     rw[uF m h k0 r' (by lia)]
     refine Classical.byContradiction fun hno=>?_
     have hlt:r' < r:=by lia
     have z:=(getD_none (ow:=ow) (s:=(cT m h k0).1+r') (by lia)).mpr hno
     have:=List.find?_range_eq_some.mp hf
     have:=this.2.2 r' hlt
     rw[z] at this
     exact absurd this (by simp)
  | none =>
   have all:∀ r,r<=SetTable.runEnd m (cT m h k0).1-(cT m h k0).1->Occ ow ((cT m h k0).1+r):=fun r hr=>by
    refine Classical.byContradiction fun hno=>?_
    have z:=(getD_none (ow:=ow) (s:=(cT m h k0).1+r) (by lia)).mpr hno
    have:=List.find?_eq_none.mp hf r (List.mem_range.mpr (by lia))
    exact this z
   have hk:k0≠k:=fun e=>by subst e; exact h3 (all 0 (Nat.zero_le _))
   refine ih (k0+1) k (by lia) (by lia) h3 fun n hn=>?_
   unfold dn at hn
   rcases Nat.lt_or_ge n (dn m h k0) with q | q
   ·exact h4 n q
   ·obtain⟨r',rfl⟩:∃ r',n=dn m h k0+r':=⟨n-dn m h k0,by lia⟩
    rw[uF m h k0 r' (by lia)]
    exact all r' (by lia)
structure Laid(m:Nat)(hs:List Int)(ow:Array (Option Nat))(k:Nat):Prop where
 sz:ow.size=m+1
 lt:∀ s i:Nat,ow[s]?=some (some i)->i < k
 inj:∀ s s' i:Nat,ow[s]?=some (some i)->ow[s']?=some (some i)->s=s'
 all:∀ i:Nat,i < k->∃ s:Nat,ow[s]?=some (some i)
 path:∀ (s i:Nat) (h:Int),ow[s]?=some (some i)->hs[i]?=some h->∃ n,(sq m h n).j=s/\∀ n',n' < n->Occ ow (sq m h n').j
theorem Laid.room(L:Laid m hs ow k)(hk:k<=m):∃ s,s<=m/\¬ Occ ow s:=by
 refine Classical.byContradiction fun hc=>?_
 have occ:∀ s,s<=m->Occ ow s:=fun s hs=>Classical.byContradiction fun z=>hc ⟨s,hs,z⟩
 have idx:∀ s,s∈List.range (m+1)->((ow.getD s none).getD 0)∈List.range k:=fun s hs'=>by
  obtain⟨i,e⟩:=occ s (by have:=List.mem_range.mp hs'; lia)
  have:ow.getD s none=some i:=by
   obtain⟨hl,z⟩:=Array.getElem?_eq_some_iff.mp e
   simp[Array.getD,hl,z]
  rw[this]
  exact List.mem_range.mpr (L.lt s i e)
 have nd:((List.range (m+1)).map fun s=>(ow.getD s none).getD 0).Nodup:=by
  rw[List.nodup_iff_pairwise_ne,List.pairwise_map]
  have base:=List.nodup_range (n:=m+1)
  rw[List.nodup_iff_pairwise_ne] at base
  refine base.imp_of_mem fun {a b} ha hb hne e=>hne ?_
  obtain⟨i,ei⟩:=occ a (by have:=List.mem_range.mp ha; lia)
  obtain⟨j,ej⟩:=occ b (by have:=List.mem_range.mp hb; lia)
  have e1:ow.getD a none=some i:=by
   obtain⟨hl,z⟩:=Array.getElem?_eq_some_iff.mp ei
   simp[Array.getD,hl,z]
  have e2:ow.getD b none=some j:=by
   obtain⟨hl,z⟩:=Array.getElem?_eq_some_iff.mp ej
   simp[Array.getD,hl,z]
  rw[e1,e2] at e
  have:i=j:=e
  subst this
  exact L.inj a b i ei ej
 have:=L2.nodup_le _ (List.range k) nd fun x hx=>by
  obtain⟨s,hs',rfl⟩:=List.mem_map.mp hx
  exact idx s hs'
 rw[List.length_map,List.length_range,List.length_range] at this
 lia
theorem Laid.step(hm:jH m)(L:Laid m hs ow k)(hk:k<=m)(hh:hs[k]?=some h) :
  ∃ j,SetTable.layClean.free m ow (SetTable.turns m) (SetTable.bits h % (m+1)) (SetTable.bits h)=some j/\Laid m hs (ow.setIfInBounds j (some k)) (k+1):=by
 obtain⟨s,hs1,hs2⟩:=L.room hk
 obtain⟨k',hk',e⟩:=zL hm h hs1
 obtain⟨N,f1,f2,f3⟩:=wv L.sz h (SetTable.turns m) 0 k' (Nat.zero_le _) (by unfold SetTable.turns; lia) (by rw[e]; exact hs2) fun n hn=>absurd hn (Nat.not_lt_zero _)
 refine⟨(sq m h N).j,f1,?_⟩
 have jl:(sq m h N).j < ow.size:=by have:=uE (m:=m) h N; rw[L.sz]; lia
 have same:(ow.setIfInBounds (sq m h N).j (some k))[(sq m h N).j]?=some (some k):=by
  rw[Array.getElem?_setIfInBounds_self_of_lt jl]
 have other:∀ s,s≠(sq m h N).j->(ow.setIfInBounds (sq m h N).j (some k))[s]?=ow[s]?:=fun s hne=>Array.getElem?_setIfInBounds_ne (Ne.symm hne)
 have grow:∀ s,Occ ow s->Occ (ow.setIfInBounds (sq m h N).j (some k)) s:=fun s ⟨i,z⟩=>by
  by_cases q:s=(sq m h N).j
  ·subst q; exact⟨k,same⟩
  ·exact⟨i,by rw[other s q]; exact z⟩
 have wh:∀ s i,(ow.setIfInBounds (sq m h N).j (some k))[s]?=some (some i)->(s=(sq m h N).j/\i=k)\/(s≠(sq m h N).j/\ow[s]?=some (some i)):=fun s i z=>by
  by_cases q:s=(sq m h N).j
  ·subst q; rw[same] at z; cases z; exact .inl ⟨rfl,rfl⟩
  ·rw[other s q] at z; exact .inr ⟨q,z⟩
 refine⟨by rw[Array.size_setIfInBounds]; exact L.sz,fun s i z=>?_,fun s s' i z z'=>?_,fun i hi=>?_,fun s i h' z hh'=>?_⟩
 ·rcases wh s i z with ⟨_,e⟩ | ⟨_,z⟩
  ·lia
  ·have:=L.lt s i z; lia
 ·rcases wh s i z with ⟨e1,e2⟩ | ⟨_,z⟩
  ·rcases wh s' i z' with ⟨e3,_⟩ | ⟨_,z'⟩
   ·rw[e1,e3]
   ·have:=L.lt s' i z'; lia
  ·rcases wh s' i z' with ⟨_,e4⟩ | ⟨_,z'⟩
   ·have:=L.lt s i z; lia
   ·exact L.inj s s' i z z'
 ·by_cases q:i=k
  ·subst q; exact⟨_,same⟩
  ·obtain⟨s,z⟩:=L.all i (by lia)
   refine⟨s,?_⟩
   rw[other s fun e=>f2 ⟨i,by rw[← e]; exact z⟩]
   exact z
 ·rcases wh s i z with ⟨e1,e2⟩ | ⟨_,z⟩
  ·subst e1 e2
   rw[hh] at hh'; cases hh'
   exact⟨N,rfl,fun n' hn'=>grow _ (f3 n' hn')⟩
  ·obtain⟨n,a1,a2⟩:=L.path s i h' z hh'
   exact⟨n,a1,fun n' hn'=>grow _ (a2 n' hn')⟩
theorem Bb(hm:jH m)(hs:List Int)(hl:hs.length<=m):∃ ow,SetTable.layClean m hs.toArray=some ow/\Laid m hs ow hs.length:=by
 have start:Laid m hs (Array.replicate (m+1) none) 0:=by
  have no:∀ s i:Nat,(Array.replicate (m+1) (none:Option Nat))[s]?≠some (some i):=fun s i z=>by
   rw[Array.getElem?_replicate] at z
   split at z <;> cases z
  exact⟨by simp,fun s i z=>absurd z (no s i),fun s _ i z=>absurd z (no s i),fun i hi=>absurd hi (Nat.not_lt_zero _),fun s i _ z=>absurd z (no s i)⟩
 have go:∀ (aN:List Int) (k:Nat) (ow:Array (Option Nat)),hs.drop k=aN->k+aN.length=hs.length->Laid m hs ow k ->
   ∃ ow',aN.foldl (init:=some (ow,k)) (fun acc h=>do
    let (owner,k) ← acc
    let j ← SetTable.layClean.free m owner (SetTable.turns m) (SetTable.bits h % (m+1)) (SetTable.bits h)
    pure (owner.setIfInBounds j (some k),k+1))=some (ow',hs.length)/\Laid m hs ow' hs.length:=by
  intro aN
  induction aN with
  | nil =>
   intro k ow e hk L
   have:k=hs.length:=by simpa using hk
   subst this
   exact⟨ow,rfl,L⟩
  | cons h aN ih =>
   intro k ow e hk L
   have hh:hs[k]?=some h:=by
    have:(hs.drop k)[0]?=some h:=by rw[e]; rfl
    rw[List.getElem?_drop] at this
    simpa using this
   rw[List.length_cons] at hk
   obtain⟨j,f1,L'⟩:=L.step hm (by lia) hh
   obtain⟨ow',g1,g2⟩:=ih (k+1) (ow.setIfInBounds j (some k)) (by
    have:hs.drop (k+1)=(hs.drop k).drop 1:=by rw[List.drop_drop]
    rw[this,e]; rfl) (by lia) L'
   refine⟨ow',?_,g2⟩
   rw[List.foldl_cons]
   simp only[Option.bind_eq_bind,Option.bind_some,f1,Option.pure_def]
   exact g1
 obtain⟨ow,g1,g2⟩:=go hs 0 _ rfl (by simp) start
 refine⟨ow,?_,g2⟩
 unfold SetTable.layClean
 rw[← Array.foldl_toList]
 have:hs.toArray.toList=hs:=by simp
 rw[this,g1]
 rfl
end Ht
set_option maxRecDepth 100000
namespace Ht
open PySem
theorem iM{α:Type}[DecidableEq α]:∀ {l l':List α},l.Nodup->l'.Nodup->(∀ x,x∈l↔x∈l')->l.Perm l'
 | [],l',_,_,h=>by
  have:l'=[]:=List.eq_nil_iff_forall_not_mem.mpr fun x hx=>absurd ((h x).mpr hx) (by simp)
  rw[this]
 | x::l,l',n,n',h=>by
  have hx:x∈l':=(h x).mp List.mem_cons_self
  have n1:=List.nodup_cons.mp n
  refine(List.Perm.cons x (iM n1.2 (n'.erase x) fun y=>?_)).trans (List.perm_cons_erase hx).symm
  by_cases e:y=x
  ·subst e
   constructor
   ·intro z; exact absurd z n1.1
   ·intro z; exact absurd z (List.Nodup.not_mem_erase n')
  ·rw[List.mem_erase_of_ne e,← h y,List.mem_cons]
   exact⟨.inr,fun z=>z.resolve_left e⟩
def bo(m:Nat)(ow:Array (Option Nat)):List (Nat×Nat):=(List.range (m+1)).filterMap fun j=>(ow.getD j none).map (j,·)
theorem da(L:Laid m hs ow k):(s,i)∈bo m ow↔ow[s]?=some (some i):=by
 unfold bo
 rw[List.mem_filterMap]
 constructor
 ·rintro⟨j,hj,e⟩
  have hj':j < ow.size:=by rw[L.sz]; exact List.mem_range.mp hj
  have e2:ow.getD j none=ow[j]:=by simp[Array.getD,hj']
  rw[e2] at e
  cases q:ow[j] with
  | none=>rw[q] at e; cases e
  | some i' =>
   rw[q] at e
   have:=Option.some.inj e
   cases this
   rw[Array.getElem?_eq_getElem hj',q]
 ·intro e
  obtain⟨hl,z⟩:=Array.getElem?_eq_some_iff.mp e
  refine⟨s,List.mem_range.mpr (by rw[← L.sz]; exact hl),?_⟩
  have e2:ow.getD s none=ow[s]:=by simp[Array.getD,hl]
  rw[e2,z]; rfl
theorem mY(m:Nat)(ow:Array (Option Nat)):((bo m ow).map (·.1)).Pairwise (· < ·):=by
 unfold bo
 rw[List.pairwise_map]
 refine List.Pairwise.filterMap (R:=(· < ·)) _ (fun a a' h b hb b' hb'=>?_) (List.pairwise_lt_range)
 obtain⟨x,_,rfl⟩:=Option.map_eq_some_iff.mp hb
 obtain⟨y,_,rfl⟩:=Option.map_eq_some_iff.mp hb'
 exact h
theorem mZ(L:Laid m hs ow hs.length):((bo m ow).map (·.2)).Perm (List.range hs.length):=by
 have nd1:(bo m ow).Nodup:=by
  have:=mY m ow
  rw[List.pairwise_map] at this
  exact this.imp fun h e=>by rw[e] at h; exact Nat.lt_irrefl _ h
 have nd:((bo m ow).map (·.2)).Nodup:=by
  rw[List.nodup_iff_pairwise_ne,List.pairwise_map]
  rw[List.nodup_iff_pairwise_ne] at nd1
  refine nd1.imp_of_mem fun {a b} ha hb hne e=>hne ?_
  obtain⟨s,i⟩:=a
  obtain⟨s',i'⟩:=b
  have e':i=i':=e
  subst e'
  rw[L.inj s s' i ((da L).mp ha) ((da L).mp hb)]
 refine iM nd List.nodup_range fun i=>?_
 rw[List.mem_range,List.mem_map]
 constructor
 ·rintro⟨⟨s,i'⟩,hm,rfl⟩
  exact L.lt s i' ((da L).mp hm)
 ·intro hi
  obtain⟨s,e⟩:=L.all i hi
  exact⟨(s,i),(da L).mpr e,rfl⟩
end Ht
set_option maxRecDepth 100000
namespace Ht
open PySem
theorem lN{α:Type}{l:List α}{p:Nat}{x y:α}(hp:p<=l.length){i:Nat}(h:(l.take p++x::l.drop p)[i]?=some y):(i < p/\l[i]?=some y)\/(i=p/\y=x)\/(p < i/\l[i-1]?=some y):=by
 have lt:(l.take p).length=p:=by rw[List.length_take]; lia
 rcases Nat.lt_trichotomy i p with q | q | q
 ·rw[List.getElem?_append_left (by lia),List.getElem?_take,if_pos q] at h
  exact .inl ⟨q,h⟩
 ·subst q
  rw[List.getElem?_append_right (by lia),lt,Nat.sub_self] at h
  exact .inr (.inl ⟨rfl,(Option.some.inj h).symm⟩)
 ·rw[List.getElem?_append_right (by lia),lt] at h
  obtain⟨r,hr⟩:∃ r,i-p=r+1:=⟨i-p-1,by lia⟩
  rw[hr,List.getElem?_cons_succ,List.getElem?_drop] at h
  exact .inr (.inr ⟨q,by rw[show i-1=p+r by lia]; exact h⟩)
structure TPre(t:SetTable)(hs:List Int):Prop where
 msk:jH t.mask
 len:t.place.size=hs.length
 nod:t.dummies = #[]
 ris:t.place.toList.Pairwise (· < ·)
 rng:∀ j∈t.place.toList,j<=t.mask
 path:∀ (i:Nat) (h:Int) (j:Nat),hs[i]?=some h->t.place[i]?=some j->∃ n,(sq t.mask h n).j=j/\∀ n',n' < n->(sq t.mask h n').j∈t.place.toList
theorem put_pre(T:TOk t hs)(h2:(sq t.mask h N).j∉t.place.toList)(h3:∀ k,k < N->(sq t.mask h k).j∈t.place.toList)(pl:Bool) :
  (t.put (sq t.mask h N).j).2<=hs.length/\TPre { (t.put (sq t.mask h N).j).1 with plain:=pl } (hs.take (t.put (sq t.mask h N).j).2++h::hs.drop (t.put (sq t.mask h N).j).2):=by
 obtain⟨e,ris⟩:=uN T.ris h2
 obtain⟨b1,_,_⟩:=below_spec t.place T.ris (sq t.mask h N).j
 have bl:SetTable.below t.place (sq t.mask h N).j<=hs.length:=by rw[← T.len]; exact b1
 refine⟨bl,⟨T.msk,?_,?_,ris,fun j hj=>?_,fun i h' j hh hj=>?_⟩⟩
 ·have:=congrArg List.length e
  rw[Array.length_toList,List.length_append,List.length_cons,List.length_take,List.length_drop,Array.length_toList] at this
  show (t.put (sq t.mask h N).j).1.place.size=(hs.take (SetTable.below t.place (sq t.mask h N).j)++h::hs.drop (SetTable.below t.place (sq t.mask h N).j)).length
  rw[this,List.length_append,List.length_cons,List.length_take,List.length_drop,T.len]
 ·show (if SetTable.has t.dummies (sq t.mask h N).j then SetTable.eraseAt t.dummies (SetTable.below t.dummies (sq t.mask h N).j) else t.dummies) = #[]
  rw[T.nod]
  rfl
 ·have hj':j∈(t.put (sq t.mask h N).j).1.place.toList:=hj
  rw[e] at hj'
  rcases List.mem_append.mp hj' with q | q
  ·exact T.rng j (List.mem_of_mem_take q)
  ·rcases List.mem_cons.mp q with q | q
   ·rw[q]; exact uE h N
   ·exact T.rng j (List.mem_of_mem_drop q)
 ·have sub:∀ x,x∈t.place.toList->x∈(t.put (sq t.mask h N).j).1.place.toList:=fun x hx=>by
   rw[e]
   rw[← List.take_append_drop (SetTable.below t.place (sq t.mask h N).j) t.place.toList] at hx
   rcases List.mem_append.mp hx with q | q
   ·exact List.mem_append_left _ q
   ·exact List.mem_append_right _ (List.mem_cons_of_mem _ q)
  have hj':(t.put (sq t.mask h N).j).1.place.toList[i]?=some j:=by rw[Array.getElem?_toList]; exact hj
  rw[e] at hj'
  have go:∀ k,hs[k]?=some h'->t.place[k]?=some j->∃ n,(sq t.mask h' n).j=j/\∀ n',n' < n->(sq t.mask h' n').j∈(t.put (sq t.mask h N).j).1.place.toList:=fun k z1 z2=>by
   obtain⟨n,a1,a2⟩:=T.path k h' j z1 z2
   exact⟨n,a1,fun n' hn'=>sub _ (a2 n' hn')⟩
  rcases lN (by rw[Array.length_toList]; exact b1) hj' with ⟨q,z⟩ | ⟨q,z⟩ | ⟨q,z⟩
  ·rcases lN bl hh with ⟨q',z'⟩ | ⟨q',z'⟩ | ⟨q',z'⟩
   ·exact go i z' (by rw[← Array.getElem?_toList]; exact z)
   ·lia
   ·lia
  ·rcases lN bl hh with ⟨q',z'⟩ | ⟨q',z'⟩ | ⟨q',z'⟩
   ·lia
   ·subst z z'
    exact⟨N,rfl,fun n' hn'=>sub _ (h3 n' hn')⟩
   ·lia
  ·rcases lN bl hh with ⟨q',z'⟩ | ⟨q',z'⟩ | ⟨q',z'⟩
   ·lia
   ·lia
   ·exact go (i-1) z' (by rw[← Array.getElem?_toList]; exact z)
theorem TPre.ok(T:TPre t hs)(h:t.tooFull=false):TOk t hs:=by
 refine⟨T.msk,T.len,T.nod,T.ris,T.rng,?_,T.path⟩
 unfold SetTable.tooFull SetTable.fill at h
 rw[T.nod] at h
 simp at h
 simpa using h
theorem TPre.anew(T:TPre t hs)(h:t.tooFull=true)(hb:(hs.length-1)*5 < t.mask*3)(h60:hs.length<=64) :
  SetTable.sizeAbove (SetTable.grown hs.length)<=sizeLine/\∃ t2 ord,t.relaid hs.toArray (SetTable.grown hs.length)=some (t2,ord)/\ord.toList.Perm (List.range hs.length)/\TOk t2 (ord.toList.map fun i=>hs.getD i 0)/\t2.led=t.led:=by
 have full:hs.length*5 ≥ t.mask*3:=by
  unfold SetTable.tooFull SetTable.fill at h
  rw[T.nod,T.len] at h
  simpa using h
 have gm:∃ m,SetTable.sizeAbove (SetTable.grown hs.length)=m+1/\jH m/\hs.length<=m/\hs.length*5 < m*3:=by
  rcases T.msk with e | e | e
  ·have:hs.length=5:=by lia
   rw[this]
   exact⟨31,by decide +kernel,.inr (.inl rfl),by decide,by decide⟩
  ·have:hs.length=19:=by lia
   rw[this]
   exact⟨127,by decide +kernel,.inr (.inr rfl),by decide,by decide⟩
  ·lia
 obtain⟨m,e,hm,hl,few⟩:=gm
 refine⟨by rw[e,sizeLine_eq]; rcases hm with rfl | rfl | rfl <;> lia,?_⟩
 obtain⟨ow,f1,L⟩:=Bb hm hs hl
 unfold SetTable.relaid
 rw[e,Nat.add_sub_cancel]
 unfold SetTable.laid
 rw[f1]
 refine⟨_,_,rfl,?_,?_,rfl⟩
 ·show ((bo m ow).map (·.2)).toArray.toList.Perm _
  simpa using mZ L
 ·have pl:((bo m ow).map (·.1)).toArray.toList=(bo m ow).map (·.1):=by simp
  have ol:((bo m ow).map (·.2)).toArray.toList=(bo m ow).map (·.2):=by simp
  have ln:(bo m ow).length=hs.length:=by have:=(mZ L).length_eq; simpa using this
  refine⟨hm,?_,rfl,?_,fun j hj=>?_,?_,fun i h' j hh hj=>?_⟩
  ·show ((bo m ow).map (·.1)).toArray.size=(((bo m ow).map (·.2)).toArray.toList.map fun i=>hs.getD i 0).length
   simp
  ·show ((bo m ow).map (·.1)).toArray.toList.Pairwise _
   rw[pl]; exact mY m ow
  ·have hj':j∈((bo m ow).map (·.1)).toArray.toList:=hj
   rw[pl] at hj'
   obtain⟨⟨s,i⟩,hm',rfl⟩:=List.mem_map.mp hj'
   have:=(Array.getElem?_eq_some_iff.mp ((da L).mp hm')).1
   rw[L.sz] at this
   show s<=m
   lia
  ·show ((bo m ow).map (·.1)).toArray.size*5 < m*3
   rw[List.size_toArray,List.length_map,ln]; exact few
  ·have hh':(((bo m ow).map (·.2)).map fun i=>hs.getD i 0)[i]?=some h':=by rw[← ol]; exact hh
   have hj':((bo m ow).map (·.1))[i]?=some j:=by rw[← pl,Array.getElem?_toList]; exact hj
   rw[List.map_map,List.getElem?_map] at hh'
   rw[List.getElem?_map] at hj'
   cases q:(bo m ow)[i]? with
   | none=>rw[q] at hj'; cases hj'
   | some p =>
    obtain⟨s,k⟩:=p
    rw[q] at hh' hj'
    have e1:s=j:=Option.some.inj hj'
    have e2:hs.getD k 0=h':=Option.some.inj hh'
    subst e1
    have mem:=(da L).mp (List.mem_of_getElem? q)
    have kl:=L.lt s k mem
    have hk:hs[k]?=some h':=by
     rw[List.getElem?_eq_getElem kl]
     rw[← e2]; simp[List.getD,kl]
    obtain⟨n,a1,a2⟩:=L.path s k h' mem hk
    refine⟨n,a1,fun n' hn'=>?_⟩
    obtain⟨k',z⟩:=a2 n' hn'
    show (sq m h' n').j∈((bo m ow).map (·.1)).toArray.toList
    rw[pl]
    exact List.mem_map.mpr ⟨(_,k'),(da L).mpr z,rfl⟩
end Ht
set_option maxRecDepth 100000
namespace L2
open PySem PySem.Spec PyProof.Rows DL PySem.W
theorem pj:∀ (n:Nat) (d:D),cf n d=true->okD M n d=true
 | 0,d,h=>by cases d <;> first | rfl | cases h
 | n+1,d,h=>by
  cases d with
  | tup ds =>
   have h':ds.all (cf n)=true:=h
   show ds.all (okD M n)=true
   rw[List.all_eq_true] at h' ⊢
   exact fun x hx=>pj n x (h' x hx)
  | str x=>rfl
  | int i=>rfl
  | _=>cases h
theorem gI:∀ (n:Nat) (x y:D),cf n x=true->cf n y=true->(eqD M n x y=true↔x=y):=by
 intro n
 induction n with
 | zero =>
  intro x y h1 h2
  cases x with
  | str a =>
   cases y with
   | str b=>simp[eqD]
   | int b=>simp[eqD]
   | _=>cases h2
  | int a =>
   cases y with
   | str b=>simp[eqD]
   | int b=>simp[eqD]
   | _=>cases h2
  | _=>cases h1
 | succ n ih =>
  have go:∀ xs ys:List D,xs.all (cf n)=true->ys.all (cf n)=true->(eqL (eqD M n) xs ys=true↔xs=ys):=by
   intro xs
   induction xs with
   | nil=>intro ys _ _; cases ys <;> simp[eqL]
   | cons x xs ih2 =>
    intro ys a1 a2
    cases ys with
    | nil=>simp[eqL]
    | cons y ys =>
     rw[List.all_cons,Bool.and_eq_true] at a1 a2
     show (eqD M n x y&&eqL (eqD M n) xs ys)=true↔_
     rw[Bool.and_eq_true,ih x y a1.1 a2.1,ih2 ys a1.2 a2.2,List.cons.injEq]
  intro x y h1 h2
  cases x with
  | str a =>
   cases y with
   | str b=>simp[eqD]
   | int b=>simp[eqD]
   | tup ys=>simp[eqD]
   | _=>cases h2
  | int a =>
   cases y with
   | str b=>simp[eqD]
   | int b=>simp[eqD]
   | tup ys=>simp[eqD]
   | _=>cases h2
  | tup xs =>
   cases y with
   | str b=>simp[eqD]
   | int b=>simp[eqD]
   | tup ys=>rw[D.tup.injEq]; exact go _ _ h1 h2
   | _=>cases h2
  | _=>cases h1
section
variable{X:Cx}{pins:List (Addr×Obj)}{σ:St}{H:Hp}{ρ:List Addr}{M:Mem}
theorem Ei(sm:Sim X.K ρ M H):∀ (n:Nat) (A:Around) (s:Shared) (d:D) (v:V) (u:Value) (E:Value->Shared->Prop) (Q:Int->Shared->Prop),A.units+n < cLine->Inv X pins σ H s->Rep X.K ρ H d v->aJ v u->cf n d=true ->
  (∀ tk,Q (hkD X.w n d) { s with toks:=tk })->wpAny (model X.prog X.w) A (pyHash u) Q E s:=by
 intro n
 induction n with
 | zero =>
  intro A s d v u E Q hu I r rv hk h
  cases r with
  | str x=>obtain⟨t,rfl⟩:=rv; exact wpAny_pyHash_str (h _)
  | int x=>obtain⟨t,rfl⟩:=rv; exact wpAny_pyHash_int (h _)
  | _=>cases hk
 | succ n ih =>
  intro A s d v u E Q hu I r rv hk h
  cases r with
  | str x=>obtain⟨t,rfl⟩:=rv; exact wpAny_pyHash_str (h _)
  | int x=>obtain⟨t,rfl⟩:=rv; exact wpAny_pyHash_int (h _)
  | @tup a vs ds hq rr =>
   cases rv
   obtain⟨its,r2,p,_⟩:=I.tuple hq
   obtain⟨o,ho,hc,nn,hd⟩:=id p
   have hT:s.TypeIs (.ref a) "tuple":=⟨o,ho,hc⟩
   have hks:ds.all (cf n)=true:=hk
   unfold pyHash
   first | unfold pyHashByItsType | skip
   first | refine wpAny_bind (wpAny_cRoomFor_or (.inr (by lia)) ?_) | skip
   refine wpAny_bind (wpAny_specialOf hT F.slot_tuple_hash.lookup ?_)
   refine(show wpAny (model X.prog X.w) _ (if (some (Value.builtin "tuple.__hash__")==some Value.none)=true then _ else _) Q E s from ?_)
   rw[if_neg (by rw[beq_builtin_none]; exact Bool.false_ne_true)]
   refine wpAny_bind (wpAny_specialOf hT F.slot_tuple_hash.lookup ?_)
   refine(show wpAny (model X.prog X.w) _ (callSpecialIfBoundUnlessNone? (.ref a) "__hash__" _ >>= _) Q E s from wpAny_bind (wpAny_callSpecialIfBoundUnlessNone?_slot hT F.slot_tuple_hash (wpAny_call_entry F.slot_tuple_hash hT F.entry_tuple_hash ?_ (F.args_tuple_hash_1 _))))
   refine(show wpAny (model X.prog X.w) _ (Builtin.Tuple.tupleItemsOf (.ref a) >>= _) _ _ s from wpAny_bind (wpAny_tupleItemsOf ho hd (wpAny_bind ?_)))
   rw[← Array.forIn_toList]
   refine wpAny_forIn_list _ (fun aN (b:Array Int) s'=>∃ done left ws,ds=done++left/\Reps X.K ρ H left ws/\ar ws aN/\b.toList=done.map (hkD X.w n)/\∃ tk,s'={ s with toks:=tk }) _ ?_ ?_ _ _ ⟨[],ds,vs,rfl,rr,by simpa using r2,rfl,s.toks,rfl⟩
   ·rintro x aN b s' ⟨done,left,ws,e,h1,h2,hb,tk,rfl⟩
    cases h2 with
    | @cons v0 _ ws' _ q1 q2 =>
     cases h1 with
     | @cons d0 _ left' _ r0 t0 =>
      refine wpAny_bind (ih _ _ d0 v0 x _ _ (by show A.units+1+n < cLine; lia) (I.tok tk) r0 q1 ?_ fun tk'=>?_)
      ·have:=List.all_eq_true.mp hks d0 (by rw[e]; simp)
       exact this
      ·first
        | exact wpAny_pure ⟨done++[d0],left',ws',by rw[e]; simp,t0,q2,by simp[hb],tk',rfl⟩
        | exact wpAny_bind (wpAny_pure (wpAny_pure ⟨done++[d0],left',ws',by rw[e]; simp,t0,q2,by simp[hb],tk',rfl⟩))
   ·rintro b s' ⟨done,left,ws,e,h1,h2,hb,tk,rfl⟩
    cases h2
    cases h1
    rw[List.append_nil] at e
    subst e
    refine(show wpAny (model X.prog X.w) _ (retInt (Builtin.Tuple.tupleHashOf b.toList)) _ _ _ from ?_)
    rw[hb]
    refine wpAny_ret_mkInt ?_
    have key:hkD X.w (n+1) (.tup ds)=reduceHash (Builtin.Tuple.tupleHashOf (ds.map (hkD X.w n))):=rfl
    generalize Builtin.Tuple.tupleHashOf (ds.map (hkD X.w n))=z at key
    refine(show wpAny (model X.prog X.w) _ (if (decide (-(2:Int) ^ 63<=z)&&decide (z < 2 ^ 63))=true then _ else _) Q E _ from ?_)
    unfold reduceHash at key
    by_cases hr:(decide (-(2:Int) ^ 63<=z)&&decide (z < 2 ^ 63))=true
    ·rw[if_pos hr] at key ⊢
     exact wpAny_pure (by rw[← key]; exact h _)
    ·rw[if_neg hr] at key ⊢
     exact wpAny_bind (wpAny_rule (wpAny_pure (by rw[← key]; exact h _)))
  | _=>cases hk
end
end L2
set_option maxRecDepth 100000
namespace L2
open PySem PySem.Spec PyProof.Rows DL PySem.W
section
variable{X:Cx}{pins:List (Addr×Obj)}{σ:St}{H:Hp}{ρ:List Addr}{M:Mem}
theorem hbv_D(sm:Sim X.K ρ M H):∀ (n k:Nat) (A:Around) (s:Shared) (d:D) (v:V) (u:Value) (E:Value->Shared->Prop) (Q:Bool->Shared->Prop),n<=k->Inv X pins σ H s->Rep X.K ρ H d v->aJ v u->cf n d=true->(∀ b,Q b s)->wpAny (model X.prog X.w) A (hashByValue k u) Q E s:=by
 intro n
 induction n with
 | zero =>
  intro k A s d v u E Q hk I r rv kd h
  cases r with
  | str x=>obtain⟨t,rfl⟩:=rv; cases k <;> exact wpAny_pure (h _)
  | int x=>obtain⟨t,rfl⟩:=rv; cases k <;> exact wpAny_pure (h _)
  | _=>cases kd
 | succ n ih =>
  intro k A s d v u E Q hk I r rv kd h
  cases r with
  | str x=>obtain⟨t,rfl⟩:=rv; cases k <;> exact wpAny_pure (h _)
  | int x=>obtain⟨t,rfl⟩:=rv; cases k <;> exact wpAny_pure (h _)
  | @tup a vs ds hq rr =>
   cases rv
   obtain⟨k,rfl⟩:∃ k',k=k'+1:=⟨k-1,by lia⟩
   obtain⟨its,r2,p,_⟩:=I.tuple hq
   obtain⟨o,ho,hc,nn,hd⟩:=id p
   have hT:s.TypeIs (.ref a) "tuple":=⟨o,ho,hc⟩
   have hks:ds.all (cf n)=true:=kd
   unfold hashByValue
   refine wpAny_bind (wpAny_specialOf hT F.slot_tuple_hash.lookup ?_)
   dsimp only
   refine wpAny_bind (wpAny_seqItems ho hd ?_)
   simp only[Option.getD_some]
   rw[← Array.forIn_toList]
   refine wpAny_bind ?_
   refine wpAny_forIn_list _ (fun aN r s'=>s'=s/\r.1=none/\∃ left ws,(∀ x∈left,cf n x=true)/\Reps X.K ρ H left ws/\ar ws aN) _ ?_ ?_ _ _ ⟨rfl,rfl,ds,vs,List.all_eq_true.mp hks,rr,by simpa using r2⟩
   ·rintro x aN r s' ⟨rfl,hr,left,ws,hl,h1,h2⟩
    cases h2 with
    | cons q1 q2 =>
     cases h1 with
     | cons r0 t0 =>
      refine wpAny_bind (ih k _ _ _ _ x _ _ (by lia) I r0 q1 (hl _ List.mem_cons_self) fun b=>?_)
      cases b with
      | false=>exact wpAny_pure (wpAny_pure (h _))
      | true=>exact wpAny_pure ⟨rfl,rfl,_,_,fun x hx=>hl x (List.mem_cons_of_mem _ hx),t0,q2⟩
   ·rintro⟨r1,r2⟩ s' ⟨rfl,hr,_⟩
    simp only at hr
    subst hr
    exact wpAny_pure (h _)
  | _=>cases kd
theorem uM(sm:Sim X.K ρ M H):∀ (n k:Nat) (A:Around) (s:Shared) (d:D) (v:V) (u:Value) (E:Value->Shared->Prop) (Q:Bool->Shared->Prop),n<=k->Inv X pins σ H s->Rep X.K ρ H d v->aJ v u->cf n d=true->Q true s->wpAny (model X.prog X.w) A (eqIsQuiet k u) Q E s:=by
 intro n
 induction n with
 | zero =>
  intro k A s d v u E Q hk I r rv kd h
  cases r with
  | str x=>obtain⟨t,rfl⟩:=rv; rw[eqIsQuiet_byValue k (v:=.str x t) rfl]; exact wpAny_pure h
  | int x=>obtain⟨t,rfl⟩:=rv; rw[eqIsQuiet_byValue k (v:=.int x t) rfl]; exact wpAny_pure h
  | _=>cases kd
 | succ n ih =>
  intro k A s d v u E Q hk I r rv kd h
  cases r with
  | str x=>obtain⟨t,rfl⟩:=rv; rw[eqIsQuiet_byValue k (v:=.str x t) rfl]; exact wpAny_pure h
  | int x=>obtain⟨t,rfl⟩:=rv; rw[eqIsQuiet_byValue k (v:=.int x t) rfl]; exact wpAny_pure h
  | @tup a vs ds hq rr =>
   cases rv
   obtain⟨k,rfl⟩:∃ k',k=k'+1:=⟨k-1,by lia⟩
   obtain⟨its,r2,p,_⟩:=I.tuple hq
   obtain⟨o,ho,hc,nn,hd⟩:=id p
   have hT:s.TypeIs (.ref a) "tuple":=⟨o,ho,hc⟩
   have hks:ds.all (cf n)=true:=kd
   unfold eqIsQuiet
   refine wpAny_bind (wpAny_specialOf hT F.slot_tuple_eq.lookup ?_)
   refine(show wpAny (model X.prog X.w) A (isInstance (.ref a) (.type "tuple") >>= _) _ _ s from wpAny_bind (wpAny_isInstance hT isSubtype_tuple_tuple ?_))
   simp only[Bool.not_true,Bool.false_eq_true,if_false]
   refine wpAny_bind (wpAny_seqItems ho hd ?_)
   simp only[Option.getD_some]
   refine wpAny_bind ?_
   rw[← Array.forIn_toList]
   refine wpAny_forIn_list _ (fun aN r s'=>s'=s/\r.1=none/\∃ left ws,(∀ x∈left,cf n x=true)/\Reps X.K ρ H left ws/\ar ws aN) _ ?_ ?_ _ _ ⟨rfl,rfl,ds,vs,List.all_eq_true.mp hks,rr,by simpa using r2⟩
   ·rintro x aN r s' ⟨rfl,hr,left,ws,hl,h1,h2⟩
    cases h2 with
    | cons q1 q2 =>
     cases h1 with
     | cons r0 t0 =>
      refine wpAny_bind (ih k _ _ _ _ x _ _ (by lia) I r0 q1 (hl _ List.mem_cons_self) ?_)
      simp only[Bool.not_true,Bool.false_eq_true,if_false]
      exact wpAny_pure ⟨rfl,rfl,_,_,fun x hx=>hl x (List.mem_cons_of_mem _ hx),t0,q2⟩
   ·rintro⟨r1,r2⟩ s' ⟨rfl,hr,_⟩
    simp only at hr
    subst hr
    exact wpAny_pure h
  | _=>cases kd
theorem EU(sm:Sim X.K ρ M H):∀ (n k:Nat) (A:Around) (s:Shared) (d:D) (v:V) (u:Value) (E:Value->Shared->Prop) (Q:Bool->Shared->Prop),n<=k->Inv X pins σ H s->Rep X.K ρ H d v->aJ v u->cf n d=true->Q false s->wpAny (model X.prog X.w) A (ofAClassStatement k u) Q E s:=by
 intro n
 induction n with
 | zero =>
  intro k A s d v u E Q hk I r rv kd h
  cases r with
  | str x=>obtain⟨t,rfl⟩:=rv; cases k <;> exact wpAny_pure h
  | int x=>obtain⟨t,rfl⟩:=rv; cases k <;> exact wpAny_pure h
  | _=>cases kd
 | succ n ih =>
  intro k A s d v u E Q hk I r rv kd h
  cases r with
  | str x=>obtain⟨t,rfl⟩:=rv; cases k <;> exact wpAny_pure h
  | int x=>obtain⟨t,rfl⟩:=rv; cases k <;> exact wpAny_pure h
  | @tup a vs ds hq rr =>
   cases rv
   obtain⟨k,rfl⟩:∃ k',k=k'+1:=⟨k-1,by lia⟩
   obtain⟨its,r2,p,_⟩:=I.tuple hq
   obtain⟨o,ho,hc,nn,hd⟩:=id p
   have hT:s.TypeIs (.ref a) "tuple":=⟨o,ho,hc⟩
   have hks:ds.all (cf n)=true:=kd
   unfold ofAClassStatement
   refine wpAny_bind (wpAny_typeOf hT ?_)
   dsimp only
   simp only[beq_self_eq_true,if_true]
   refine wpAny_bind (wpAny_pure ?_)
   simp only[Bool.not_true,Bool.false_eq_true,if_false]
   refine wpAny_bind (wpAny_seqItems ho hd ?_)
   dsimp only
   refine wpAny_bind ?_
   rw[← Array.forIn_toList]
   refine wpAny_forIn_list _ (fun aN r s'=>s'=s/\r.1=none/\∃ left ws,(∀ x∈left,cf n x=true)/\Reps X.K ρ H left ws/\ar ws aN) _ ?_ ?_ _ _ ⟨rfl,rfl,ds,vs,List.all_eq_true.mp hks,rr,by simpa using r2⟩
   ·rintro x aN r s' ⟨rfl,hr,left,ws,hl,h1,h2⟩
    cases h2 with
    | cons q1 q2 =>
     cases h1 with
     | cons r0 t0 =>
      refine wpAny_bind (ih k _ _ _ _ x _ _ (by lia) I r0 q1 (hl _ List.mem_cons_self) ?_)
      simp only[Bool.false_eq_true,if_false]
      exact wpAny_pure ⟨rfl,rfl,_,_,fun x hx=>hl x (List.mem_cons_of_mem _ hx),t0,q2⟩
   ·rintro⟨r1,r2⟩ s' ⟨rfl,hr,_⟩
    simp only at hr
    subst hr
    exact wpAny_pure h
  | _=>cases kd
end
end L2
set_option maxRecDepth 100000
namespace L2
open PySem PySem.Spec PyProof.Rows DL PySem.W
def eX:D->Bool
 | .tup _=>true
 | _=>false
def Ent(X:Cx)(ρ:List Addr)(H:Hp)(n:Nat)(d:D)(e:Int×Value):Prop:=(∃ v,Rep X.K ρ H d v/\aJ v e.2)/\e.1=hkD X.w n d/\cf n d=true/\eX d=true
structure KSet(X:Cx)(ρ:List Addr)(H:Hp)(h:Heap)(a:Addr)(n:Nat)(ds:List D)(o:Obj)(es:Array (Int×Value))(ep:Nat)(t:SetTable):Prop where
 ob:h.get? a=some o
 ex:o.ExactSet
 dt:o.data=.set es ep t
 en:Paired (Ent X ρ H n) ds es.toList
 nd:ds.Nodup
 tk:Ht.TOk t (es.toList.map (·.1))
 ld:t.led = !X.w.params.followText "set-order"
theorem cF{α β:Type}{R:α->β->Prop}:∀ {xs:List α}{ys:List β}{i:Nat}{y:β},Paired R xs ys->ys[i]?=some y->∃ x,xs[i]?=some x/\R x y
 | _,_,i,y,.nil,e=>by simp at e
 | _,_,0,y,.cons r _,e=>by simp at e; subst e; exact⟨_,rfl,r⟩
 | _,_,i+1,y,.cons _ t,e=>by
  obtain⟨x,h1,h2⟩:=cF (i:=i) t (by simpa using e)
  exact⟨x,by simpa using h1,h2⟩
theorem fU{α β:Type}{R:α->β->Prop}:∀ {xs:List α}{ys:List β}{i:Nat}{x:α},Paired R xs ys->xs[i]?=some x->∃ y,ys[i]?=some y/\R x y
 | _,_,i,y,.nil,e=>by simp at e
 | _,_,0,y,.cons r _,e=>by simp at e; subst e; exact⟨_,rfl,r⟩
 | _,_,i+1,y,.cons _ t,e=>by
  obtain⟨x,h1,h2⟩:=fU (i:=i) t (by simpa using e)
  exact⟨x,by simpa using h1,h2⟩
theorem KSet.fits(S:KSet X ρ H h a n ds o es ep t):t.fits es.size=true:=by
 have h1:=S.tk.len
 have h2:=S.tk.few
 rw[List.length_map,Array.length_toList] at h1
 unfold SetTable.fits
 have h3:t.fill=t.place.size:=by unfold SetTable.fill; rw[S.tk.nod]; rfl
 rw[h3]
 simp only[Bool.and_eq_true,beq_iff_eq,decide_eq_true_eq]
 lia
section
variable{X:Cx}{pins:List (Addr×Obj)}{σ:St}{H:Hp}{ρ:List Addr}{M:Mem}{A:Around}{E:Value->Shared->Prop}{s:Shared}{a:Addr}{n:Nat}{ds:List D}{o:Obj}{es:Array (Int×Value)}{ep:Nat}{t:SetTable}
theorem wZ(sm:Sim X.K ρ M H)(I:Inv X pins σ H s)(hn:n<=8)(r:Rep X.K ρ H d v)(rv:aJ v u)(kd:cf n d=true)(h:Q false s) :
  ∀ (l:List Value),(∀ y∈l,∃ d' v',Rep X.K ρ H d' v'/\aJ v' y/\cf n d'=true)->wpAny (model X.prog X.w) A (searchCouldBeSeen u l) Q E s:=by
 intro l hl
 unfold searchCouldBeSeen
 refine wpAny_bind ?_
 refine wpAny_forIn_list _ (fun aN r s'=>s'=s/\r.1=none/\∀ y∈aN,∃ d' v',Rep X.K ρ H d' v'/\aJ v' y/\cf n d'=true) _ ?_ ?_ _ _ ⟨rfl,rfl,hl⟩
 ·rintro y aN r' s' ⟨rfl,hr,hy⟩
  have tl:∀ z∈aN,∃ d' v',Rep X.K ρ H d' v'/\aJ v' z/\cf n d'=true:=fun z hz=>hy z (List.mem_cons_of_mem _ hz)
  obtain⟨d',v',r1,r2,kd'⟩:=hy y List.mem_cons_self
  dsimp only
  refine wpAny_ite_split (fun _=>wpAny_pure ⟨rfl,rfl,tl⟩) fun _=>?_
  refine wpAny_bind (uM sm n 8 A _ d v u _ _ hn I r rv kd ?_)
  simp only[Bool.not_true,Bool.false_eq_true,if_false]
  refine wpAny_bind (uM sm n 8 A _ d' v' y _ _ hn I r1 r2 kd' ?_)
  simp only[Bool.not_true,Bool.false_eq_true,if_false]
  refine wpAny_bind (EU sm n 8 A _ d v u _ _ hn I r rv kd ?_)
  simp only[Bool.false_eq_true,if_false]
  refine wpAny_bind (EU sm n 8 A _ d' v' y _ _ hn I r1 r2 kd' ?_)
  simp only[Bool.false_eq_true,if_false]
  exact wpAny_pure ⟨rfl,rfl,tl⟩
 ·rintro⟨r1,r2⟩ s' ⟨rfl,hr,_⟩
  simp only at hr
  subst hr
  exact wpAny_pure h
theorem xo(sm:Sim X.K ρ M H)(I:Inv X pins σ H s)(hn:n<=8)(hu:A.units+n < cLine)(S:KSet X ρ H s.heap a n ds o es ep t)(r:Rep X.K ρ H d v)(rv:aJ v u)(kd:cf n d=true)
  (hthere:d∈ds->Q (.there none) s) (hN1:N < 10*(t.mask+15)) (hN2:(Ht.sq t.mask (hkD X.w n d) N).j∉t.place.toList) (hN3:∀ k,k < N->(Ht.sq t.mask (hkD X.w n d) k).j∈t.place.toList)
  (hfree:d∉ds->Q (.free (Ht.sq t.mask (hkD X.w n d) N).j false) s) :
  ∀ (fuel m:Nat) (stand:Option SetTable.Probe),m<=N->N < m+fuel->stand.getD (t.probeStart (hkD X.w n d))=Ht.sq t.mask (hkD X.w n d) m->(∀ k i:Nat,k < m->t.place[i]?=some (Ht.sq t.mask (hkD X.w n d) k).j->ds[i]?≠some d) ->
   wpAny (model X.prog X.w) A (setSearchFrom a u (hkD X.w n d) true fuel stand) Q E s:=by
 intro fuel
 induction fuel with
 | zero=>intro m stand h1 h2; lia
 | succ fuel ih =>
  intro m stand h1 h2 hs hb
  unfold setSearchFrom
  refine wpAny_bind (wpAny_setState_of S.ob S.dt S.fits ?_)
  dsimp only
  have gw:t.gaveWay=false:=by
   unfold SetTable.gaveWay
   rcases S.tk.msk with e | e | e <;> rw[e] <;> rfl
  rw[gw]
  simp only[Bool.false_eq_true,if_false]
  rw[hs]
  rcases Ht.go_spec S.tk.ris S.tk.nod (fun i=>(es[i]?.map (·.1)).getD 0) (hkD X.w n d) (10*SetTable.turns t.mask) m N h1 (by unfold SetTable.turns; lia) hN2 (fun k _ hk=>hN3 k hk) (Ht.sq_dummy _ _) with ⟨z1,z2⟩ | ⟨m',i,a1,a2,a3,a4,a5,a6⟩
  ·generalize hpr:SetTable.probe t _ (hkD X.w n d) (Ht.sq t.mask (hkD X.w n d) m)=pr
   obtain rfl:pr=_:=hpr.symm.trans z2
   dsimp only
   refine wpAny_pure (hfree fun hd=>?_)
   obtain⟨i,hi⟩:=List.getElem?_of_mem hd
   obtain⟨e,he,_,eh,_⟩:=fU S.en hi
   have he':es[i]?=some e:=by rw[← Array.getElem?_toList]; exact he
   have hh:(es.toList.map (·.1))[i]?=some (hkD X.w n d):=by rw[List.getElem?_map,he]; exact congrArg some eh
   have hl:i < t.place.size:=by rw[S.tk.len]; exact(List.getElem?_eq_some_iff.mp hh).1
   obtain⟨ni,b1,b2⟩:=S.tk.path i _ t.place[i] hh (Array.getElem?_eq_getElem hl)
   have hlt:ni < N:=by
    rcases Nat.lt_trichotomy ni N with q | q | q
    ·exact q
    ·subst q
     exact absurd (show (Ht.sq t.mask (hkD X.w n d) ni).j∈t.place.toList by rw[b1]; simp) hN2
    ·exact absurd (b2 N q) hN2
   have hp:t.place[i]?=some (Ht.sq t.mask (hkD X.w n d) ni).j:=by rw[b1]; exact Array.getElem?_eq_getElem hl
   rcases Nat.lt_or_ge ni m with q | q
   ·exact hb ni i q hp hi
   ·refine z1 ni i q hlt hp ?_
    rw[he']
    exact eh
  ·generalize hpr:SetTable.probe t _ (hkD X.w n d) (Ht.sq t.mask (hkD X.w n d) m)=pr
   obtain rfl:pr=_:=hpr.symm.trans a6
   dsimp only
   have hil:i < es.size:=by
    have:=(Array.getElem?_eq_some_iff.mp a3).1
    rw[S.tk.len,List.length_map,Array.length_toList] at this
    exact this
   have hei:es[i]?=some es[i]:=Array.getElem?_eq_getElem hil
   obtain⟨d0,hd0,⟨v0,r0,rv0⟩,eh0,kd0,it0⟩:=cF S.en (i:=i) (y:=es[i]) (by rw[Array.getElem?_toList]; exact hei)
   have seen:∀ (f:Bool->Sem SetFound),wpAny (model X.prog X.w) A (f false) Q E s->wpAny (model X.prog X.w) A (searchCouldBeSeen u ((es.filter (·.1==hkD X.w n d)).toList.map (·.2)) >>= f) Q E s:=fun f hf=>by
    refine wpAny_bind (wZ sm I hn r rv kd hf _ fun y hy=>?_)
    obtain⟨e,he,rfl⟩:=List.mem_map.mp hy
    have he2:e∈es.toList:=by
     have:e∈es.filter (·.1==hkD X.w n d):=by simpa using he
     simpa using (Array.mem_filter.mp this).1
    obtain⟨j,hj⟩:=List.getElem?_of_mem he2
    obtain⟨d1,_,⟨v1,r1,rv1⟩,_,kd1,_⟩:=cF S.en hj
    exact⟨d1,v1,r1,rv1,kd1⟩
   have hbv:∃ b,es[i].2=Value.ref b:=by
    cases r0 with
    | tup _ _=>exact⟨_,rv0⟩
    | _=>cases it0
   obtain⟨b,hbv⟩:=hbv
   have heq:SeqAt.EqAt A s es[i].2 u (eqD M n d0 d):=(jh I sm n A d0 d v0 v es[i].2 u hu r0 rv0 r rv (pj n d0 kd0) (pj n d kd)).1
   refine wpAny_ite_split (fun _=>seen _ ?_) fun _=>?_
   ·simp only[Bool.false_eq_true,if_false]
    rw[hei]
    dsimp only
    refine wpAny_bind (wpAny_holding (heq _ _ _ _ (wpAny_bind (wpAny_setState_of S.ob S.dt S.fits ?_))))
    dsimp only
    by_cases hq:eqD M n d0 d=true
    ·rw[hq]
     simp only[Bool.and_self,if_true]
     have:d0=d:=(gI n d0 d kd0 kd).mp hq
     subst this
     exact wpAny_pure (hthere (List.mem_of_getElem? hd0))
    ·rw[Bool.eq_false_iff.mpr hq]
     simp only[Bool.and_false,Bool.false_eq_true,if_false]
     have sm':t.sameMemory t.moves t.mask=some true:=by unfold SetTable.sameMemory; simp
     rw[sm']
     dsimp only
     simp only[if_true]
     rw[Ht.slot_live S.tk.ris a3]
     dsimp only
     rw[hei]
     have sam:wpAny (model X.prog X.w) A (isSame es[i].2 es[i].2) (fun b s'=>b=true/\s'=s) E s:=by
      unfold isSame
      rw[hbv]
      simp only[beq_self_eq_true,if_true]
      exact wpAny_pure (And.intro rfl rfl)
     refine wpAny_bind (wpAny_mono sam (fun b s' ⟨e1,e2⟩=>?_) fun _ _ z=>z)
     subst e1 e2
     refine wpAny_bind (wpAny_pure ?_)
     simp only[if_true]
     refine ih (m'+1) _ (by lia) (by lia) rfl fun k i' hk hp hds=>?_
     rcases Nat.lt_or_ge k m with q | q
     ·exact hb k i' q hp hds
     ·rcases Nat.lt_or_ge k m' with q' | q'
      ·refine a5 k i' q q' hp ?_
       obtain⟨e,he,_,eh,_⟩:=fU S.en hds
       have he':es[i']?=some e:=by rw[← Array.getElem?_toList]; exact he
       rw[he']; exact eh
      ·have:k=m':=by lia
       subst this
       have:i'=i:=by rw[← Ht.below_at S.tk.ris hp,Ht.below_at S.tk.ris a3]
       subst this
       rw[hd0] at hds
       cases hds
       exact hq ((gI n d d kd kd).mpr rfl)
   ·rw[hei]
    dsimp only
    refine wpAny_bind (wpAny_holding (heq _ _ _ _ (wpAny_bind (wpAny_setState_of S.ob S.dt S.fits ?_))))
    dsimp only
    by_cases hq:eqD M n d0 d=true
    ·rw[hq]
     simp only[Bool.and_self,if_true]
     have:d0=d:=(gI n d0 d kd0 kd).mp hq
     subst this
     exact wpAny_pure (hthere (List.mem_of_getElem? hd0))
    ·rw[Bool.eq_false_iff.mpr hq]
     simp only[Bool.and_false,Bool.false_eq_true,if_false]
     have sm':t.sameMemory t.moves t.mask=some true:=by unfold SetTable.sameMemory; simp
     rw[sm']
     dsimp only
     simp only[if_true]
     rw[Ht.slot_live S.tk.ris a3]
     dsimp only
     rw[hei]
     have sam:wpAny (model X.prog X.w) A (isSame es[i].2 es[i].2) (fun b s'=>b=true/\s'=s) E s:=by
      unfold isSame
      rw[hbv]
      simp only[beq_self_eq_true,if_true]
      exact wpAny_pure (And.intro rfl rfl)
     refine wpAny_bind (wpAny_mono sam (fun b s' ⟨e1,e2⟩=>?_) fun _ _ z=>z)
     subst e1 e2
     refine wpAny_bind (wpAny_pure ?_)
     simp only[if_true]
     refine ih (m'+1) _ (by lia) (by lia) rfl fun k i' hk hp hds=>?_
     rcases Nat.lt_or_ge k m with q | q
     ·exact hb k i' q hp hds
     ·rcases Nat.lt_or_ge k m' with q' | q'
      ·refine a5 k i' q q' hp ?_
       obtain⟨e,he,_,eh,_⟩:=fU S.en hds
       have he':es[i']?=some e:=by rw[← Array.getElem?_toList]; exact he
       rw[he']; exact eh
      ·have:k=m':=by lia
       subst this
       have:i'=i:=by rw[← Ht.below_at S.tk.ris hp,Ht.below_at S.tk.ris a3]
       subst this
       rw[hd0] at hds
       cases hds
       exact hq ((gI n d d kd kd).mpr rfl)
end
end L2
set_option maxRecDepth 100000
namespace L2
open PySem PySem.Spec PyProof.Rows DL PySem.W
theorem Paired.ins{α β:Type}{R:α->β->Prop}{x:α}{y:β}(r:R x y):∀ {xs:List α}{ys:List β} (p:Nat),Paired R xs ys->Paired R (xs.take p++x::xs.drop p) (ys.take p++y::ys.drop p)
 | _,_,0,h=>by simpa using .cons r h
 | _,_,p+1,.nil=>.cons r .nil
 | _,_,p+1,.cons h t=>.cons h (Paired.ins r p t)
theorem Paired.pick{α β:Type}{R:α->β->Prop}:∀ {xs:List α}{ys:List β} (is:List Nat),Paired R xs ys->(∀ i∈is,i < xs.length)->Paired R (is.filterMap (xs[·]?)) (is.filterMap (ys[·]?))
 | _,_,[],_,_=>.nil
 | xs,ys,i::is,h,hi=>by
  have hl:=hi i List.mem_cons_self
  have e:xs[i]?=some xs[i]:=List.getElem?_eq_getElem hl
  obtain⟨y,hy,r⟩:=fU h e
  rw[List.filterMap_cons,List.filterMap_cons,e,hy]
  exact .cons r (Paired.pick is h fun j hj=>hi j (List.mem_cons_of_mem _ hj))
theorem ku{α:Type}{l:List α}{is:List Nat}(h:is.Perm (List.range l.length)):(is.filterMap (l[·]?)).Perm l:=by
 have:=h.filterMap (l[·]?)
 rwa [List.filterMap_getElem?_range_length] at this
section
variable{X:Cx}{pins:List (Addr×Obj)}{σ:St}{H:Hp}{ρ:List Addr}{M:Mem}{A:Around}{E:Value->Shared->Prop}{s:Shared}{a:Addr}{n:Nat}{ds:List D}{o:Obj}{es:Array (Int×Value)}{ep:Nat}{t:SetTable}
def KS(X:Cx)(ρ:List Addr)(H:Hp)(h:Heap)(a:Addr)(n:Nat)(ds:List D):Prop:=∃ o es ep t,KSet X ρ H h a n ds o es ep t
set_option maxHeartbeats 1000000 in
theorem add_D(sm:Sim X.K ρ M H)(I:Inv X pins σ H s)(hn:n<=8)(hu:A.units+n+1 < cLine)(S:KS X ρ H s.heap a n ds)(h60:ds.length+1<=64)(r:Rep X.K ρ H d v)(rv:aJ v u)(kd:cf n d=true)(it:eX d=true)
  (h:∀ b h' tk ds',(∀ c u,c≠a->s.heap.get? c=some u->h'.get? c=some u)->KS X ρ H h' a n ds'->(∀ x,x∈ds'↔x∈ds\/x=d)->ds'.length<=ds.length+1->Q b { s with heap:=h',toks:=tk }) :
  wpAny (model X.prog X.w) A (setAdd a u) Q E s:=by
 obtain⟨o,es,ep,t,S⟩:=S
 obtain⟨ra,rfl⟩:∃ ra,u=Value.ref ra:=by
  cases r with
  | tup _ _=>exact⟨_,rv⟩
  | _=>cases it
 unfold setAdd
 refine wpAny_holding (wpAny_bind (Ei sm n A s d v _ _ _ (by lia) I r rv kd fun tk=>?_))
 unfold setAddHashed setAddHashedIn
 refine wpAny_holding (wpAny_bind (wpAny_setState_of (s:={ s with toks:=tk }) S.ob S.dt S.fits ?_))
 dsimp only
 have bs:byScan (.ref ra) es=false:=rfl
 rw[bs]
 simp only[Bool.false_eq_true,if_false]
 obtain⟨N,hN1,hN2,hN3⟩:=S.tk.empty (hkD X.w n d)
 have I1:Inv X pins σ H { s with toks:=tk }:=I.tok tk
 unfold setSearch
 refine wpAny_bind (xo (s:={ s with toks:=tk }) sm I1 hn (by lia) S r rv kd (fun hd=>?_) hN1 hN2 hN3 (fun hd=>?_) 100000 0 none (Nat.zero_le _) ?_ rfl fun k i hk=>absurd hk (Nat.not_lt_zero _))
 ·exact wpAny_pure (h _ s.heap tk ds (fun _ _ _ e=>e) ⟨o,es,ep,t,S⟩ (fun x=>⟨.inl,fun z=>z.elim id fun e=>e ▸ hd⟩) (Nat.le_succ _))
 ·dsimp only
  refine wpAny_bind (wpAny_setState_of (s:={ s with toks:=tk }) S.ob S.dt S.fits ?_)
  dsimp only
  have len:=S.tk.len
  rw[List.length_map,Array.length_toList] at len
  have dl:ds.length=es.size:=by have:=Paired.length S.en; simpa using this
  have fin:∀ pl:Bool,wpAny (model X.prog X.w) A (do
    storeSet a (SetTable.insertAt es (t.put (Ht.sq t.mask (hkD X.w n d) N).j).2 (hkD X.w n d,Value.ref ra)) { (t.put (Ht.sq t.mask (hkD X.w n d) N).j).1 with plain:=pl }
    if (!false&&({ (t.put (Ht.sq t.mask (hkD X.w n d) N).j).1 with plain:=pl }:SetTable).tooFull)=true then do
      setRelay a (SetTable.grown (es.size+1))
      pure true
     else pure true) Q E { s with toks:=tk }:=fun pl=>by
   obtain⟨pb,T1⟩:=Ht.put_pre S.tk hN2 hN3 pl
   have ld1:({ (t.put (Ht.sq t.mask (hkD X.w n d) N).j).1 with plain:=pl }:SetTable).led=t.led:=rfl
   have mk1:({ (t.put (Ht.sq t.mask (hkD X.w n d) N).j).1 with plain:=pl }:SetTable).mask=t.mask:=rfl
   generalize ({ (t.put (Ht.sq t.mask (hkD X.w n d) N).j).1 with plain:=pl }:SetTable)=t1 at T1 ld1 mk1
   generalize (t.put (Ht.sq t.mask (hkD X.w n d) N).j).2=p at pb T1
   rw[List.length_map,Array.length_toList] at pb
   have e1:(SetTable.insertAt es p (hkD X.w n d,Value.ref ra)).toList=es.toList.take p++(hkD X.w n d,Value.ref ra)::es.toList.drop p:=SetTable.toList_insertAt ..
   generalize SetTable.insertAt es p (hkD X.w n d,Value.ref ra)=es1 at e1
   have hs1:es1.toList.map (·.1)=(es.toList.map (·.1)).take p++hkD X.w n d::(es.toList.map (·.1)).drop p:=by rw[e1,List.map_append,List.map_cons,List.map_take,List.map_drop]
   rw[← hs1] at T1
   have sz1:es1.size=es.size+1:=by
    have:=congrArg List.length e1
    rw[Array.length_toList,List.length_append,List.length_cons,List.length_take,List.length_drop,Array.length_toList] at this
    lia
   have en1:Paired (Ent X ρ H n) (ds.take p++d::ds.drop p) es1.toList:=by
    rw[e1]
    exact Paired.ins ⟨⟨v,r,rv⟩,rfl,kd,it⟩ p S.en
   have pm:(ds.take p++d::ds.drop p).Perm (d::ds):=by
    refine List.perm_middle.trans (List.Perm.cons d ?_)
    rw[List.take_append_drop]
   have nd1:(ds.take p++d::ds.drop p).Nodup:=pm.nodup_iff.mpr (List.nodup_cons.mpr ⟨hd,S.nd⟩)
   have fit1:t1.fits es1.size=true:=by
    have l1:=T1.len
    rw[List.length_map,Array.length_toList] at l1
    have h3:t1.fill=t1.place.size:=by unfold SetTable.fill; rw[T1.nod]; rfl
    have fw:=S.tk.few
    unfold SetTable.fits
    rw[h3]
    simp only[Bool.and_eq_true,beq_iff_eq,decide_eq_true_eq]
    rw[len] at fw
    rcases S.tk.msk with e | e | e <;> rw[mk1,e] <;> rw[e] at fw <;> lia
   have zz:es1.size<=sizeLine:=by rw[sizeLine_eq]; lia
   refine wpAny_bind (wpAny_storeSet_of (s:={ s with toks:=tk }) S.ob S.dt ?_ zz)
   have ob1:(s.heap.update a (Obj.putSet es1 t1)).get? a=some { o with data:=.set es1 (ep+1) t1 }:=by
    have q:=Heap.get?_update_self (Obj.putSet es1 t1) S.ob (by rw[putSet_of es1 t1 S.dt]; rfl)
    rwa [putSet_of es1 t1 S.dt] at q
   have oth:∀ c u,c≠a->s.heap.get? c=some u->(s.heap.update a (Obj.putSet es1 t1)).get? c=some u:=fun c u hc e=>(Heap.get?_update_other _ _ (Ne.symm hc)).trans e
   by_cases tf:t1.tooFull=true
   ·rw[tf]
    simp only[Bool.not_false,Bool.and_self,if_true]
    have hbd:((es1.toList.map (·.1)).length-1)*5 < t1.mask*3:=by
     have fw:=S.tk.few
     rw[len] at fw
     rw[List.length_map,Array.length_toList,sz1,mk1]
     simpa using fw
    obtain⟨zl,t2,ord,g1,g2,T2,ld2⟩:=T1.anew tf hbd (by rw[List.length_map,Array.length_toList]; lia)
    rw[List.length_map,Array.length_toList] at g2 zl
    have eg:SetTable.grown (es.size+1)=SetTable.grown (es1.toList.map (·.1)).length:=by rw[List.length_map,Array.length_toList,sz1]
    unfold setRelay
    refine wpAny_bind (wpAny_bind (wpAny_setState_of (s:={ s with heap:=_,toks:=tk }) ob1 rfl fit1 ?_))
    dsimp only
    rw[eg]
    have nz:¬ SetTable.sizeAbove (SetTable.grown (es1.toList.map (·.1)).length) > sizeLine:=by
     rw[List.length_map,Array.length_toList]; lia
    simp only[nz,if_false]
    have ea:es1.map (·.1)=(es1.toList.map (·.1)).toArray:=by apply Array.ext'; simp
    rw[ea,g1]
    have es2:(ord.filterMap (es1[·]?)).toList=ord.toList.filterMap (es1.toList[·]?):=by
     rw[Array.toList_filterMap]
     congr 1
     funext i
     rw[Array.getElem?_toList]
    have sz2:(ord.filterMap (es1[·]?)).size=es1.size:=by
     have:=(ku (l:=es1.toList) (is:=ord.toList) (by rw[Array.length_toList]; exact g2)).length_eq
     rw[← es2,Array.length_toList,Array.length_toList] at this
     exact this
    refine wpAny_bind (show wpAny (model X.prog X.w) A (if ((ord.filterMap (es1[·]?)).size != es1.size)=true then _ else pure (ord.filterMap (es1[·]?),t2)) _ _ _ from ?_)
    rw[if_neg (by rw[sz2]; simp)]
    refine wpAny_pure ?_
    generalize ord.filterMap (es1[·]?)=es2' at es2 sz2
    have pm2:(ord.toList.filterMap ((ds.take p++d::ds.drop p)[·]?)).Perm (ds.take p++d::ds.drop p):=ku (by
     have:(ds.take p++d::ds.drop p).length=es1.size:=by rw[pm.length_eq,List.length_cons,dl,sz1]
     rw[this]; exact g2)
    refine wpAny_storeSet_of (s:={ s with heap:=_,toks:=tk }) ob1 rfl ?_ (by rw[sz2]; exact zz)
    have ob2:((s.heap.update a (Obj.putSet es1 t1)).update a (Obj.putSet es2' t2)).get? a=some { o with data:=.set es2' (ep+1+1) t2 }:=by
     have q:=Heap.get?_update_self (Obj.putSet es2' t2) ob1 (by rw[putSet_of es2' t2 (es:=es1) (ep:=ep+1) (t:=t1) rfl]; rfl)
     rwa [putSet_of es2' t2 (es:=es1) (ep:=ep+1) (t:=t1) rfl] at q
    refine wpAny_pure (h _ _ tk (ord.toList.filterMap ((ds.take p++d::ds.drop p)[·]?)) (fun c u hc e=>(Heap.get?_update_other _ _ (Ne.symm hc)).trans (oth c u hc e)) ⟨_,es2',_,t2,ob2,S.ex,rfl,?_,pm2.nodup_iff.mpr nd1,?_,ld2.trans (ld1.trans S.ld)⟩ (fun x=>?_) ?_)
    ·rw[es2]
     refine Paired.pick _ en1 fun i hi=>?_
     have:=g2.mem_iff.mp hi
     rw[List.mem_range] at this
     rw[pm.length_eq,List.length_cons,dl,← sz1]
     exact this
    ·have e2:es2'.toList.map (·.1)=ord.toList.map fun i=>(es1.toList.map (·.1)).getD i 0:=by
      rw[es2]
      have:∀ (is:List Nat),(∀ i∈is,i < es1.toList.length)->(is.filterMap (es1.toList[·]?)).map (·.1)=is.map fun i=>(es1.toList.map (·.1)).getD i 0:=by
       intro is
       induction is with
       | nil=>intro _; rfl
       | cons i is ih =>
        intro hi
        have hl:=hi i List.mem_cons_self
        rw[List.filterMap_cons,List.getElem?_eq_getElem hl,List.map_cons,List.map_cons,ih fun j hj=>hi j (List.mem_cons_of_mem _ hj)]
        congr 1
        rw[List.getD_eq_getElem?_getD,List.getElem?_map,List.getElem?_eq_getElem hl]
        rfl
      refine this _ fun i hi=>?_
      have:=g2.mem_iff.mp hi
      rw[List.mem_range] at this
      rw[Array.length_toList]; exact this
     rw[e2]
     exact T2
    ·rw[pm2.mem_iff,pm.mem_iff,List.mem_cons]
     exact⟨fun z=>z.symm,fun z=>z.symm⟩
    ·rw[pm2.length_eq,pm.length_eq]; exact Nat.le_refl _
   ·rw[Bool.eq_false_iff.mpr tf]
    simp only[Bool.and_false,Bool.false_eq_true,if_false]
    refine wpAny_pure (h _ _ tk _ oth ⟨_,es1,_,t1,ob1,S.ex,rfl,en1,nd1,T1.ok (Bool.eq_false_iff.mpr tf),ld1.trans S.ld⟩ (fun x=>?_) ?_)
    ·rw[pm.mem_iff,List.mem_cons]
     exact⟨fun z=>z.symm,fun z=>z.symm⟩
    ·rw[pm.length_eq]; exact Nat.le_refl _
  refine wpAny_ite_split (fun _=>wpAny_bind (hbv_D sm n 8 A _ d v _ _ _ hn I1 r rv kd fun b=>?_)) fun _=>?_
  ·cases b with
   | true=>exact fin (t.put (Ht.sq t.mask (hkD X.w n d) N).j).1.plain
   | false=>exact fin false
  ·exact fin (t.put (Ht.sq t.mask (hkD X.w n d) N).j).1.plain
 ·have:=hN1
  rcases S.tk.msk with e | e | e <;> rw[e] at this <;> lia
end
end L2
set_option maxRecDepth 100000
namespace L2
open PySem PySem.Spec PyProof.Rows DL PySem.W
section
variable{X:Cx}{pins:List (Addr×Obj)}{σ:St}{H:Hp}{ρ:List Addr}{M:Mem}{A:Around}{E:Value->Shared->Prop}{s:Shared}{n:Nat}
theorem KS.at(x:KS X ρ H h a n ds)(k:∀ o,h.get? a=some o->h'.get? a=some o):KS X ρ H h' a n ds:=by
 obtain⟨o,es,ep,t,S⟩:=x
 exact⟨o,es,ep,t,k _ S.ob,S.ex,S.dt,S.en,S.nd,S.tk,S.ld⟩
theorem Be(sm:Sim X.K ρ M H)(I:Inv X pins σ H s)(hn:n<=8)(hu:A.units+n+2 < cLine)(W:Walks X.prog X.w A.in1 J fp wr m P Sx)(S:Addr)(hSf:S∉fp)
  (hS0:s.heap.get? S=none) (hw0:∀ b∈wr,s.heap.get? b=none) (val:Nat->D) (hval:∀ i v,P i v->∃ vv,Rep X.K ρ H (val i) vv/\aJ vv v/\cf n (val i)=true/\eX (val i)=true) (hb:m<=63) :
  ∀ (k i:Nat) (h:Heap) (tk:Nat) (ds:List D),m-i=k->i<=m->Sx i h->KS X ρ H h S n ds->(∀ x,x∈ds↔∃ j,j < i/\val j=x)->ds.length<=i->(∀ b u,s.heap.get? b=some u->h.get? b=some u) ->
   (∀ h' tk ds',(∀ b u,s.heap.get? b=some u->h'.get? b=some u)->KS X ρ H h' S n ds'->(∀ x,x∈ds'↔∃ j,j < m/\val j=x)->ds'.length<=m->R (.ok (.ret .none)) { s with heap:=h',toks:=tk }) ->
   codeAny (model X.prog X.w) A (.builtin "set.update.loop" ⟨[.ref S,.ref J],[]⟩) R { s with heap:=h,toks:=tk }:=by
 have hSw:S∉wr:=fun h=>hSf (W.sub _ h)
 intro k
 induction k with
 | zero =>
  intro i h tk ds hk hi hst hS hm hl hold hR
  obtain rfl:i=m:=by lia
  refine codeAny_builtin F.entry_set_update_loop ?_
  rw[Around.under_plainId F.plain_set_update_loop _]
  refine(show wpAny (model X.prog X.w) A.in1 (pyNext (.ref J) >>= _) _ _ _ from wpAny_bind (W.done _ _ _ hst fun h' tk hk'=>?_))
  refine wpAny_pure (hR h' tk ds (fun b u e=>hk' b u (fun z=>by rw[hw0 b z] at e; cases e) (hold b u e)) (hS.at fun o e=>hk' S o hSw e) hm hl)
 | succ k ih =>
  intro i h tk ds hk hi hst hS hm hl hold hR
  refine codeAny_builtin F.entry_set_update_loop ?_
  rw[Around.under_plainId F.plain_set_update_loop _]
  refine(show wpAny (model X.prog X.w) A.in1 (pyNext (.ref J) >>= _) _ _ _ from wpAny_bind (W.item i _ _ _ (by lia) hst fun v h' tk hP hst' hk'=>?_))
  obtain⟨vv,r,rv,kd,it⟩:=hval i v hP
  have old':∀ b u,s.heap.get? b=some u->h'.get? b=some u:=fun b u e=>hk' b u (fun z=>by rw[hw0 b z] at e; cases e) (hold b u e)
  have I':Inv X pins σ H { s with heap:=h',toks:=tk }:=I.kept old'
  refine wpAny_bind (wpAny_holding (add_D (s:={ s with heap:=h',toks:=tk }) sm I' hn (by show A.units+1+n+1 < cLine; lia) (hS.at fun o e=>hk' S o hSw e) (by lia) r rv kd it fun b h2 tk2 ds2 k2 hS2 hm2 hl2=>?_))
  refine wpAny_pure ⟨plainId_quiet F.plain_set_update_loop _,ih (i+1) h2 tk2 ds2 (by lia) (by lia) (W.frame _ h' h2 hst' fun b' hb' o e=>k2 b' o (fun z=>hSf (z ▸ hb')) e) hS2 (fun x=>?_) (by lia) (fun b u e=>k2 b u (fun z=>by rw[z,hS0] at e; cases e) (old' b u e)) hR⟩
  rw[hm2,hm]
  constructor
  ·rintro(⟨j,hj,e⟩ | rfl)
   ·exact⟨j,by lia,e⟩
   ·exact⟨i,by lia,rfl⟩
  ·rintro⟨j,hj,rfl⟩
   by_cases q:j=i
   ·subst q; exact .inr rfl
   ·exact .inl ⟨j,by lia,rfl⟩
theorem ya(e:h.get? a=some (aU X.w)):KS X ρ H h a n [] :=
 ⟨_,#[],0,_,e,⟨rfl,rfl,rfl⟩,rfl,.nil,List.nodup_nil,⟨.inl rfl,rfl,rfl,List.Pairwise.nil,fun j hj=>by simp[SetTable.fresh] at hj,(by show 0*5 < 7*3; decide),fun i h j hh=>by simp at hh⟩,rfl⟩
end
end L2
set_option maxRecDepth 100000
namespace L2
open PySem PySem.Spec PyProof.Rows DL PySem.W
section
variable{X:Cx}{pins:List (Addr×Obj)}{σ:St}{H:Hp}{ρ:List Addr}{M:Mem}{A:Around}{E:Value->Shared->Prop}{s:Shared}{m:Nat}
theorem Bl(sm:Sim X.K ρ M H)(I:Inv X pins σ H s)(hm8:m<=8)(hu:A.units+m+3 < cLine){l:Addr}{T:String}{n:Nat}{P:Nat->Value->Prop}{G:Shared->Prop}(hh:A.handled=none)(K:TxSrc X.prog X.w s.heap l T n P)(val:Nat->D)(hval:∀ i v,P i v->∃ vv,Rep X.K ρ H (val i) vv/\aJ vv v/\cf m (val i)=true/\eX (val i)=true)(hb:n<=63)
  (h:∀ h' tk ds,(∀ b o,s.heap.get? b=some o->h'.get? b=some o)->KS X ρ H h' s.heap.objs.size m ds->(∀ x,x∈ds↔∃ j,j < n/\val j=x)->ds.length<=n->G { s with heap:=h',toks:=tk }) :
  wpAny (model X.prog X.w) A (Builtin.«set.__init__» ⟨[.ref s.heap.objs.size,.ref l],[]⟩) (fun fin s'=>fin=.done (.ret .none)/\G s') E { s with heap:=s.heap.push (aU X.w) }:=by
 have hS:(s.heap.push (aU X.w)).get? s.heap.objs.size=some (aU X.w):=Heap.get?_push_size _ rfl
 have hT:Shared.TypeIs { s with heap:=s.heap.push (aU X.w) } (.ref s.heap.objs.size) "set":=⟨_,hS,rfl⟩
 obtain⟨ol,hol,hcl⟩:=K.obj
 have hol':(s.heap.push (aU X.w)).get? l=some ol:=Heap.get?_push_of_some _ hol
 have hTl:Shared.TypeIs { s with heap:=s.heap.push (aU X.w) } (.ref l) T:=⟨ol,hol',hcl⟩
 have ll:l < s.heap.objs.size:=Heap.lt_size hol
 have sz:(s.heap.push (aU X.w)).objs.size=s.heap.objs.size+1:=Heap.size_push ..
 obtain⟨oI,St,hit,W,st⟩:=K.iter A.in1 { s with heap:=s.heap.push (aU X.w) } hh fun o e=>Heap.get?_push_of_some _ e
 have ns:=K.ns
 have nf:=K.nf
 have nd:=K.nd
 unfold Builtin.«set.__init__» noKeywords Builtin.Frozenset.updateFrom
 generalize hPI:pyIter=PI
 wp_walk
 subst hPI
 refine wpAny_of_in1 (hit _ _ ?_)
 have hSf:s.heap.objs.size∉[(s.heap.push (aU X.w)).objs.size,l]:=by
  rw[sz]
  simp only[List.mem_cons,List.not_mem_nil,or_false,not_or]
  exact⟨Nat.ne_of_lt (Nat.lt_succ_self _),Nat.ne_of_gt ll⟩
 have hS0:s.heap.get? s.heap.objs.size=none:=by
  cases q:s.heap.get? s.heap.objs.size with
  | none=>rfl
  | some o=>exact absurd (Heap.lt_size q) (Nat.lt_irrefl _)
 have hw0:∀ b∈[(s.heap.push (aU X.w)).objs.size],s.heap.get? b=none:=fun b hb'=>by
  rw[List.mem_singleton.mp hb',sz]
  cases q:s.heap.get? (s.heap.objs.size+1) with
  | none=>rfl
  | some o=>exact absurd (Heap.lt_size q) (Nat.not_lt.mpr (Nat.le_succ _))
 refine wpAny_bind (wpAny_runValue (Be (s:=s) sm I hm8 (by first | exact(show A.units+m+2 < cLine by lia) | exact(show A.units+1+m+2 < cLine by lia)) W s.heap.objs.size hSf hS0 hw0 val hval hb n 0 _ _ [] rfl (Nat.zero_le _) st (ya (Heap.get?_push_of_some _ hS)) (fun x=>by simp) (Nat.le_refl _) (fun b u e=>Heap.get?_push_of_some _ (Heap.get?_push_of_some _ e)) fun h' tk ks hk hks hm hl=>?_))
 exact wpAny_pure (wpAny_pure ⟨rfl,h h' tk ks hk hks hm hl⟩)
set_option maxHeartbeats 1000000 in
theorem BK(sm:Sim X.K ρ M H)(I:Inv X pins σ H s)(hm8:m<=8)(hu:A.units+m+20 < cLine){l:Addr}{T:String}{n:Nat}{P:Nat->Value->Prop}{Q:Value->Shared->Prop}(hh:A.handled=none)(K:TxSrc X.prog X.w s.heap l T n P)(val:Nat->D)(hval:∀ i v,P i v->∃ vv,Rep X.K ρ H (val i) vv/\aJ vv v/\cf m (val i)=true/\eX (val i)=true)(hb:n<=63)
  (h:∀ h' tk ds,(∀ b o,s.heap.get? b=some o->h'.get? b=some o)->KS X ρ H h' s.heap.objs.size m ds->(∀ x,x∈ds↔∃ j,j < n/\val j=x)->ds.length<=n->Q (.ref s.heap.objs.size) { s with heap:=h',toks:=tk }) :
  wpAny (model X.prog X.w) A (call (.type "set") [.ref l]) Q E s:=by
 have fm:=F.called_set.made
 have fs:=F.called_set.sub
 have fn:=F.called_set.notType
 have fc:=F.called_set.canCreate
 have ft:=F.typeCall_set_1 (.ref l)
 obtain⟨c,tl,fo⟩:=F.called_set.mro
 refine wpAny_call (codeAny_of_tree (show wpAny _ _ (callAny (.type "set") _) _ _ _ from wpAny_pure ⟨Code.quiet_builtin _ (by decide +kernel),codeAny_builtin F.entry_type_call ?_⟩))
 rw[Around.under_plain (weight_type_call_type "set" [.ref l] []) rfl]
 repeat (any_goals (first | assumption | wp_step))
 refine codeAny_mono (pL (.ref l) (E:=E) (Q₁:=fun obj s₁=>obj=.ref s.heap.objs.size/\s₁={ s with heap:=s.heap.push (aU X.w) }) ⟨rfl,rfl⟩) fun r s₁ hr=>?_
 match r,hr with
 | .error e,hr=>exact hr
 | .ok (.ret obj),⟨e1,e2⟩ =>
  subst e1 e2
  have hS:(s.heap.push (aU X.w)).get? s.heap.objs.size=some (aU X.w):=Heap.get?_push_size _ rfl
  have hT:Shared.TypeIs { s with heap:=s.heap.push (aU X.w) } (.ref s.heap.objs.size) "set":=⟨_,hS,rfl⟩
  have fl:=F.called_set.init.lookup
  have fb:=F.called_set.init.bind (.ref s.heap.objs.size)
  repeat (any_goals (first | assumption | wp_step))
  refine codeAny_mono (codeAny_call_builtin (R:=wants (fun r s₂=>r=.none/\Q (.ref s.heap.objs.size) s₂) E) F.called_set.init.plain F.entry_set_init (check_set_init_1 hT ?_)) fun r₂ s₂ hr₂=>?_
  ·refine wpAny_mono (Bl (G:=fun s2=>Q (.ref s.heap.objs.size) s2) sm I hm8 (by first | (show A.units+1+1+1+m+3 < cLine; lia) | (show A.units+1+1+m+3 < cLine; lia) | (show A.units+1+m+3 < cLine; lia)) (by simp[hh]) K val hval hb h) (fun fin s' ⟨e,g⟩=>?_) fun _ _ z=>z
   subst e
   exact⟨rfl,g⟩
  ·match r₂,hr₂ with
   | .error e,hr₂=>exact hr₂
   | .ok (.ret r),⟨e,q⟩ =>
    subst e
    repeat (any_goals (first | assumption | wp_step))
end
end L2
set_option maxRecDepth 100000
namespace L2
open PySem PySem.Spec PyProof.Rows DL PySem.W
def SqAt(M:Mem)(d:D)(xs:List D):Prop:=(∃ n,d=.ref n/\ao M n xs)\/d=.tup xs
theorem SrtOk.sub(h:SrtOk M xs)(s:∀ y∈ys,y∈xs)(l:ys.length < 64):SrtOk M ys:=by
 refine⟨l,fun x hx=>h.ok x (s x hx),fun x hx y hy=>h.cm x (s x hx) y (s y hy),?_⟩
 rcases h.kd with k | k | k | k | k
 ·exact .inl fun x hx=>k x (s x hx)
 ·exact .inr (.inl fun x hx=>k x (s x hx))
 ·exact .inr (.inr (.inl fun x hx=>k x (s x hx)))
 ·exact .inr (.inr (.inr (.inl fun x hx=>k x (s x hx))))
 ·exact .inr (.inr (.inr (.inr fun x hx=>k x (s x hx))))
section
variable{X:Cx}{e:Expr}{te:DTE}{p p' pos pos':Pos}{k:Nat}
theorem Cs(I:Inv X pins σ H s)(sm:Sim X.K ρ M H)(r:Rep X.K ρ H d v)(rv:aJ v u)(t:SqAt M d xs) :
  ∃ (a:Addr) (T:String) (its:Array Value) (vs:List V),u=.ref a/\TxSrc X.prog X.w s.heap a T its.size (fun i v=>its[i]?=some v)/\Reps X.K ρ H xs vs/\ar vs its.toList:=by
 rcases t with ⟨n,rfl,hL⟩ | rfl
 ·cases r with
  | @ref _ a ha =>
   cases rv
   obtain⟨vs,hs,rr⟩:=hL.seq sm ha
   obtain⟨its,r2,p,_⟩:=I.list hs
   exact⟨a,_,its.toArray,vs,rfl,TxSrc.list p.isList,rr,by simpa using r2⟩
 ·cases r with
  | @tup a vs _ hs rr =>
   cases rv
   obtain⟨its,r2,p,_⟩:=I.tuple hs
   exact⟨a,_,its.toArray,vs,rfl,TxSrc.tuple p,rr,by simpa using r2⟩
theorem kO:∀ {ds:List D}{vs:List V}{its:List Value}{i:Nat}{u:Value}{ρ:List Addr}{H:Hp},Reps X.K ρ H ds vs->ar vs its->its[i]?=some u->∃ d v,ds[i]?=some d/\Rep X.K ρ H d v/\aJ v u
 | _,_,_,i,u,_,_,.nil,h,e=>by cases h; simp at e
 | _,_,_,0,u,_,_,.cons r _,h,e=>by
  cases h with
  | cons a _=>simp at e; subst e; exact⟨_,_,rfl,r,a⟩
 | _,_,_,i+1,u,_,_,.cons _ t,h,e=>by
  cases h with
  | cons _ b =>
   obtain⟨d,v,e1,r,rv⟩:=kO (i:=i) t b (by simpa using e)
   exact⟨d,v,by simpa using e1,r,rv⟩
theorem ents:∀ {ds:List D}{es:List (Int×Value)},Paired (Ent X ρ H n) ds es->∃ vs,Reps X.K ρ H ds vs/\ar vs (es.map (·.2))
 | _,_,.nil=>⟨[],.nil,.nil⟩
 | _,_,.cons ⟨⟨v,r,rv⟩,_⟩ t=>by
  obtain⟨vs,a,b⟩:=ents t
  exact⟨v::vs,.cons r a,.cons rv b⟩
theorem uT(p:us'.Perm us):∀ {ds:List D}{vs:List V},Reps X.K ρ H ds vs->ar vs us->∃ ds' vs',ds'.Perm ds/\Reps X.K ρ H ds' vs'/\ar vs' us':=by
 induction p with
 | nil=>intro ds vs r h; exact⟨ds,vs,.refl _,r,h⟩
 | cons x _ ih =>
  intro ds vs r h
  cases h with
  | cons a b =>
   cases r with
   | cons c d =>
    obtain⟨ds',vs',h1,h2,h3⟩:=ih d b
    exact⟨_,_,h1.cons _,.cons c h2,.cons a h3⟩
 | swap x y l =>
  intro ds vs r h
  cases h with
  | cons a b =>
   cases b with
   | cons a2 b2 =>
    cases r with
    | cons c d =>
     cases d with
     | cons c2 d2=>exact⟨_,_,.swap _ _ _,.cons c2 (.cons c d2),.cons a2 (.cons a b2)⟩
 | trans _ _ ih1 ih2 =>
  intro ds vs r h
  obtain⟨ds',vs',h1,h2,h3⟩:=ih2 r h
  obtain⟨ds2,vs2,g1,g2,g3⟩:=ih1 h2 h3
  exact⟨ds2,vs2,g1.trans h1,g2,g3⟩
end
end L2
set_option maxRecDepth 100000
namespace L2
open PySem PySem.Spec PyProof.Rows DL PySem.W
def gh(te:DTE):DTE:=fun S M Q=>te S M fun d M1=>∃ n xs,n<=8/\SqAt M1 d xs/\xs.length < 64/\(∀ x∈xs,cf n x=true/\eX x=true)/\SrtOk M1 xs/\∀ ys:List D,ys.Nodup->(∀ x,x∈ys↔x∈xs)->BZ M1 ys->Q (.ref M1.length) (M1++[.lst ys])
section
variable{X:Cx}{e:Expr}{te:DTE}{p p' pos pos':Pos}{k:Nat}
set_option maxHeartbeats 1000000 in
theorem tp(hr:Room k X.A)(hc:X.calm=true)(he:DE X e te)(hm1:X.mg "sorted" = none)(hm2:X.mg "set" = none)(hg1:X.env.kindOf "sorted" = some .globalImplicit)(hg2:X.env.kindOf "set" = some .globalImplicit)
  (h1:starEach [e] X.env=[(false,eval e X.env)]) (h2:starEach [Expr.Call (.Name "set" p') [e] [] pos'] X.env=[(false,eval (Expr.Call (.Name "set" p') [e] [] pos') X.env)]) :
  DE X (.Call (.Name "sorted" p) [.Call (.Name "set" p') [e] [] pos'] [] pos) (gh te):=by
 intro pins s σ H R I ⟨S,M,ρ,Q,sm,sr,q,kk⟩
 refine wpAny_Call_Name_kw (fX I hg1 hm1 (by rfl) ?_)
 refine callWith_builtin1 ?_ (by rw[h2]; rfl) rfl
 rw[h2]
 refine Calls.spliced_cons ?_
 refine wpAny_Call_Name_kw (fX I hg2 hm2 (by rfl) ?_)
 refine callWith_type1 ?_ (by rw[h1]; rfl) rfl
 rw[h1]
 refine Calls.spliced_cons (thn (he pins s σ H _ I ⟨S,M,ρ,_,sm,sr,q,fun v H' z=>z⟩) fun u s1 ⟨v,H1,I1,rv,d,M1,ρ1,sm1,g1,r1,cases⟩=>?_)
 refine Calls.spliced_nil ?_
 obtain⟨n,xs,n8,sq,hl,hk,so,fin⟩:=cases
 obtain⟨a,T,its,ws,rfl,src,rps,vx⟩:=Cs I1 sm1 r1 rv sq
 have li:its.size=xs.length:=by have h1:=vx.length; have h2:=rps.length; simp at h1; lia
 have un:=hr.un
 refine BK sm1 I1 n8 (by lia) (I1.ok.hd hc) src (fun i=>xs.getD i .non) (fun i v e=>?_) (by lia) fun h2 tk2 ds k2 kset hks hle=>?_
 ·obtain⟨d,vv,e1,r,rv⟩:=kO rps vx (by rw[Array.getElem?_toList]; exact e)
  have ed:xs.getD i .non=d:=by rw[List.getD_eq_getElem?_getD,e1]; rfl
  have:=hk d (List.mem_of_getElem? e1)
  exact⟨vv,by rw[ed]; exact r,rv,by rw[ed]; exact this.1,by rw[ed]; exact this.2⟩
 refine Calls.spliced_nil ?_
 have I2:=I1.kept (t':=tk2) k2
 obtain⟨o,es,ep,t,KSt⟩:=kset
 have lds:ds.length=es.size:=by have:=KSt.en.length; simpa using this
 have hz:es.size<=sizeLine:=by rw[sizeLine_eq]; lia
 refine sw (s:={ s1 with heap:=h2,toks:=tk2 }) (I2.ok.hd hc) ⟨KSt.ob,KSt.dt,KSt.fits⟩ KSt.ex.1 (fun z=>.inr KSt.tk.ris) KSt.ld hz fun h3 tk3 dr D vs k3 hD hD3 pv=>?_
 have hmem:∀ x,x∈ds↔x∈xs:=fun x=>by
  rw[hks x,li]
  constructor
  ·rintro⟨j,hj,rfl⟩
   have e:xs.getD j .non=xs[j]:=by simp[List.getD,hj]
   rw[e]
   exact List.getElem_mem hj
  ·intro hx
   obtain⟨j,hj,e⟩:=List.getElem_of_mem hx
   exact⟨j,hj,by rw[show xs.getD j .non=xs[j] by simp[List.getD,hj]]; exact e⟩
 obtain⟨ws0,rp0,va0⟩:=ents KSt.en
 obtain⟨ds',ws',pd,rp1,va1⟩:=uT pv rp0 va0
 obtain⟨m,hn,_⟩:=I2.loc
 have hDL:D≠X.env.locals:=fun z=>by
  obtain⟨oL,_,_,hL,_⟩:=hn
  rw[z] at hD
  rw[hD] at hL; cases hL
 have hn3:h3.Ns X.env.locals m:=hn.at' fun o e=>k3 _ _ e
 refine zZ (X:=X) (pins:=pins) (σ:=σ) (s:={ s1 with heap:=h2,toks:=tk2,drawn:=dr }) (n:=0) hr (by show X.A.units+1<=X.A.units+4; lia) I2.drew sm1 (so.sub (ys:=ds') (fun y hy=>(hmem y).mp (pd.mem_iff.mp hy)) (by rw[pd.length_eq]; lia)).g rp1 va1 hn hn3 (fun b u _ e=>k3 b u e) hD hDL hD3 fun v H' x=>?_
 refine kk v H' ?_
 have:=x (fun d M'=>Q d M') fun ys hp hri=>?_
 ·obtain⟨d,M',ρ',a1,a2,a3,a4⟩:=this
  exact⟨d,M',ρ',a1,g1.trans a2,a3,a4⟩
 ·exact fin ys ((hp.trans pd).nodup_iff.mpr KSt.nd) (fun x=>((hp.trans pd).mem_iff).trans (hmem x)) hri
theorem kB(hr:Room k X.A)(he:HE X e te)(hm1:X.mg "sorted" = none)(hm2:X.mg "set" = none)(hc:X.calm=true:=by kernel_rfl)(hg1:X.env.kindOf "sorted" = some .globalImplicit:=by kernel_rfl)(hg2:X.env.kindOf "set" = some .globalImplicit:=by kernel_rfl)
  (h1:starEach [e] X.env=[(false,eval e X.env)]:=by kernel_rfl) (h2:starEach [Expr.Call (.Name "set" p') [e] [] pos'] X.env=[(false,eval (Expr.Call (.Name "set" p') [e] [] pos') X.env)]:=by kernel_rfl) :
  HE X (.Call (.Name "sorted" p) [.Call (.Name "set" p') [e] [] pos'] [] pos) (gh te):=⟨tp hr hc he.ok hm1 hm2 hg1 hg2 h1 h2⟩
end
end L2
set_option maxRecDepth 100000
namespace L2
open PySem PySem.Spec PyProof.Rows DL PySem.W
def eD(h:Heap):Nat->D->Value->Prop
 | _,.str x,v=>∃ t,v=.str x t
 | _,.int i,v=>∃ t,v=.int i t
 | n+1,.tup ds,v=>∃ a its,v=.ref a/\h.IsTuple a its/\Paired (eD h n) ds its.toList
 | _,_,_=>False
def drD:Nat->D->Nat
 | n+1,.tup ds=>(ds.map (drD n)).sum+1
 | _,_=>1
theorem fZ:∀ (n:Nat) (d:D) (v:Value),eD h n d v->cf n d=true:=by
 intro n
 induction n with
 | zero=>intro d v k; cases d <;> first | rfl | exact k.elim
 | succ n ih =>
  intro d v k
  cases d with
  | str x=>rfl
  | int x=>rfl
  | tup ds =>
   obtain⟨a,its,_,_,p⟩:=k
   show ds.all (cf n)=true
   generalize its.toList=l at p
   induction p with
   | nil=>rfl
   | cons r _ i2=>rw[List.all_cons,ih _ _ r,i2]; rfl
  | _=>exact k.elim
theorem pA{h:Heap}{a:Addr}{xs ys:Array Value}(h1:h.IsTuple a xs)(h2:h.IsTuple a ys):xs=ys:=by
 obtain⟨o,e1,_,n,d1⟩:=h1
 obtain⟨o',e2,_,n',d2⟩:=h2
 obtain rfl:o=o':=Option.some.inj (e1.symm.trans e2)
 rw[d1] at d2
 injection d2
theorem nr{h:Heap}:∀ (n:Nat) (x y:D) (v:Value),eD h n x v->eD h n y v->x=y:=by
 intro n
 induction n with
 | zero =>
  intro x y v k1 k2
  cases x with
  | str a =>
   obtain⟨t,rfl⟩:=k1
   cases y with
   | str b=>obtain⟨t',e⟩:=k2; injection e with e; rw[e]
   | int b=>obtain⟨t',e⟩:=k2; cases e
   | _=>exact k2.elim
  | int a =>
   obtain⟨t,rfl⟩:=k1
   cases y with
   | str b=>obtain⟨t',e⟩:=k2; cases e
   | int b=>obtain⟨t',e⟩:=k2; injection e with e; rw[e]
   | _=>exact k2.elim
  | _=>exact k1.elim
 | succ n ih =>
  intro x y v k1 k2
  cases x with
  | str a =>
   obtain⟨t,rfl⟩:=k1
   cases y with
   | str b=>obtain⟨t',e⟩:=k2; injection e with e; rw[e]
   | int b=>obtain⟨t',e⟩:=k2; cases e
   | tup b=>obtain⟨_,_,e,_⟩:=k2; cases e
   | _=>exact k2.elim
  | int a =>
   obtain⟨t,rfl⟩:=k1
   cases y with
   | str b=>obtain⟨t',e⟩:=k2; cases e
   | int b=>obtain⟨t',e⟩:=k2; injection e with e; rw[e]
   | tup b=>obtain⟨_,_,e,_⟩:=k2; cases e
   | _=>exact k2.elim
  | tup xs =>
   obtain⟨a,its,rfl,t1,p1⟩:=k1
   cases y with
   | str b=>obtain⟨t',e⟩:=k2; cases e
   | int b=>obtain⟨t',e⟩:=k2; cases e
   | tup ys =>
    obtain⟨_,its',e,t2,p2⟩:=k2
    cases e
    obtain rfl:=pA t1 t2
    congr 1
    generalize its.toList=l at p1 p2
    induction p1 generalizing ys with
    | nil=>cases p2; rfl
    | cons r _ i2=>cases p2 with
     | cons r' t'=>rw[ih _ _ _ r r',i2 _ t']
   | _=>exact k2.elim
  | _=>exact k1.elim
theorem sU(k:∀ a its,h.IsTuple a its->h'.IsTuple a its):∀ (n:Nat) (d:D) (v:Value),eD h n d v->eD h' n d v:=by
 intro n
 induction n with
 | zero=>intro d v q; cases d <;> first | exact q | exact q.elim
 | succ n ih =>
  intro d v q
  cases d with
  | str x=>exact q
  | int x=>exact q
  | tup ds =>
   obtain⟨a,its,e,t,p⟩:=q
   exact⟨a,its,e,k _ _ t,Paired.mapP p fun x y r=>ih x y r⟩
  | _=>exact q.elim
theorem py{es ep}(q:eD h n k v)(ho:h.get? d=some o)(hd:o.data=.dict es ep)(hs:Heap.SameBut d h h'):eD h' n k v:=by
 refine sU (fun a its ⟨o',e,c,m,t⟩=>?_) n k v q
 have hne:a≠d:=by
  rintro rfl
  obtain rfl:o'=o:=Option.some.inj (e.symm.trans ho)
  rw[hd] at t; cases t
 exact⟨o',(hs.2 a hne).trans e,c,m,t⟩
section
variable{prog:Program}{w:World}
theorem sV:∀ (n:Nat) (A:Around) (s:Shared) (d:D) (u:Value) (E:Value->Shared->Prop) (Q:Int->Shared->Prop),A.units+n < cLine->eD s.heap n d u ->
  Q (hkD w n d) { s with toks:=s.toks+drD n d }->wpAny (model prog w) A (pyHash u) Q E s:=by
 intro n
 induction n with
 | zero =>
  intro A s d u E Q hu k h
  cases d with
  | str x=>obtain⟨t,rfl⟩:=k; exact wpAny_pyHash_str h
  | int x=>obtain⟨t,rfl⟩:=k; exact wpAny_pyHash_int h
  | _=>exact k.elim
 | succ n ih =>
  intro A s d u E Q hu k h
  cases d with
  | str x=>obtain⟨t,rfl⟩:=k; exact wpAny_pyHash_str h
  | int x=>obtain⟨t,rfl⟩:=k; exact wpAny_pyHash_int h
  | tup ds =>
   obtain⟨a,its,rfl,⟨o,ho,hc,nn,hd⟩,p⟩:=k
   have hT:s.TypeIs (.ref a) "tuple":=⟨o,ho,hc⟩
   unfold pyHash
   first | unfold pyHashByItsType | skip
   first | refine wpAny_bind (wpAny_cRoomFor_or (.inr (by lia)) ?_) | skip
   refine wpAny_bind (wpAny_specialOf hT F.slot_tuple_hash.lookup ?_)
   refine(show wpAny (model prog w) _ (if (some (Value.builtin "tuple.__hash__")==some Value.none)=true then _ else _) Q E s from ?_)
   rw[if_neg (by rw[beq_builtin_none]; exact Bool.false_ne_true)]
   refine wpAny_bind (wpAny_specialOf hT F.slot_tuple_hash.lookup ?_)
   refine(show wpAny (model prog w) _ (callSpecialIfBoundUnlessNone? (.ref a) "__hash__" _ >>= _) Q E s from wpAny_bind (wpAny_callSpecialIfBoundUnlessNone?_slot hT F.slot_tuple_hash (wpAny_call_entry F.slot_tuple_hash hT F.entry_tuple_hash ?_ (F.args_tuple_hash_1 _))))
   refine(show wpAny (model prog w) _ (Builtin.Tuple.tupleItemsOf (.ref a) >>= _) _ _ s from wpAny_bind (wpAny_tupleItemsOf ho hd (wpAny_bind ?_)))
   rw[← Array.forIn_toList]
   refine wpAny_forIn_list _ (fun aN (b:Array Int) s'=>∃ done left,ds=done++left/\Paired (eD s.heap n) left aN/\b.toList=done.map (hkD w n)/\s'={ s with toks:=s.toks+(done.map (drD n)).sum }) _ ?_ ?_ _ _ ⟨[],ds,rfl,p,rfl,rfl⟩
   ·rintro x aN b s' ⟨done,left,e,h1,hb,rfl⟩
    cases h1 with
    | @cons d0 _ left' _ r0 t0 =>
     refine wpAny_bind (ih _ _ d0 x _ _ (by show A.units+1+n < cLine; lia) r0 ?_)
     first
      | exact wpAny_pure ⟨done++[d0],left',by rw[e]; simp,t0,by simp[hb],by simp[Nat.add_assoc]⟩
      | exact wpAny_bind (wpAny_pure (wpAny_pure ⟨done++[d0],left',by rw[e]; simp,t0,by simp[hb],by simp[Nat.add_assoc]⟩))
   ·rintro b s' ⟨done,left,e,h1,hb,rfl⟩
    cases h1
    rw[List.append_nil] at e
    subst e
    refine(show wpAny (model prog w) _ (retInt (Builtin.Tuple.tupleHashOf b.toList)) _ _ _ from ?_)
    rw[hb]
    refine wpAny_ret_mkInt ?_
    have key:hkD w (n+1) (.tup ds)=reduceHash (Builtin.Tuple.tupleHashOf (ds.map (hkD w n))):=rfl
    have h':Q (hkD w (n+1) (.tup ds)) { s with toks:=s.toks+(ds.map (drD n)).sum+1 }:=h
    generalize Builtin.Tuple.tupleHashOf (ds.map (hkD w n))=z at key
    refine(show wpAny (model prog w) _ (if (decide (-(2:Int) ^ 63<=z)&&decide (z < 2 ^ 63))=true then _ else _) Q E _ from ?_)
    unfold reduceHash at key
    by_cases hr:(decide (-(2:Int) ^ 63<=z)&&decide (z < 2 ^ 63))=true
    ·rw[if_pos hr] at key ⊢
     exact wpAny_pure (by rw[← key]; exact h')
    ·rw[if_neg hr] at key ⊢
     exact wpAny_bind (wpAny_rule (wpAny_pure (by rw[← key]; exact h')))
  | _=>exact k.elim
theorem pp:∀ (n k:Nat) (A:Around) (s:Shared) (d:D) (u:Value) (E:Value->Shared->Prop) (Q:Bool->Shared->Prop),n<=k->eD s.heap n d u->Q true s->wpAny (model prog w) A (eqIsQuiet k u) Q E s:=by
 intro n
 induction n with
 | zero =>
  intro k A s d u E Q hk q h
  cases d with
  | str x=>obtain⟨t,rfl⟩:=q; rw[eqIsQuiet_byValue k (v:=.str x t) rfl]; exact wpAny_pure h
  | int x=>obtain⟨t,rfl⟩:=q; rw[eqIsQuiet_byValue k (v:=.int x t) rfl]; exact wpAny_pure h
  | _=>exact q.elim
 | succ n ih =>
  intro k A s d u E Q hk q h
  cases d with
  | str x=>obtain⟨t,rfl⟩:=q; rw[eqIsQuiet_byValue k (v:=.str x t) rfl]; exact wpAny_pure h
  | int x=>obtain⟨t,rfl⟩:=q; rw[eqIsQuiet_byValue k (v:=.int x t) rfl]; exact wpAny_pure h
  | tup ds =>
   obtain⟨a,its,rfl,⟨o,ho,hc,nn,hd⟩,p⟩:=q
   obtain⟨k,rfl⟩:∃ k',k=k'+1:=⟨k-1,by lia⟩
   have hT:s.TypeIs (.ref a) "tuple":=⟨o,ho,hc⟩
   unfold eqIsQuiet
   refine wpAny_bind (wpAny_specialOf hT F.slot_tuple_eq.lookup ?_)
   refine(show wpAny (model prog w) A (isInstance (.ref a) (.type "tuple") >>= _) _ _ s from wpAny_bind (wpAny_isInstance hT isSubtype_tuple_tuple ?_))
   simp only[Bool.not_true,Bool.false_eq_true,if_false]
   refine wpAny_bind (wpAny_seqItems ho hd ?_)
   simp only[Option.getD_some]
   refine wpAny_bind ?_
   refine(show wpAny (model prog w) A (forIn its _ _) _ _ s from ?_)
   rw[← Array.forIn_toList]
   refine wpAny_forIn_list _ (fun aN r s'=>r.1=none/\s'=s/\∃ left,Paired (eD s.heap n) left aN) _ ?_ ?_ _ _ ⟨rfl,rfl,ds,p⟩
   ·rintro x aN r s' ⟨hr,rfl,left,h1⟩
    cases h1 with
    | cons r0 t0 =>
     refine wpAny_bind (ih k _ _ _ x _ _ (by lia) r0 ?_)
     simp only[Bool.not_true,Bool.false_eq_true,if_false]
     exact wpAny_pure ⟨rfl,rfl,_,t0⟩
   ·rintro⟨r1,r2⟩ s' ⟨hr,rfl,_⟩
    simp only at hr
    subst hr
    exact wpAny_pure h
  | _=>exact q.elim
theorem hV{h:Heap}{n:Nat}{ds:List D}{its:Array Value}(p:Paired (eD h n) ds its.toList):ds.length=its.size:=by
 rw[← Array.length_toList]
 generalize its.toList=l at p
 induction p with
 | nil=>rfl
 | cons _ _ ih=>rw[List.length_cons,List.length_cons,ih]
theorem yc:∀ (n:Nat) (A:Around) (s:Shared) (x y:D) (u v:Value),A.units+n < cLine->eD s.heap n x u->eD s.heap n y v->SeqAt.EqAt A s u v (eqD [] n x y):=by
 intro n
 induction n with
 | zero =>
  intro A s x y u v hu k1 k2
  cases x with
  | str a =>
   obtain⟨t,rfl⟩:=k1
   cases y with
   | str b=>obtain⟨t',rfl⟩:=k2; exact SeqAt.EqAt.str_str _ _ _ _
   | int b=>obtain⟨t',rfl⟩:=k2; exact SeqAt.EqAt.str_int _ _ _ _
   | _=>exact k2.elim
  | int a =>
   obtain⟨t,rfl⟩:=k1
   cases y with
   | str b=>obtain⟨t',rfl⟩:=k2; exact SeqAt.EqAt.int_str _ _ _ _
   | int b=>obtain⟨t',rfl⟩:=k2; exact SeqAt.EqAt.int_int _ _ _ _
   | _=>exact k2.elim
  | _=>exact k1.elim
 | succ n ih =>
  intro A s x y u v hu k1 k2
  have hu0:A.units < cLine:=by lia
  have hu1:A.in1.units+n < cLine:=by show A.units+1+n < cLine; lia
  cases x with
  | str a =>
   obtain⟨t,rfl⟩:=k1
   cases y with
   | str b=>obtain⟨t',rfl⟩:=k2; exact SeqAt.EqAt.str_str _ _ _ _
   | int b=>obtain⟨t',rfl⟩:=k2; exact SeqAt.EqAt.str_int _ _ _ _
   | tup b=>obtain⟨_,_,rfl,pl,_⟩:=k2; exact SeqAt.EqAt.str_tuple _ _ pl hu0
   | _=>exact k2.elim
  | int a =>
   obtain⟨t,rfl⟩:=k1
   cases y with
   | str b=>obtain⟨t',rfl⟩:=k2; exact SeqAt.EqAt.int_str _ _ _ _
   | int b=>obtain⟨t',rfl⟩:=k2; exact SeqAt.EqAt.int_int _ _ _ _
   | tup b=>obtain⟨_,_,rfl,pl,_⟩:=k2; exact SeqAt.EqAt.int_tuple _ _ pl hu0
   | _=>exact k2.elim
  | tup xs =>
   obtain⟨a,its,rfl,pl,p1⟩:=id k1
   cases y with
   | str b=>obtain⟨t',rfl⟩:=k2; exact SeqAt.EqAt.tuple_str _ _ pl hu0
   | int b=>obtain⟨t',rfl⟩:=k2; exact SeqAt.EqAt.tuple_int _ _ pl hu0
   | tup ys =>
    obtain⟨b,jts,rfl,pl',p2⟩:=id k2
    by_cases hab:a=b
    ·subst hab
     have e:=nr (n+1) _ _ _ k1 k2
     rw[e,(gI (M:=[]) (n+1) _ _ (fZ _ _ _ k2) (fZ _ _ _ k2)).mpr rfl]
     exact SeqAt.EqAt.same _
    ·have ll:=hV p1
     have ll':=hV p2
     have items:∀ (j:Nat) (h1:j < its.size) (h2:j < jts.size),SeqAt.EqAt A.in1 s its[j] jts[j] (eqD [] n (xs.getD j .non) (ys.getD j .non)):=fun j h1 h2=>by
      obtain⟨x0,e1,r1⟩:=cF p1 (i:=j) (y:=its[j]) (by rw[Array.getElem?_toList]; exact Array.getElem?_eq_getElem h1)
      obtain⟨y0,e2,r2⟩:=cF p2 (i:=j) (y:=jts[j]) (by rw[Array.getElem?_toList]; exact Array.getElem?_eq_getElem h2)
      have z1:xs.getD j .non=x0:=by rw[List.getD_eq_getElem?_getD,e1]; rfl
      have z2:ys.getD j .non=y0:=by rw[List.getD_eq_getElem?_getD,e2]; rfl
      rw[z1,z2]
      exact ih A.in1 s x0 y0 _ _ hu1 r1 r2
     have key:((List.range (min its.size jts.size)).all (fun j=>eqD [] n (xs.getD j .non) (ys.getD j .non))&&its.size==jts.size)=eqL (eqD [] n) xs ys:=by
      by_cases hl:xs.length=ys.length
      ·have rng:(List.range xs.length).all (fun j=>eqD [] n (xs.getD j .non) (ys.getD j .non))=eqL (eqD [] n) xs ys:=jf hl fun j x y h1 h2=>by simp[List.getD,h1,h2]
       rw[← ll,← ll',← hl,Nat.min_self,rng]
       simp
      ·rw[wx hl,← ll,← ll']
       simp[hl]
     have h1:=SeqAt.RcAt.tuples pl pl' hu0 items
     rw[key] at h1
     exact SeqAt.EqAt.of_refs hab h1
   | _=>exact k2.elim
  | _=>exact k1.elim
end
noncomputable instance decD:DecidableEq D:=fun a b=>Classical.propDecidable (a=b)
noncomputable def bw(prog:Program)(w:World):HeapKind prog w D where
 is:=fun h d a=>eD h 8 d (.ref a)
 hash:=hkD w 8
 draws:=drD 8
 room:=fun A=>A.units+8 < cLine
 inj:=fun x y=>nr 8 _ _ _ x y
 keeps:=fun x ho hd hs=>py x ho hd hs
 pyHash:=fun hu k h=>sV 8 _ _ _ _ _ _ hu k h
 eqBool:=fun {A E s x y a b Q} hu k1 k2 h=>by
  refine yc 8 A s x y _ _ hu k1 k2 _ _ _ _ ?_
  have e:eqD [] 8 x y=decide (x=y):=by
   rw[Bool.eq_iff_iff,gI 8 x y (fZ _ _ _ k1) (fZ _ _ _ k2),decide_eq_true_eq]
  rw[e]
  exact h
 quiet:=fun k h=>pp 8 8 _ _ _ _ _ _ (Nat.le_refl _) k h
end L2
set_option maxRecDepth 100000
namespace L2
open PySem PySem.Spec PyProof.Rows DL PySem.W
noncomputable def bj(kvs:List (D×D))(k:D):Option D:=(kvs.find? fun p=>decide (p.1=k)).map (·.2)
noncomputable def fh(kvs:List (D×D))(k d:D):List (D×D):=if (bj kvs k).isSome then kvs.map (fun p=>if p.1=k then (p.1,d) else p) else kvs++[(k,d)]
section
variable{K:PySem.W.Frag}{ρ:List Addr}{H:Hp}{M:Mem}{kvs:List (D×D)}{xs:List (D×Addr×Value)}
theorem nl(r:Paired (tJ K ρ H) kvs xs)(k:D):(bj kvs k=none/\atKey xs k=none)\/∃ d p v,bj kvs k=some d/\atKey xs k=some p/\Rep K ρ H d v/\aJ v p.2:=by
 unfold bj atKey
 induction r with
 | nil=>exact .inl ⟨rfl,rfl⟩
 | @cons p q ps qs h t ih =>
  obtain⟨h1,_,_,v,h4,h5⟩:=h
  rw[List.find?_cons,List.find?_cons]
  by_cases e:p.1=k
  ·rw[decide_eq_true e,decide_eq_true (h1.symm.trans e)]
   exact .inr ⟨_,_,v,rfl,rfl,h4,h5⟩
  ·rw[decide_eq_false e,decide_eq_false (fun z=>e (h1.trans z))]
   exact ih
theorem zb(r:Paired (tJ K ρ H) kvs xs)(kd:cf 8 k=true)(rk:Rep K ρ H k (.ref b))(rd:Rep K ρ H d v)(rv:aJ v u):Paired (tJ K ρ H) (fh kvs k d) (storedH xs k b u):=by
 unfold fh storedH
 have is:(bj kvs k).isSome=(atKey xs k).isSome:=by
  rcases nl r k with ⟨e1,e2⟩ | ⟨_,_,_,e1,e2,_⟩ <;> rw[e1,e2] <;> rfl
 rw[is]
 by_cases q:(atKey xs k).isSome=true
 ·rw[if_pos q,if_pos q]
  clear is q
  induction r with
  | nil=>exact .nil
  | @cons p q ps qs h t ih =>
   rw[List.map_cons,List.map_cons]
   refine .cons ?_ ih
   obtain⟨h1,h2,h3,w,h4,h5⟩:=h
   by_cases e:p.1=k
   ·rw[if_pos e,putAt,if_pos (h1.symm.trans e)]
    exact⟨h1,h2,h3,v,rd,rv⟩
   ·rw[if_neg e,putAt,if_neg (fun z=>e (h1.trans z))]
    exact⟨h1,h2,h3,w,h4,h5⟩
 ·rw[if_neg q,if_neg q]
  clear is q
  induction r with
  | nil=>exact .cons ⟨rfl,kd,rk,v,rd,rv⟩ .nil
  | cons h t ih=>exact .cons h ih
theorem fu(r:Paired (tJ K ρ H) kvs xs):xs.map (·.1)=kvs.map (·.1):=by
 induction r with
 | nil=>rfl
 | cons h t ih=>rw[List.map_cons,List.map_cons,ih,h.1]
theorem qP:(fh kvs k d).length<=kvs.length+1:=by
 unfold fh
 split
 ·rw[List.length_map]; lia
 ·rw[List.length_append]; exact Nat.le_refl _
theorem SqT.writtenX{a p:Addr}{xs:List V}{φ:Program->World->Heap->Prop}{o:HO}(hp:H p=some (.ext φ))(h:SqT K H a xs):SqT K (upd H p o) a xs:=by
 rcases h with h | h
 ·rcases h with h | ⟨ob,h⟩
  ·exact .inl (.inl (by rw[ak (xK h hp (by intro z; cases z))]; exact h))
  ·exact .inl (.inr ⟨ob,by rw[ak (xK h hp (by intro z; cases z))]; exact h⟩)
 ·exact .inr h
theorem Sim.writeT(S:Sim K ρ M H)(e1:ρ[n]?=some a)(hM:M[n]?=some (.dkt kvs))(hH:H a=some (.ext (dX a xs)))(hl:kvs'.length<=sizeLine)(hs:(a==sysModules)=false)(nd:(kvs'.map (·.1)).Nodup)(r:Paired (tJ K ρ H) kvs' xs') :
  Sim K ρ (M.set n (.dkt kvs')) (upd H a (.ext (dX a xs')))/\Grow K ρ H ρ (upd H a (.ext (dX a xs'))):=by
 have g:Grow K ρ H ρ (upd H a (.ext (dX a xs'))):=⟨List.prefix_rfl,fun _ _ h=>SqT.writtenX hH h⟩
 have hk:∀ m,m≠n->(M.set n (.dkt kvs'))[m]?=M[m]?:=fun m hm=>List.getElem?_set_ne (Ne.symm hm)
 have notK:¬ isK M[n]?:=fun ⟨_,z⟩=>by rw[hM] at z; cases z
 refine⟨⟨fun m m' b hne f1 f2=>?_,by rw[List.length_set]; exact S.len,fun m b mo f1 f2=>?_⟩,g⟩
 ·have q:=S.nd m m' b hne f1 f2
  by_cases h1:m=n
  ·subst h1
   rw[hk m' (Ne.symm hne)]
   exact .inr (q.resolve_left notK)
  ·rw[hk m h1]
   by_cases h2:m'=n
   ·subst h2
    exact .inl (q.resolve_right notK)
   ·rw[hk m' h2]
    exact q
 by_cases hm:m=n
 ·subst hm
  have hb:b=a:=Option.some.inj (f1.symm.trans e1)
  subst hb
  rw[List.getElem?_set_self (by rw[← S.len]; exact(List.getElem?_eq_some_iff.mp e1).1)] at f2
  cases f2
  exact⟨hl,hs,nd,xs',aI,Paired.mapP r fun _ _ ⟨q1,q2,q3,v,q4,q5⟩=>⟨q1,q2,q3.grow g,v,q4.grow g,q5⟩⟩
 ·rw[hk m hm] at f2
  by_cases hb:b=a
  ·subst hb
   have q':=(S.nd m n b hm f1 e1).resolve_right notK
   rw[f2] at q'
   exact(S.obj m b mo f1 f2).grow g (.inr q')
  ·exact(S.obj m b mo f1 f2).grow g (.inl (ak hb))
end
section
variable{X:Cx}{pins:List (Addr×Obj)}{σ:St}{H:Hp}{s:Shared}{ρ:List Addr}{M:Mem}
theorem dI(I:Inv X pins σ H s):∀ (n:Nat) (d:D) (v:V) (u:Value),Rep X.K ρ H d v->aJ v u->cf n d=true->eD s.heap n d u:=by
 intro n
 induction n with
 | zero =>
  intro d v u r rv k
  cases r with
  | str x=>exact rv
  | int x=>exact rv
  | _=>cases k
 | succ n ih =>
  intro d v u r rv k
  cases r with
  | str x=>exact rv
  | int x=>exact rv
  | @tup a vs ds hq rr =>
   cases rv
   obtain⟨its,r2,p,hz⟩:=I.tuple hq
   have hk:∀ x∈ds,cf n x=true:=List.all_eq_true.mp (show ds.all (cf n)=true from k)
   refine⟨a,its.toArray,rfl,p,?_⟩
   rw[List.toList_toArray]
   clear p hq k hz
   induction r2 generalizing ds with
   | nil=>cases rr; exact .nil
   | cons q1 q2 i2 =>
    cases rr with
    | cons h1 t1=>exact .cons (ih _ _ _ h1 q1 (hk _ List.mem_cons_self)) (i2 t1 fun x hx=>hk x (List.mem_cons_of_mem _ hx))
  | _=>cases k
theorem gf(I:Inv X pins σ H s)(sm:Sim X.K ρ M H){n:Nat}{a:Addr}{kvs:List (D×D)}(e:ρ[n]?=some a)(hM:M[n]?=some (.dkt kvs)) :
  ∃ xs,H a=some (.ext (dX a xs))/\Paired (tJ X.K ρ H) kvs xs/\s.heap.DictOfH (bw X.prog X.w) a xs/\(a==sysModules)=false/\kvs.length<=sizeLine/\xs.length=kvs.length/\(kvs.map (·.1)).Nodup:=by
 obtain⟨h1,h2,h3,xs,hH,r⟩:=sm.obj _ _ _ e hM
 obtain⟨⟨o,es,e1,e2,e3,e4⟩,_⟩:=(show bW X.prog X.w H s.heap a (.ext (dX a xs)) from I.hok a _ hH)
 have ek:=fu r
 refine⟨xs,hH,r,⟨o,es,_,e1,e2,e3,e4,fun x hx=>?_,by rw[ek]; exact h3⟩,h2,h1,?_,h3⟩
 ·obtain⟨i,hi⟩:=List.getElem?_of_mem hx
  obtain⟨p,_,q1,q2,q3,_⟩:=cF r hi
  rw[← q1]
  exact dI I 8 _ _ _ q3 rfl q2
 ·have:=congrArg List.length ek
  rwa [List.length_map,List.length_map] at this
theorem pF(d:dX a xs P w h'):bW P w H' h' a (.ext (dX a xs)):=by
 obtain⟨o,es,e1,e2,e3,e4⟩:=d
 exact⟨⟨o,es,e1,e2,e3,e4⟩,⟨o,e1⟩,fun h1 h2 ⟨o,es,e1,e2,e3,e4⟩ k=>⟨o,es,k _ e1,e2,e3,e4⟩⟩
theorem zJ(I:Inv X pins σ H s)(hH:H a=some (.ext (dX a xs))):dX a xs X.prog X.w s.heap :=
 (show bW X.prog X.w H s.heap a (.ext (dX a xs)) from I.hok a _ hH).1
end
theorem setE(hu:(bw prog w).room A.in1)(kat:(bw prog w).is s.heap k b)
  (hm:s.heap.DictOfH (bw prog w) d xs) (hx:dX d xs prog w s.heap) (hz:xs.length<=sizeLine)
  (hQ:∀ h',dX d (storedH xs k b v) prog w h'->Heap.SameBut d s.heap h'->Q () { s with heap:=h',toks:=s.toks+(bw prog w).draws k }):wpAny (model prog w) A (setItem (.ref d) (.ref b) v) Q E s:=by
 have hT:=hm.typeIs
 obtain⟨_,_,_,_,_,_,_,his,hn⟩:=hm
 obtain⟨o,es,ho,hc,hd,he'⟩:=hx
 have he:es.toList=xs.map (entryOfKey (bw prog w)):=he'
 unfold setItem
 try with_reducible refine wpAny_holding ?_
 refine wpAny_bind (wpAny_sequenceKey hT (by decide) (wpAny_bind (wpAny_callSpecial?_slot (name:=Str.ofString "__setitem__") hT slot_dict_setitem (wpAny_call_entry slot_dict_setitem hT entry_dict_setitem ?_ (args_dict_setitem _ _ _)))))
 refine(show wpAny (model prog w) _ (Builtin.Dict.notOrdered "__setitem__" ⟨[.ref d,.ref b,v],[]⟩ >>= _) _ _ s from wpAny_bind (wpAny_notOrdered_dict hT ?_))
 refine(show wpAny (model prog w) _ (dictSet d (.ref b) v >>= _) _ _ s from wpAny_bind ?_)
 unfold dictSet
 try with_reducible refine wpAny_holding ?_
 refine wpAny_bind ((bw prog w).pyHash hu kat ?_)
 unfold dictSetHashed
 try with_reducible refine wpAny_holding ?_
 have hl:es.size=xs.length:=size_of_entries he
 refine wpAny_bind (wpAny_dictFind_heap (s:={ s with toks:=s.toks+(bw prog w).draws k }) hu kat ho hd he his hn (fun hno=>?_) fun j p hj=>?_)
 ·refine wpAny_bind (wpAny_rule (wpAny_updateDictKeys (hz:=by lia) (s:={ s with toks:=s.toks+(bw prog w).draws k }) ho hd (wpAny_pure ⟨.none,rfl,wpAny_pure (hQ _ ⟨_,es.push ⟨(bw prog w).hash k,.ref b,v⟩,Heap.get?_update_self _ ho (Obj.isFreed_of_dict (Obj.data_mapDictKeys hd _)),hc.mapDictKeys _,?_,?_⟩ (Heap.SameBut.update ..))⟩)))
  ·rw[Obj.data_mapDictKeys hd,storedH_new (atKey_none_of_get hno),List.length_append]; rfl
  ·rw[storedH_new (atKey_none_of_get hno)]
   rw[Array.toList_push,he,List.map_append]
   rfl
 ·refine wpAny_bind (wpAny_rule (wpAny_bind (wpAny_updateDict (s:={ s with toks:=s.toks+(bw prog w).draws k }) ho hd (wpAny_point (wpAny_pure ⟨.none,rfl,wpAny_pure (hQ _ ⟨_,es.modify j fun e=>{ e with val:=v },Heap.get?_update_self _ ho (Obj.isFreed_of_dict (Obj.data_mapDict hd _)),hc.mapDict _,?_,?_⟩ (Heap.SameBut.update ..))⟩)))))
  ·rw[Obj.data_mapDict hd,storedH_old (atKey_of_get hn hj),List.length_map]
  ·rw[storedH_old (atKey_of_get hn hj)]
   have q:=modify_map_putAt (entryOfKey (bw prog w)) (fun e:DictEntry=>{ e with val:=v }) k v (fun _ _=>rfl) hn hj
   rw[← he] at q
   obtain⟨l⟩:=es
   have q2:(Array.modify ⟨l⟩ j fun e:DictEntry=>{ e with val:=v }).toList=(xs.map (putAt k v)).map (entryOfKey (bw prog w)):=by simpa using q
   exact q2
section
variable{X:Cx}{o i value:Expr}{td ty tv:DTE}{pos pos':Pos}{k:Nat}
def pJ:DTE:=fun _ M Q=>Q (.ref M.length) (M++[.dkt []])
theorem EO:DE X (.Dict [] [] pos) pJ:=by
 intro pins s σ H R I ⟨S,M,ρ,Q,sm,sr,q,kk⟩
 have hf:H s.heap.objs.size=none:=I.hok.fresh (Nat.le_refl _)
 have hb:(s.heap.objs.size==sysModules)=false:=beq_eq_false_iff_ne.mpr (Ne.symm (Nat.ne_of_lt I.big))
 refine wpAny_Dict_empty ⟨.ref s.heap.objs.size,_,I.laid (a:=s.heap.objs.size) (o:=.ext (dX s.heap.objs.size [])) (t':=s.toks) (fun _ _ q=>Heap.get?_push_of_some _ q) (Nat.le_refl _) (pF ⟨_,#[],Heap.get?_push_size _ rfl,⟨rfl,rfl,rfl⟩,rfl,rfl⟩),rfl,?_⟩
 exact kk _ _ ⟨.ref M.length,M++[.dkt []],ρ++[s.heap.objs.size],sm.laidM (mo:=.dkt []) hf ⟨Nat.zero_le _,hb,List.nodup_nil,[],aI,.nil⟩,Grow.laidR hf,.ref sm.last,(show Q (.ref M.length) (M++[.dkt []]) from q)⟩
def lT(td ty:DTE):DTE:=fun S M Q=>td S M fun x M1=>ty S M1 fun y M2=>match x,y with
 | .ref n,.tup ks=>∃ kvs d,M2[n]?=some (.dkt kvs)/\cf 8 (.tup ks)=true/\bj kvs (.tup ks)=some d/\Q d M2
 | _,_=>False
theorem EQ(hr:Room k X.A)(ho:DE X o td)(hi:DE X i ty)(hs:Ca i):DE X (.Subscript o i pos) (lT td ty):=by
 intro pins s σ H R I ⟨S,M,ρ,Q,sm,sr,q,kk⟩
 have un:=hr.un
 refine uA PySem.F.slot_dict_getitem.lookup hs (thn (ho pins s σ H _ I ⟨S,M,ρ,_,sm,sr,q,fun v H' z=>z⟩) fun u s1 ⟨v,H1,I1,rv,x,M1,ρ1,sm1,g1,r1,q1⟩=>thn (hi pins s1 σ H1 _ I1 ⟨S,M1,ρ1,_,sm1,sr.grow g1,q1,fun v H' z=>z⟩) fun iv s2 ⟨w,H2,I2,rw',y,M2,ρ2,sm2,g2,r2,q2⟩=>?_)
 cases x with
 | ref n =>
  cases y with
  | tup ks =>
   obtain⟨kvs,d,hM,kd,hg,q3⟩:=q2
   obtain⟨a,rfl,hn⟩:=Rep.inv_ref r1
   obtain rfl:u=Value.ref a:=rv
   obtain⟨xs,hH,r,dd,hsm,hl,hx,_⟩:=gf I2 sm2 (aw g2.pre hn) hM
   have kat:=dI I2 8 _ _ _ r2 rw' kd
   rcases nl r (.tup ks) with ⟨z,_⟩ | ⟨d',p,v',e1,e2,e3,e4⟩
   ·rw[hg] at z; cases z
   ·rw[hg] at e1
    cases e1
    obtain⟨b,_,rfl,_⟩:=id kat
    refine⟨dd.typeIs,wpAny_getItem_heap (knd:=bw X.prog X.w) (k:=.tup ks) (by show X.A.units+1+8 < cLine; lia) kat dd e2 ⟨v',H2,I2.tok _,e4,kk _ _ ⟨d,M2,ρ2,sm2,g1.trans g2,e3,q3⟩⟩⟩
  | _=>exact q2.elim
 | _=>exact q2.elim
def pI(td ty tv:DTE):DTS:=fun E S M=>tv S M fun v M1=>td S M1 fun x M2=>ty S M2 fun y M3=>match x,y with
 | .ref n,.tup ks=>∃ kvs,M3[n]?=some (.dkt kvs)/\cf 8 (.tup ks)=true/\kvs.length < sizeLine/\E.nx S (M3.set n (.dkt (fh kvs (.tup ks) v)))
 | _,_=>False
theorem oP(h:(kvs.map (·.1)).Nodup):((fh kvs y v).map (·.1)).Nodup:=by
 unfold fh
 split
 ·rw[List.map_map]
  have:((fun x:D×D=>x.1) ∘ fun p:D×D=>if p.1=y then (p.1,v) else p)=fun x=>x.1:=by
   funext p
   show (if p.1=y then (p.1,v) else p).1=p.1
   split <;> rfl
  rw[this]; exact h
 ·rename_i q
  rw[List.map_append,List.map_singleton,List.nodup_append]
  refine⟨h,by simp,fun a ha b hb=>?_⟩
  rw[List.mem_singleton.mp hb]
  rintro rfl
  obtain⟨p,hp,e⟩:=List.mem_map.mp ha
  refine q ?_
  unfold bj
  rw[Option.isSome_map,List.find?_isSome]
  exact⟨p,hp,by simpa using e⟩
theorem Bv(hr:Room k X.A)(ho:DE X o td)(hi:DE X i ty)(hv:DE X value tv)(hs:swapsWith value (some (.Subscript o i pos')) pos.line X.env=pure false):DS X (.Assign [.Subscript o i pos'] value pos) (pI td ty tv):=by
 intro pins s σ H E I ⟨S,M,ρ,F,sm,sr,q,kk⟩
 have un:=hr.un
 refine wpAny_Assign_Subscript (thn (hv pins s σ H _ I ⟨S,M,ρ,_,sm,sr,q,fun v H' z=>z⟩) fun r s1 ⟨v,H1,I1,rv,dv,M1,ρ1,sm1,g1,r1,q1⟩=>thn (ho pins s1 σ H1 _ I1 ⟨S,M1,ρ1,_,sm1,sr.grow g1,q1,fun v H' z=>z⟩) fun u s2 ⟨vx,H2,I2,rx,x,M2,ρ2,sm2,g2,r2,q2⟩=>thn (hi pins s2 σ H2 _ I2 ⟨S,M2,ρ2,_,sm2,(sr.grow g1).grow g2,q2,fun v H' z=>z⟩) fun iv s3 ⟨vy,H3,I3,ry,y,M3,ρ3,sm3,g3,r3,q3⟩=>?_) hs
 cases x with
 | ref n =>
  cases y with
  | tup ks =>
   obtain⟨kvs,hM,kd,hl,q4⟩:=q3
   obtain⟨a,rfl,hn⟩:=Rep.inv_ref r2
   obtain rfl:u=Value.ref a:=rx
   have hn3:=aw g3.pre hn
   obtain⟨xs,hH,r,dd,hsm,_,hx,nd⟩:=gf I3 sm3 hn3 hM
   have kat:=dI I3 8 _ _ _ r3 ry kd
   obtain⟨b,_,rfl,_⟩:=id kat
   obtain⟨_,_,rfl,hq,rr⟩:=Rep.inv_tup r3
   cases ry
   have r':=zb r kd (.tup hq rr) ((r1.grow g2).grow g3) rv
   have pl:=qP (kvs:=kvs) (k:=.tup ks) (d:=dv)
   obtain⟨w1,w2⟩:=sm3.writeT hn3 hM hH (by have:=pl; lia) hsm (oP nd) r'
   refine setE (k:=.tup ks) (by show X.A.units+1+8 < cLine; lia) kat dd (zJ I3 hH) (by lia) fun h' dd' hsb=>?_
   have he:∃ q,h'.get? a=some q:=let ⟨q,_,hq,_⟩:=dd'; ⟨q,hq⟩
   exact⟨σ,_,BG I3 (by rw[hH]; exact True.intro) hsb he (pF dd'),kk.nx σ _ (SQ.trans ((g1.trans g2).trans g3) ⟨S,_,ρ3,w1,w2,(((sr.grow g1).grow g2).grow g3).grow w2,q4⟩)⟩
  | _=>exact q3.elim
 | _=>exact q3.elim
def dMt(r:Nat->DRA)(to:DTE)(t:DTA):DTE:=fun S M Q=>to S M fun x M1=>match x with
 | .ref n=>(∃ kvs,M1[n]?=some (.dkt kvs))/\t S M1 fun ds M2=>r n ds M2 Q
 | _=>False
variable{name:Str}{id:String}{e:Expr}{es:List Expr}{to:DTE}{t:DTA}{apos cpos:Pos}
theorem d_mt{r:Nat->DRA}(slot:Slot "dict" name id)(hty:typeOf (.builtin id)=pure (.type "method_descriptor"))(hm:MtR X id (sN X.K r))(ho:DE X o to)(ha:DA X (e::es) t)
  (hbase:attributeBase o name X.env (eval o X.env)=eval o X.env:=by rfl)
  (hfew:((backTo cpos (starEach (e::es) X.env)).all (fun x=>!x.1)&&(backToKw cpos (keywordEach [] X.env)).all (fun x=>x.1.isSome)
   && decide ((e::es).length+([]:List Keyword).length+(if ([]:List Keyword).isEmpty then 0 else 1) < 30))=true:=by rfl)
  (hline:(apos.endLine==cpos.line)=true:=by rfl) (hs:starEach (e::es) X.env=(false,eval e X.env)::starEach es X.env:=by rfl) (hplain:(backTo cpos (starEach es X.env)).any (·.1)=false:=by rfl) :
  DE X (.Call (.Attribute o name apos) (e::es) [] cpos) (dMt r to t):=by
 intro pins s σ H R I ⟨S,M,ρ,Q,sm,sr,q,kk⟩
 refine wpAny_Call_method_late hbase hfew hline rfl (thn (ho pins s σ H _ I ⟨S,M,ρ,_,sm,sr,q,fun v H' z=>z⟩) fun u s1 ⟨v,H1,I1,rv,x,M1,ρ1,sm1,g1,r1,q1⟩=>?_)
 cases r1 with
 | @ref n a hn =>
  cases rv
  obtain⟨⟨kvs,hM⟩,q1⟩:=(show (∃ kvs,M1[n]?=some (.dkt kvs))/\t S M1 _ from q1)
  obtain⟨xs,hH,r,dd,hsm,hl,hx,nd⟩:=gf I1 sm1 hn hM
  refine⟨"dict",id,PySem.F.plainAttrs_dict,slot,hty,dd.typeIs,fun b z=>?_,?_⟩
  ·cases z
   obtain⟨ob,_,_,h1,h2,_⟩:=dd
   exact⟨ob,h1,h2.2.1⟩
  ·have hA:=ha cpos pins s1 σ H1 _ I1 ⟨S,M1,ρ1,_,sm1,sr.grow g1,q1,fun vs H' z=>z⟩
   rw[hs] at hA ⊢
   refine Calls.callWith_builtin (by show (false||(backTo cpos (starEach es X.env)).any (·.1))=false; rw[hplain] <;> rfl) (Calls.evalArgs_plain ?_)
   exact thn hA fun us s2 ⟨vs,H2,I2,rvs,ds,M2,ρ2,sm2,g2,rr,q2⟩=>hm pins s2 σ H2 (.ref a) vs (.ref a) us R I2 rfl rvs ⟨n,a,ds,M2,ρ2,Q,rfl,aw g2.pre hn,sm2,rr,q2,fun v H' w=>kk v H' (VQ.trans (g1.trans g2) w)⟩
 | _=>exact q1.elim
def fQ(n:Nat):DRA:=fun ds M Q=>match ds with
 | [.tup ks,d]=>∃ kvs,M[n]?=some (.dkt kvs)/\cf 8 (.tup ks)=true/\Q ((bj kvs (.tup ks)).getD d) M
 | _=>False
theorem xL(hr:Room k X.A):MtR X "dict.get" (sN X.K fQ):=by
 intro pins s σ H x xs v us R I rx rs ⟨n,a,ds,M,ρ,Q,ez,hn,sm,rr,q,kk⟩
 have un:=hr.un
 unfold fQ at q
 split at q
 ·rename_i ks d
  obtain⟨kvs,hM,kd,q⟩:=q
  first | have hzz:=Reps.inv_cons rr | have hzz:=ar.inv_cons rr
  clear rr
  obtain⟨_,_,rfl,r1,rr⟩:=hzz
  first | have hzz:=Reps.inv_cons rr | have hzz:=ar.inv_cons rr
  clear rr
  obtain⟨_,_,rfl,r2,rr⟩:=hzz
  cases rr
  obtain⟨u1,u2,rfl,e1,e2⟩:=ar.two rs
  subst ez
  cases rx
  obtain⟨ys,hH,r,dd,hsm,hl,hx,nd⟩:=gf I sm hn hM
  have kat:=dI I 8 _ _ _ r1 e1 kd
  obtain⟨b,_,rfl,_⟩:=id kat
  refine call_meetsIn PySem.F.slot_dict_get dd.typeIs PySem.F.entry_dict_get (PySem.F.args_dict_get_3 _ _ _) (meetsH_dict_get_default (bw X.prog X.w) a b hsm u2) ⟨by show X.A.units+1+8 < cLine; lia,.tup ks,ys,kat,dd,?_⟩
  rcases nl r (.tup ks) with ⟨z1,z2⟩ | ⟨d',p,v',z1,z2,z3,z4⟩
  ·rw[z2]
   rw[z1] at q
   exact⟨_,H,I.tok _,e2,kk _ _ ⟨d,M,ρ,sm,.refl,r2,q⟩⟩
  ·rw[z2]
   rw[z1] at q
   exact⟨_,H,I.tok _,z4,kk _ _ ⟨d',M,ρ,sm,.refl,z3,q⟩⟩
 ·exact q.elim
end
end L2
set_option maxRecDepth 100000
namespace L2
open PySem PySem.Spec PyProof.Rows DL PySem.W
def cK(h:Heap)(d:Addr)(es:Array DictEntry)(ep:Nat):Prop:=∃ o,h.get? d=some o/\o.ExactDict/\o.data=.dict es ep
theorem cK.ty{s:Shared}{d:Addr}{es:Array DictEntry}{ep:Nat}(x:cK s.heap d es ep):s.TypeIs (.ref d) "dict":=by
 obtain⟨o,h1,h2,_⟩:=x
 exact⟨o,h1,h2.1⟩
theorem cK.lt(x:cK h d es ep):d < h.objs.size:=by
 obtain⟨o,h1,_⟩:=x
 exact Heap.lt_size h1
theorem cK.to(x:cK h d es ep)(k:∀ o,h.get? d=some o->h'.get? d=some o):cK h' d es ep:=by
 obtain⟨o,h1,h2⟩:=x
 exact⟨o,k o h1,h2⟩
section
variable{prog:Program}{w:World}{A:Around}{E:Value->Shared->Prop}{s:Shared}{d:Addr}{es:Array DictEntry}{ep:Nat}
theorem yq{Q:Value->Shared->Prop}(hd:(d==sysModules)=false)(hm:cK s.heap d es ep)
  (hQ:Q (.ref s.heap.objs.size) { s with heap:=s.heap.push { cls:=.type "dict_keyiterator",data:=.fields #[.ref d,.int 0 0,.int es.size 0,.int ep 0] } }) :
  wpAny (model prog w) A (pyIter (.ref d)) Q E s:=by
 have hT:=hm.ty
 obtain⟨o,h1,h2,h3⟩:=hm
 refine wpAny_pyIter_slot hT F.slot_dict_iter (wpAny_call_entry F.slot_dict_iter hT F.entry_dict_iter ?_ (F.args_dict_iter_1 _))
 unfold Builtin.«dict.__iter__»
 refine wpAny_bind ?_
 unfold Builtin.Dict.dictSlotNone
 refine wpAny_bind (wpAny_notOrdered_dict hT (wpAny_pure ?_))
 refine(show wpAny (model prog w) _ (Builtin.Dict.showsAll d >>= _) _ _ s from ?_)
 unfold Builtin.Dict.showsAll
 rw[hd]
 refine wpAny_bind (wpAny_pure (wpAny_bind (wpAny_dictEntries h1 h3 (wpAny_bind (wpAny_dictEpoch h1 h3 ?_)))))
 exact wpAny_bind (wpAny_newObj_type (wpAny_pure ⟨_,rfl,"dict_keyiterator",_,⟨_,Heap.get?_push_size _ rfl,rfl⟩,F.slot_dict_keyiterator_next.lookup,by simpa [rawInt] using hQ⟩))
theorem yp(hit:s.heap.IsKeyIter it d i es.size ep)(hm:cK s.heap d es ep)(hi:i < es.size)
  (hQ:∀ h',h'.IsKeyIter it d (i+1) es.size ep->Heap.SameBut it s.heap h'->Q (some es[i].key) { s with heap:=h' }):wpAny (model prog w) A (pyNext (.ref it)) Q E s:=by
 obtain⟨o,ho,hc,hd⟩:=id hit
 obtain⟨od,k1,k2,k3⟩:=id hm
 unfold pyNext
 refine wpAny_bind (wpAny_attempt (wpAny_callSpecial?_slot (name:=Str.ofString "__next__") hit.typeIs F.slot_dict_keyiterator_next (wpAny_call_entry F.slot_dict_keyiterator_next hit.typeIs F.entry_dict_keyiterator_next ?_ (F.args_dict_keyiterator_next_1 _))))
 refine wpAny_bind (wpAny_pure (wpAny_bind (wpAny_bind ?_)))
 first | refine wpAny_bind (wpAny_typeNameOfWhole_keyiter hit.typeIs (wpAny_pure (wpAny_bind (wpAny_fieldsOf ho hd ?_)))) | refine wpAny_bind (wpAny_typeNameOf_keyiter hit.typeIs (wpAny_pure (wpAny_bind (wpAny_fieldsOf ho hd ?_))))
 simp only[show Builtin.Dict_items.ownsTuple "dict_keyiterator" = false by decide,Bool.false_eq_true,if_false]
 refine(show wpAny (model prog w) _ (if (Value.ref d==Value.none)=true then _ else _) _ _ s from ?_)
 rw[if_neg (by exact Bool.false_ne_true)]
 refine wpAny_bind (wpAny_pure (wpAny_bind (wpAny_dictEntries k1 k3 ?_)))
 rw[if_neg (by simp)]
 refine wpAny_bind (wpAny_pure (wpAny_bind (wpAny_dictEpoch k1 k3 ?_)))
 rw[if_neg (by simp)]
 refine wpAny_pure ?_
 simp only[show ¬ ((i:Int) < 0) from by lia,if_false,Int.toNat_natCast,Array.getElem?_eq_getElem hi]
 refine wpAny_bind ?_
 first | refine wpAny_bind (wpAny_typeNameOfWhole_keyiter hit.typeIs (wpAny_pure ?_)) | refine wpAny_bind (wpAny_typeNameOf_keyiter hit.typeIs (wpAny_pure ?_))
 refine wpAny_bind (wpAny_isOneOf_keyiter hit.typeIs ?_)
 refine(show wpAny (model prog w) _ (setField (.ref it) 1 (rawInt ((i:Int)+1)) >>= _) _ _ s from wpAny_bind (wpAny_setField ho hd (by simp) ?_))
 have hit':(s.heap.update it (Obj.mapFields (·.setIfInBounds 1 (rawInt ((i:Int)+1))))).IsKeyIter it d (i+1) es.size ep:=by
  refine⟨_,Heap.get?_update_self _ ho (Obj.isFreed_of_fields (Obj.data_mapFields hd _)),(Obj.cls_mapFields ..).trans hc,?_⟩
  rw[Obj.data_mapFields hd]; simp[rawInt]
 refine wpAny_bind (wpAny_holding (wpAny_bind (wpAny_isOneOf_keyiter (s:={ s with heap:=s.heap.update it (Obj.mapFields (·.setIfInBounds 1 (rawInt ((i:Int)+1)))) }) hit'.typeIs ?_)))
 refine(show wpAny (model prog w) _ (pure es[i].key) _ _ _ from ?_)
 exact wpAny_pure (wpAny_pure ⟨_,rfl,wpAny_pure (hQ _ hit' (Heap.SameBut.update ..))⟩)
theorem Br(hh:A.handled=none)(hit:s.heap.IsKeyIter it d es.size es.size ep)(hm:cK s.heap d es ep)
  (hQ:∀ h',Heap.ExtBut it s.heap h'->Q none { s with heap:=h' }):wpAny (model prog w) A (pyNext (.ref it)) Q E s:=by
 obtain⟨o,ho,hc,hd⟩:=id hit
 obtain⟨od,k1,k2,k3⟩:=id hm
 unfold pyNext
 refine wpAny_bind (wpAny_attempt (wpAny_callSpecial?_slot (name:=Str.ofString "__next__") hit.typeIs F.slot_dict_keyiterator_next (wpAny_call_entry F.slot_dict_keyiterator_next hit.typeIs F.entry_dict_keyiterator_next ?_ (F.args_dict_keyiterator_next_1 _))))
 refine wpAny_bind (wpAny_pure (wpAny_bind (wpAny_bind ?_)))
 first | refine wpAny_bind (wpAny_typeNameOfWhole_keyiter hit.typeIs (wpAny_pure (wpAny_bind (wpAny_fieldsOf ho hd ?_)))) | refine wpAny_bind (wpAny_typeNameOf_keyiter hit.typeIs (wpAny_pure (wpAny_bind (wpAny_fieldsOf ho hd ?_))))
 simp only[show Builtin.Dict_items.ownsTuple "dict_keyiterator" = false by decide,Bool.false_eq_true,if_false]
 refine(show wpAny (model prog w) _ (if (Value.ref d==Value.none)=true then _ else _) _ _ s from ?_)
 rw[if_neg (by exact Bool.false_ne_true)]
 refine wpAny_bind (wpAny_pure (wpAny_bind (wpAny_dictEntries k1 k3 ?_)))
 rw[if_neg (by simp)]
 refine wpAny_bind (wpAny_pure (wpAny_bind (wpAny_dictEpoch k1 k3 ?_)))
 rw[if_neg (by simp)]
 refine wpAny_pure ?_
 simp only[show ¬ ((es.size:Int) < 0) from by lia,if_false,Int.toNat_natCast,Array.getElem?_eq_none (Nat.le_refl es.size)]
 refine wpAny_bind ?_
 first | refine wpAny_bind (wpAny_typeNameOfWhole_keyiter hit.typeIs (wpAny_pure ?_)) | refine wpAny_bind (wpAny_typeNameOf_keyiter hit.typeIs (wpAny_pure ?_))
 refine(show wpAny (model prog w) _ (setField (.ref it) 0 .none >>= _) _ _ s from wpAny_bind (wpAny_setField ho hd (by simp) ?_))
 refine(show wpAny (model prog w) _ (newExc (.type "StopIteration") [] >>= _) _ _ _ from wpAny_bind ?_)
 simp only[newExc,newTuple]
 refine wpAny_bind (wpAny_newObj_type ?_ (by size_fits))
 refine wpAny_bind (m:=firstArgMember _ _) (wpAny_of_eq (a:=Value.none) (by first | rfl | (simp only[firstArgMember]; rfl)) ?_)
 refine wpAny_newObj_type ?_ (by size_fits)
 simp only[raiseNew]
 refine wpAny_bind (wpAny_handled ?_)
 rw[show A.in1.handled=none from hh]
 refine wpAny_bind (wpAny_pure (wpAny_throw ?_))
 refine wpAny_bind (wpAny_isInstance (b:=true) (T:="StopIteration") ⟨_,Heap.get?_push_size _ rfl,rfl⟩ isSubtype_stop ?_)
 exact wpAny_pure (hQ _ (((Heap.SameBut.update ..).extBut.push _).push _))
end
end L2
set_option maxRecDepth 100000
namespace L2
open PySem PySem.Spec PyProof.Rows DL PySem.W
def Ite(a:Addr)(n:Nat):It :=
 ⟨fun i H=>∃ xs,H a=some (.ext (dX a xs))/\xs.length=n/\i < n,fun i H v H'=>H'=H/\∀ xs,H a=some (.ext (dX a xs))->∃ x,xs[i]?=some x/\v=.ref x.2.1,fun i H=>(∃ xs,H a=some (.ext (dX a xs))/\xs.length=n)/\i=n⟩
section
variable{X:Cx}{pins:List (Addr×Obj)}{σ:St}{H:Hp}{s:Shared}
theorem gc(I:Inv X pins σ H s)(hH:H a=some (.ext (dX a xs))):∃ es,cK s.heap a es xs.length/\es.size=xs.length/\∀ (i:Nat) x,xs[i]?=some x->∃ e,es[i]?=some e/\e.key=.ref x.2.1/\e.val=x.2.2:=by
 obtain⟨o,es,h1,h2,h3,h4⟩:=zJ I hH
 refine⟨es,⟨o,h1,h2,h3⟩,?_,fun i x hx=>?_⟩
 ·have:=congrArg List.length h4
  rwa [Array.length_toList,List.length_map] at this
 ·refine⟨⟨hkD X.w 8 x.1,.ref x.2.1,x.2.2⟩,?_,rfl,rfl⟩
  rw[← Array.getElem?_toList,h4,List.getElem?_map,hx]
  rfl
theorem rL(x:cK h a es ep)(y:cK h a es' ep'):es=es'/\ep=ep':=by
 obtain⟨o,h1,_,h3⟩:=x
 obtain⟨o',h1',_,h3'⟩:=y
 obtain rfl:o=o':=Option.some.inj (h1.symm.trans h1')
 rw[h3] at h3'
 injection h3' with e1 e2
 exact⟨e1,e2⟩
end
theorem xa{P:Program}{w:World}{K:PySem.W.Frag}{tg:Expr}(a it:Addr)(n:Nat):Turn P w K tg (Ite a n) [it] it (fun i h=>h.IsKeyIter it a i n n) where
 mem:=by simp
 obj:=fun i h st b hb=>by
  obtain rfl:b=it:=by simpa using hb
  obtain⟨o,e,c,d⟩:=st
  exact⟨o,e,fun v z=>by rw[d] at z; cases z⟩
 keep:=fun i h h' st k=>st.at fun o e=>k it (by simp) o e
 item:=by
  intro X hP hw hK hc i pins s σ H E I hf st hg
  subst hP hw hK
  obtain⟨xs,hH,rfl,hi⟩:=hg
  obtain⟨es,em,el,eg⟩:=gc I hH
  obtain⟨e,e1,e2,e3⟩:=eg i xs[i] (List.getElem?_eq_getElem hi)
  obtain⟨f0,f1,f2,f3,f4,f5⟩:=hf it (by simp)
  have hi':i < es.size:=by lia
  have ee:es[i]=e:=by
   rw[Array.getElem?_eq_getElem hi'] at e1
   exact Option.some.inj e1
  rw[← el] at em st
  refine yp st em hi' fun h' st' sb=>?_
  rw[ee,e2]
  have I1:Inv X pins σ H { s with heap:=h' }:=I.turned (t':=s.toks) (fun b o hb e=>(sb.2 b hb).trans e) f0 f1 f3 f4 f5
  obtain⟨o,q1,q2,q3⟩:=id st'
  refine⟨_,rfl,sX (s:={ s with heap:=h' }) q1 q2 q3 (by decide) ⟨.ref xs[i].2.1,H,I1,rfl,⟨rfl,fun ys hy=>?_⟩,by rw[el] at st'; exact st',fun b hb=>(hf b hb).1⟩⟩
  obtain⟨es',em',el',eg'⟩:=gc I hy
  obtain⟨rfl,ep⟩:=rL em em'
  have hj:i < ys.length:=by lia
  obtain⟨e',z1,z2,_⟩:=eg' i ys[i] (List.getElem?_eq_getElem hj)
  rw[Array.getElem?_eq_getElem hi',ee] at z1
  obtain rfl:=Option.some.inj z1
  rw[e2] at z2
  injection z2 with z2
  exact⟨ys[i],List.getElem?_eq_getElem hj,by rw[z2]⟩
 done:=by
  intro X hP hw hK hc i pins s σ H E I hf st hg
  subst hP hw hK
  obtain⟨⟨xs,hH,rfl⟩,rfl⟩:=hg
  obtain⟨es,em,el,eg⟩:=gc I hH
  obtain⟨f0,f1,f2,f3,f4,f5⟩:=hf it (by simp)
  rw[← el] at em st
  exact Br (I.ok.hd hc) st em fun h' he=>⟨rfl,I.turned (t':=s.toks) (fun b o hb e=>he b o hb e) f0 f1 f3 f4 f5⟩
 self:=fun A i s Q E st hQ=>wpAny_pyIter_keyiter st hQ
section
variable{X:Cx}{tg:Expr}
def rQ(tl:DTE):DTI:=fun S M R=>tl S M fun d M1=>match d with
 | .ref n=>∃ kvs,M1[n]?=some (.dkt kvs)/\(kvs.length<=sizeLine->R ⟨kvs.map (·.1),fun M=>M[n]?=some (.dkt kvs)⟩ M1)
 | _=>False
theorem yx{l:Expr}{tl:DTE}(hl:DE X l tl):DI X tg l (rQ tl):=by
 intro pins s σ H R I h
 obtain⟨S,M,ρ,Q,sm,sr,q,k⟩:=h
 refine thn (hl pins s σ H _ I ⟨S,M,ρ,_,sm,sr,q,fun v H' w=>w⟩) fun u s1 ⟨v,H1,I1,rv,d,M1,ρ1,sm1,g1,r1,q1⟩=>?_
 cases r1 with
 | @ref n a hn =>
  cases rv
  obtain⟨kvs,hM,q2⟩:=(show ∃ kvs,M1[n]?=some (.dkt kvs)/\(kvs.length<=sizeLine->Q ⟨kvs.map (·.1),fun M=>M[n]?=some (.dkt kvs)⟩ M1) from q1)
  obtain⟨xs,hH,r,dd,hsm,hz,hx,nd⟩:=gf I1 sm1 hn hM
  obtain⟨es,em,el,_⟩:=gc I1 hH
  refine yq hsm em ?_
  rw[el]
  refine⟨s1.heap.objs.size,[s1.heap.objs.size],_,_,H1,rfl,I1.kept (t':=s1.toks) fun b o e=>Heap.get?_push_of_some _ e,xa a _ xs.length,⟨_,Heap.get?_push_size _ rfl,rfl,rfl⟩,fun b hb=>?_,k _ H1 ⟨⟨kvs.map (·.1),fun M=>M[n]?=some (.dkt kvs)⟩,M1,ρ1,sm1,g1,?_,q2 hz⟩⟩
  ·obtain rfl:b=s1.heap.objs.size:=by simpa using hb
   exact I1.fpOk (Nat.le_refl _) (I1.hok.fresh (Nat.le_refl _))
  ·refine⟨fun i ρ' M' H' s' g ok hi=>?_,fun i ρ' M' H' x H2 s' g ok hi y=>?_,fun ρ' M' H' s' g ok=>?_⟩
   ·obtain⟨_,_,_,ys,hy,ry⟩:=s'.obj _ _ _ (aw g.pre hn) ok
    have ly:ys.length=kvs.length:=by have:=congrArg List.length (fu ry); rwa [List.length_map,List.length_map] at this
    exact⟨ys,hy,by lia,by rw[List.length_map] at hi; lia⟩
   ·obtain⟨rfl,hall⟩:=y
    obtain⟨_,_,_,ys,hy,ry⟩:=s'.obj _ _ _ (aw g.pre hn) ok
    obtain⟨z,hz1,rfl⟩:=hall ys hy
    obtain⟨p,hp,_,_,rp,_⟩:=cF ry hz1
    exact⟨p.1,ρ',by rw[List.getElem?_map,hp]; rfl,s',.refl,rp⟩
   ·obtain⟨_,_,_,ys,hy,ry⟩:=s'.obj _ _ _ (aw g.pre hn) ok
    have ly:ys.length=kvs.length:=by have:=congrArg List.length (fu ry); rwa [List.length_map,List.length_map] at this
    exact⟨⟨ys,hy,by lia⟩,by rw[List.length_map]; lia⟩
 | _=>exact q1.elim
end
end L2
set_option maxRecDepth 100000
namespace L2
open PySem PySem.Spec PyProof.Rows DL PySem.W
section
variable{prog:Program}{w:World}{A:Around}{E:Value->Shared->Prop}{s:Shared}{d:Addr}{es:Array DictEntry}{ep:Nat}
theorem kF(hd:(d==sysModules)=false)(hm:cK s.heap d es ep)(hQ:Q (.ref s.heap.objs.size) { s with heap:=s.heap.push { cls:=.type "dict_values",data:=.fields #[.ref d] } }) :
  wpAny (model prog w) A (call (.builtin "dict.values") [.ref d]) Q E s:=by
 refine call_meetsIn PySem.F.slot_dict_values hm.ty PySem.F.entry_dict_values (PySem.F.args_dict_values_1 _) (S:=fun _ R s'=>s'=s/\R (.ok (.ret (.ref s.heap.objs.size))) { s with heap:=s.heap.push { cls:=.type "dict_values",data:=.fields #[.ref d] } }) (.of_wp ?_) ⟨rfl,hQ⟩
 rintro A R s' ⟨rfl,h⟩
 refine wpAny_bind ?_
 unfold Builtin.Dict.noArgs
 refine wpAny_bind (wpAny_notOrdered_dict hm.ty (wpAny_pure ?_))
 refine(show wpAny (model prog w) _ (Builtin.Dict.showsAll d >>= _) _ _ s' from ?_)
 unfold Builtin.Dict.showsAll
 rw[hd]
 exact wpAny_bind (wpAny_pure (wpAny_bind (wpAny_newObj_type (wpAny_pure ⟨_,rfl,h⟩))))
theorem nJ(hv:s.heap.IsValuesView v d)(hm:cK s.heap d es ep)
  (hQ:Q (.ref s.heap.objs.size) { s with heap:=s.heap.push { cls:=.type "dict_valueiterator",data:=.fields #[.ref d,.int 0 0,.int es.size 0,.int ep 0] } }):wpAny (model prog w) A (pyIter (.ref v)) Q E s:=by
 obtain⟨ov,v1,v2,v3⟩:=id hv
 obtain⟨o,h1,h2,h3⟩:=hm
 refine wpAny_pyIter_slot hv.typeIs F.slot_dict_values_iter (wpAny_call_entry F.slot_dict_values_iter hv.typeIs F.entry_dict_values_iter ?_ (F.args_dict_values_iter_1 _))
 unfold Builtin.«dict_values.__iter__»
 refine wpAny_bind (wpAny_pure (wpAny_bind ?_))
 unfold Builtin.Dict_items.dictOf
 refine wpAny_bind (wpAny_field v1 v3 (x:=.ref d) rfl (wpAny_pure (wpAny_bind ?_)))
 unfold Builtin.Dict_items.newIterator
 refine wpAny_bind (wpAny_dictEntries h1 h3 (wpAny_bind (wpAny_dictEpoch h1 h3 ?_)))
 simp only[show Builtin.Dict_items.ownsTuple "dict_valueiterator" = false by decide,Bool.false_eq_true,if_false]
 exact wpAny_newObj_type (wpAny_pure ⟨_,rfl,"dict_valueiterator",_,⟨_,Heap.get?_push_size _ rfl,rfl⟩,F.slot_dict_valueiterator_next.lookup,by simpa [rawInt] using hQ⟩)
theorem nI(hit:s.heap.IsValIter it d i es.size ep)(hm:cK s.heap d es ep)(hi:i < es.size)
  (hQ:∀ h',h'.IsValIter it d (i+1) es.size ep->Heap.SameBut it s.heap h'->Q (some es[i].val) { s with heap:=h' }):wpAny (model prog w) A (pyNext (.ref it)) Q E s:=by
 obtain⟨o,ho,hc,hd⟩:=id hit
 obtain⟨od,k1,k2,k3⟩:=id hm
 unfold pyNext
 refine wpAny_bind (wpAny_attempt (wpAny_callSpecial?_slot (name:=Str.ofString "__next__") hit.typeIs F.slot_dict_valueiterator_next (wpAny_call_entry F.slot_dict_valueiterator_next hit.typeIs F.entry_dict_valueiterator_next ?_ (F.args_dict_valueiterator_next_1 _))))
 refine wpAny_bind (wpAny_pure (wpAny_bind (wpAny_bind ?_)))
 first | refine wpAny_bind (wpAny_typeNameOfWhole_valiter hit.typeIs (wpAny_pure (wpAny_bind (wpAny_fieldsOf ho hd ?_)))) | refine wpAny_bind (wpAny_typeNameOf_valiter hit.typeIs (wpAny_pure (wpAny_bind (wpAny_fieldsOf ho hd ?_))))
 simp only[show Builtin.Dict_items.ownsTuple "dict_valueiterator" = false by decide,Bool.false_eq_true,if_false]
 refine(show wpAny (model prog w) _ (if (Value.ref d==Value.none)=true then _ else _) _ _ s from ?_)
 rw[if_neg (by exact Bool.false_ne_true)]
 refine wpAny_bind (wpAny_pure (wpAny_bind (wpAny_dictEntries k1 k3 ?_)))
 rw[if_neg (by simp)]
 refine wpAny_bind (wpAny_pure (wpAny_bind (wpAny_dictEpoch k1 k3 ?_)))
 rw[if_neg (by simp)]
 refine wpAny_pure ?_
 simp only[show ¬ ((i:Int) < 0) from by lia,if_false,Int.toNat_natCast,Array.getElem?_eq_getElem hi]
 refine wpAny_bind ?_
 first | refine wpAny_bind (wpAny_typeNameOfWhole_valiter hit.typeIs (wpAny_pure ?_)) | refine wpAny_bind (wpAny_typeNameOf_valiter hit.typeIs (wpAny_pure ?_))
 refine wpAny_bind (wpAny_isOneOf_valiter hit.typeIs ?_)
 refine(show wpAny (model prog w) _ (setField (.ref it) 1 (rawInt ((i:Int)+1)) >>= _) _ _ s from wpAny_bind (wpAny_setField ho hd (by simp) ?_))
 have hit':(s.heap.update it (Obj.mapFields (·.setIfInBounds 1 (rawInt ((i:Int)+1))))).IsValIter it d (i+1) es.size ep:=by
  refine⟨_,Heap.get?_update_self _ ho (Obj.isFreed_of_fields (Obj.data_mapFields hd _)),(Obj.cls_mapFields ..).trans hc,?_⟩
  rw[Obj.data_mapFields hd]; simp[rawInt]
 refine wpAny_bind (wpAny_holding (wpAny_bind (wpAny_isOneOf_valiter (s:={ s with heap:=s.heap.update it (Obj.mapFields (·.setIfInBounds 1 (rawInt ((i:Int)+1)))) }) hit'.typeIs (wpAny_bind (wpAny_isOneOf_valiter (s:={ s with heap:=s.heap.update it (Obj.mapFields (·.setIfInBounds 1 (rawInt ((i:Int)+1)))) }) hit'.typeIs ?_)))))
 refine(show wpAny (model prog w) _ (pure es[i].val) _ _ _ from ?_)
 exact wpAny_pure (wpAny_pure ⟨_,rfl,wpAny_pure (hQ _ hit' (Heap.SameBut.update ..))⟩)
theorem rK(hh:A.handled=none)(hit:s.heap.IsValIter it d es.size es.size ep)(hm:cK s.heap d es ep)
  (hQ:∀ h',Heap.ExtBut it s.heap h'->Q none { s with heap:=h' }):wpAny (model prog w) A (pyNext (.ref it)) Q E s:=by
 obtain⟨o,ho,hc,hd⟩:=id hit
 obtain⟨od,k1,k2,k3⟩:=id hm
 unfold pyNext
 refine wpAny_bind (wpAny_attempt (wpAny_callSpecial?_slot (name:=Str.ofString "__next__") hit.typeIs F.slot_dict_valueiterator_next (wpAny_call_entry F.slot_dict_valueiterator_next hit.typeIs F.entry_dict_valueiterator_next ?_ (F.args_dict_valueiterator_next_1 _))))
 refine wpAny_bind (wpAny_pure (wpAny_bind (wpAny_bind ?_)))
 first | refine wpAny_bind (wpAny_typeNameOfWhole_valiter hit.typeIs (wpAny_pure (wpAny_bind (wpAny_fieldsOf ho hd ?_)))) | refine wpAny_bind (wpAny_typeNameOf_valiter hit.typeIs (wpAny_pure (wpAny_bind (wpAny_fieldsOf ho hd ?_))))
 simp only[show Builtin.Dict_items.ownsTuple "dict_valueiterator" = false by decide,Bool.false_eq_true,if_false]
 refine(show wpAny (model prog w) _ (if (Value.ref d==Value.none)=true then _ else _) _ _ s from ?_)
 rw[if_neg (by exact Bool.false_ne_true)]
 refine wpAny_bind (wpAny_pure (wpAny_bind (wpAny_dictEntries k1 k3 ?_)))
 rw[if_neg (by simp)]
 refine wpAny_bind (wpAny_pure (wpAny_bind (wpAny_dictEpoch k1 k3 ?_)))
 rw[if_neg (by simp)]
 refine wpAny_pure ?_
 simp only[show ¬ ((es.size:Int) < 0) from by lia,if_false,Int.toNat_natCast,Array.getElem?_eq_none (Nat.le_refl es.size)]
 refine wpAny_bind ?_
 first | refine wpAny_bind (wpAny_typeNameOfWhole_valiter hit.typeIs (wpAny_pure ?_)) | refine wpAny_bind (wpAny_typeNameOf_valiter hit.typeIs (wpAny_pure ?_))
 refine(show wpAny (model prog w) _ (setField (.ref it) 0 .none >>= _) _ _ s from wpAny_bind (wpAny_setField ho hd (by simp) ?_))
 refine(show wpAny (model prog w) _ (newExc (.type "StopIteration") [] >>= _) _ _ _ from wpAny_bind ?_)
 simp only[newExc,newTuple]
 refine wpAny_bind (wpAny_newObj_type ?_ (by size_fits))
 refine wpAny_bind (m:=firstArgMember _ _) (wpAny_of_eq (a:=Value.none) (by first | rfl | (simp only[firstArgMember]; rfl)) ?_)
 refine wpAny_newObj_type ?_ (by size_fits)
 simp only[raiseNew]
 refine wpAny_bind (wpAny_handled ?_)
 rw[show A.in1.handled=none from hh]
 refine wpAny_bind (wpAny_pure (wpAny_throw ?_))
 refine wpAny_bind (wpAny_isInstance (b:=true) (T:="StopIteration") ⟨_,Heap.get?_push_size _ rfl,rfl⟩ isSubtype_stop ?_)
 exact wpAny_pure (hQ _ (((Heap.SameBut.update ..).extBut.push _).push _))
theorem sZ(hh:A.handled=none)(I:Addr)(hne:d≠I):Walks prog w A I [I,d] [I] es.size (fun i v=>∃ e,es[i]?=some e/\v=e.val) (fun i h=>h.IsValIter I d i es.size ep/\cK h d es ep) where
 sub:=fun b hb=>by simp at hb; simp[hb]
 frame:=fun _ _ _ st hk=>⟨st.1.at fun o e=>hk I (by simp) o e,st.2.to fun o e=>hk d (by simp) o e⟩
 item:=fun i s Q E hi st hQ=>nI st.1 st.2 hi fun h' hit' hs'=>hQ _ h' s.toks ⟨es[i],by simp[hi],rfl⟩ ⟨hit',st.2.to fun o e=>hs'.extBut d o hne e⟩ fun b o hb e=>hs'.extBut b o (fun h=>hb (by simp[h])) e
 done:=fun s Q E st hQ=>rK hh st.1 st.2 fun h' he'=>hQ h' s.toks fun b o hb e=>he' b o (fun h=>hb (by simp[h])) e
 self:=fun _ _ _ _ st hQ=>wpAny_pyIter_valiter st.1 hQ
end
def Itv(a:Addr)(n:Nat):It :=
 ⟨fun i H=>∃ xs x v,H a=some (.ext (dX a xs))/\xs.length=n/\xs[i]?=some x/\aJ v x.2.2,fun i H v H'=>H'=H/\∀ xs,H a=some (.ext (dX a xs))->∃ x,xs[i]?=some x/\aJ v x.2.2,fun i H=>(∃ xs,H a=some (.ext (dX a xs))/\xs.length=n)/\i=n⟩
theorem tS{P:Program}{w:World}{K:PySem.W.Frag}{tg:Expr}(a it:Addr)(n:Nat):Turn P w K tg (Itv a n) [it] it (fun i h=>h.IsValIter it a i n n) where
 mem:=by simp
 obj:=fun i h st b hb=>by
  obtain rfl:b=it:=by simpa using hb
  obtain⟨o,e,c,d⟩:=st
  exact⟨o,e,fun v z=>by rw[d] at z; cases z⟩
 keep:=fun i h h' st k=>st.at fun o e=>k it (by simp) o e
 item:=by
  intro X hP hw hK hc i pins s σ H E I hf st hg
  subst hP hw hK
  obtain⟨xs,x,v,hH,rfl,hx,hv⟩:=hg
  obtain⟨es,em,el,eg⟩:=gc I hH
  obtain⟨e,e1,e2,e3⟩:=eg i x hx
  obtain⟨f0,f1,f2,f3,f4,f5⟩:=hf it (by simp)
  have hi':i < es.size:=(Array.getElem?_eq_some_iff.mp e1).1
  have ee:es[i]=e:=by
   rw[Array.getElem?_eq_getElem hi'] at e1
   exact Option.some.inj e1
  rw[← el] at em st
  refine nI st em hi' fun h' st' sb=>?_
  rw[ee,e3]
  have I1:Inv X pins σ H { s with heap:=h' }:=I.turned (t':=s.toks) (fun b o hb e=>(sb.2 b hb).trans e) f0 f1 f3 f4 f5
  obtain⟨o,q1,q2,q3⟩:=id st'
  refine⟨_,rfl,sX (s:={ s with heap:=h' }) q1 q2 q3 (by decide) ⟨v,H,I1,hv,⟨rfl,fun ys hy=>?_⟩,by rw[el] at st'; exact st',fun b hb=>(hf b hb).1⟩⟩
  obtain⟨es',em',el',eg'⟩:=gc I hy
  obtain⟨rfl,ep⟩:=rL em em'
  have hj:i < ys.length:=by lia
  obtain⟨e',z1,_,z2⟩:=eg' i ys[i] (List.getElem?_eq_getElem hj)
  rw[Array.getElem?_eq_getElem hi',ee] at z1
  obtain rfl:=Option.some.inj z1
  rw[e3] at z2
  exact⟨ys[i],List.getElem?_eq_getElem hj,by rw[← z2]; exact hv⟩
 done:=by
  intro X hP hw hK hc i pins s σ H E I hf st hg
  subst hP hw hK
  obtain⟨⟨xs,hH,rfl⟩,rfl⟩:=hg
  obtain⟨es,em,el,eg⟩:=gc I hH
  obtain⟨f0,f1,f2,f3,f4,f5⟩:=hf it (by simp)
  rw[← el] at em st
  exact rK (I.ok.hd hc) st em fun h' he=>⟨rfl,I.turned (t':=s.toks) (fun b o hb e=>he b o hb e) f0 f1 f3 f4 f5⟩
 self:=fun A i s Q E st hQ=>wpAny_pyIter_valiter st hQ
section
variable{X:Cx}{tg o:Expr}{to:DTE}{apos cpos:Pos}
def rO(to:DTE):DTI:=fun S M R=>to S M fun d M1=>match d with
 | .ref n=>∃ kvs,M1[n]?=some (.dkt kvs)/\(kvs.length<=sizeLine->R ⟨kvs.map (·.2),fun M=>M[n]?=some (.dkt kvs)⟩ M1)
 | _=>False
theorem yw(ho:DE X o to)(hbase:attributeBase o "values" X.env (eval o X.env)=eval o X.env:=by rfl)(hline:(apos.endLine==cpos.line)=true:=by rfl):DI X tg (.Call (.Attribute o "values" apos) [] [] cpos) (rO to):=by
 intro pins s σ H R I h
 obtain⟨S,M,ρ,Q,sm,sr,q,k⟩:=h
 refine wpAny_Call_method0_late hbase hline (thn (ho pins s σ H _ I ⟨S,M,ρ,_,sm,sr,q,fun v H' w=>w⟩) fun u s1 ⟨v,H1,I1,rv,d,M1,ρ1,sm1,g1,r1,q1⟩=>?_)
 cases r1 with
 | @ref n a hn =>
  cases rv
  obtain⟨kvs,hM,q2⟩:=(show ∃ kvs,M1[n]?=some (.dkt kvs)/\(kvs.length<=sizeLine->Q ⟨kvs.map (·.2),fun M=>M[n]?=some (.dkt kvs)⟩ M1) from q1)
  obtain⟨xs,hH,r,dd,hsm,hz,hx,nd⟩:=gf I1 sm1 hn hM
  obtain⟨es,em,el,_⟩:=gc I1 hH
  refine⟨"dict","dict.values",PySem.F.plainAttrs_dict,PySem.F.slot_dict_values,PySem.F.type_dict_values,dd.typeIs,fun b z=>?_,Calls.callWith_builtin rfl (PySem.evalArgs_none (kF hsm em ?_))⟩
  ·cases z
   obtain⟨ob,_,_,h1,h2,_⟩:=dd
   exact⟨ob,h1,h2.2.1⟩
  have I2:Inv X pins σ H1 { s1 with heap:=s1.heap.push { cls:=.type "dict_values",data:=.fields #[.ref a] } }:=I1.kept (t':=s1.toks) fun b o e=>Heap.get?_push_of_some _ e
  have em2:cK ({ s1 with heap:=s1.heap.push { cls:=.type "dict_values",data:=.fields #[.ref a] } }:Shared).heap a es xs.length:=em.to fun o e=>Heap.get?_push_of_some _ e
  refine nJ (d:=a) ⟨_,Heap.get?_push_size _ rfl,rfl,rfl⟩ em2 ?_
  rw[el]
  have fin:∀ s2:Shared,Inv X pins σ H1 s2->PIE X pins σ tg R (.ref s2.heap.objs.size) { s2 with heap:=s2.heap.push { cls:=.type "dict_valueiterator",data:=.fields #[.ref a,.int 0 0,.int xs.length 0,.int xs.length 0] } }:=fun s2 I2=>by
   refine⟨s2.heap.objs.size,[s2.heap.objs.size],_,_,H1,rfl,I2.kept (t':=s2.toks) fun b o e=>Heap.get?_push_of_some _ e,tS a _ xs.length,⟨_,Heap.get?_push_size _ rfl,rfl,rfl⟩,fun b hb=>?_,k _ H1 ⟨⟨kvs.map (·.2),fun M=>M[n]?=some (.dkt kvs)⟩,M1,ρ1,sm1,g1,?_,q2 hz⟩⟩
   ·obtain rfl:b=s2.heap.objs.size:=by simpa using hb
    exact I2.fpOk (Nat.le_refl _) (I2.hok.fresh (Nat.le_refl _))
   ·refine⟨fun i ρ' M' H' s' g ok hi=>?_,fun i ρ' M' H' x H2 s' g ok hi y=>?_,fun ρ' M' H' s' g ok=>?_⟩
    ·obtain⟨_,_,_,ys,hy,ry⟩:=s'.obj _ _ _ (aw g.pre hn) ok
     have ly:ys.length=kvs.length:=by have:=congrArg List.length (fu ry); rwa [List.length_map,List.length_map] at this
     rw[List.length_map] at hi
     have hj:i < ys.length:=by lia
     obtain⟨p,_,_,_,_,v,_,rv⟩:=cF ry (List.getElem?_eq_getElem hj)
     exact⟨ys,ys[i],v,hy,by lia,List.getElem?_eq_getElem hj,rv⟩
    ·obtain⟨rfl,hall⟩:=y
     obtain⟨_,_,_,ys,hy,ry⟩:=s'.obj _ _ _ (aw g.pre hn) ok
     obtain⟨z,hz1,rz⟩:=hall ys hy
     obtain⟨p,hp,_,_,_,v,rp,rv⟩:=cF ry hz1
     obtain rfl:x=v:=rz.inj rv
     exact⟨p.2,ρ',by rw[List.getElem?_map,hp]; rfl,s',.refl,rp⟩
    ·obtain⟨_,_,_,ys,hy,ry⟩:=s'.obj _ _ _ (aw g.pre hn) ok
     have ly:ys.length=kvs.length:=by have:=congrArg List.length (fu ry); rwa [List.length_map,List.length_map] at this
     exact⟨⟨ys,hy,by lia⟩,by rw[List.length_map]; lia⟩
  exact fin _ I2
 | _=>exact q1.elim
end
end L2
set_option maxRecDepth 100000
namespace L2
open PySem PySem.Spec PyProof.Rows DL PySem.W
section
variable{prog:Program}{w:World}{d r:Addr}{es:Array DictEntry}{ep:Nat}
theorem yo:KdlSrc prog w "dict_values" r d es.size (fun i v=>∃ e,es[i]?=some e/\v=e.val) (fun h=>h.IsValuesView r d/\cK h d es ep) where
 type:=fun _ hm=>hm.1.typeIs
 there:=fun _ hm=>⟨let ⟨_,ho,_⟩:=hm.1; Heap.lt_size ho,hm.2.lt⟩
 keep:=fun _ _ hm hk=>⟨let ⟨o,ho,x⟩:=hm.1; ⟨o,hk r (.inl rfl) o ho,x⟩,hm.2.to fun o e=>hk d (.inr rfl) o e⟩
 notList:=by decide
 notTuple:=by decide
 hint:=fun _ _ _ _ hm hq=>kdl_hint_values hm.1.typeIs hq
 iter:=fun _ _ hh hm=>⟨_,_,(fun _ _ hq=>nJ hm.1 hm.2 hq),sZ hh _ (Nat.ne_of_lt hm.2.lt),⟨⟨_,Heap.get?_push_size _ rfl,rfl,rfl⟩,hm.2.to fun o e=>Heap.get?_push_of_some _ e⟩⟩
end
theorem tR{K:PySem.W.Frag}{ρ:List Addr}{H:Hp}{kvs:List (D×D)}{xs:List (D×Addr×Value)}(r:Paired (tJ K ρ H) kvs xs):∃ ws,Reps K ρ H (kvs.map (·.2)) ws/\ar ws (xs.map fun x=>x.2.2):=by
 induction r with
 | nil=>exact⟨[],.nil,.nil⟩
 | cons h t ih =>
  obtain⟨_,_,_,v,q1,q2⟩:=h
  obtain⟨ws,h1,h2⟩:=ih
  exact⟨v::ws,.cons q1 h1,.cons q2 h2⟩
section
variable{X:Cx}{o:Expr}{to:DTE}{apos cpos p pos:Pos}{k:Nat}
def gi(to:DTE):DTE:=fun S M Q=>to S M fun d M1=>match d with
 | .ref n=>∃ kvs,M1[n]?=some (.dkt kvs)/\Q (.ref M1.length) (M1++[.lst (kvs.map (·.2))])
 | _=>False
theorem tu(hc:X.calm=true)(ho:DE X o to)(hm:X.mg "list" = none)(hg:X.env.kindOf "list" = some .globalImplicit)
  (hs:starEach [Expr.Call (.Attribute o "values" apos) [] [] cpos] X.env=[(false,eval (Expr.Call (.Attribute o "values" apos) [] [] cpos) X.env)])
  (hbase:attributeBase o "values" X.env (eval o X.env)=eval o X.env) (hline:(apos.endLine==cpos.line)=true) :
  DE X (.Call (.Name "list" p) [.Call (.Attribute o "values" apos) [] [] cpos] [] pos) (gi to):=by
 intro pins s σ H R I ⟨S,M,ρ,Q,sm,sr,q,kk⟩
 refine wpAny_Call_Name_kw (fX I hg hm (by rfl) ?_)
 refine callWith_type1 ?_ (by rw[hs]; rfl) rfl
 rw[hs]
 refine Calls.spliced_cons (wpAny_Call_method0_late hbase hline (thn (ho pins s σ H _ I ⟨S,M,ρ,_,sm,sr,q,fun v H' w=>w⟩) fun u s1 ⟨v,H1,I1,rv,x,M1,ρ1,sm1,g1,r1,q1⟩=>?_))
 cases r1 with
 | @ref n a hn =>
  cases rv
  obtain⟨kvs,hM,q2⟩:=(show ∃ kvs,M1[n]?=some (.dkt kvs)/\Q (.ref M1.length) (M1++[.lst (kvs.map (·.2))]) from q1)
  obtain⟨xs,hH,r,dd,hsm,hz,hx,nd⟩:=gf I1 sm1 hn hM
  obtain⟨es,em,el,eg⟩:=gc I1 hH
  refine⟨"dict","dict.values",PySem.F.plainAttrs_dict,PySem.F.slot_dict_values,PySem.F.type_dict_values,dd.typeIs,fun b z=>?_,Calls.callWith_builtin rfl (PySem.evalArgs_none (kF hsm em ?_))⟩
  ·cases z
   obtain⟨ob,_,_,h1,h2,_⟩:=dd
   exact⟨ob,h1,h2.2.1⟩
  refine Calls.spliced_nil ?_
  have I2:Inv X pins σ H1 { s1 with heap:=s1.heap.push { cls:=.type "dict_values",data:=.fields #[.ref a] } }:=I1.kept (t':=s1.toks) fun b o e=>Heap.get?_push_of_some _ e
  have em2:cK ({ s1 with heap:=s1.heap.push { cls:=.type "dict_values",data:=.fields #[.ref a] } }:Shared).heap a es xs.length:=em.to fun o e=>Heap.get?_push_of_some _ e
  have vw:({ s1 with heap:=s1.heap.push { cls:=.type "dict_values",data:=.fields #[.ref a] } }:Shared).heap.IsValuesView s1.heap.objs.size a:=⟨_,Heap.get?_push_size _ rfl,rfl,rfl⟩
  generalize ({ s1 with heap:=s1.heap.push { cls:=.type "dict_values",data:=.fields #[.ref a] } }:Shared)=s2 at I2 em2 vw ⊢
  refine kdl_call (yo (es:=es) (ep:=xs.length)) (I2.ok.hd hc) ⟨vw,em2⟩ (by lia) fun h' tk acc' c' hk hD hacc=>?_
  obtain⟨ws,w1,w2⟩:=tR r
  have ea:acc'.toList=xs.map fun x=>x.2.2:=by
   refine List.ext_getElem? fun j=>?_
   rw[Array.getElem?_toList,List.getElem?_map]
   cases hj:xs[j]? with
   | none =>
    have:xs.length<=j:=by rw[List.getElem?_eq_none_iff] at hj; exact hj
    rw[Array.getElem?_eq_none (by have:=hacc.1; lia)]; rfl
   | some x =>
    have hlt:=(List.getElem?_eq_some_iff.mp hj).1
    have hlt':j < acc'.size:=by have:=hacc.1; lia
    obtain⟨e,g1,g2⟩:=hacc.2 j acc'[j] (Array.getElem?_eq_getElem hlt')
    obtain⟨e',z1,_,z2⟩:=eg j x hj
    rw[g1] at z1
    obtain rfl:=Option.some.inj z1
    rw[Array.getElem?_eq_getElem hlt',g2,z2]; rfl
  have hf:H1 s2.heap.objs.size=none:=I2.hok.fresh (Nat.le_refl _)
  refine⟨.ref s2.heap.objs.size,_,I2.laid (a:=s2.heap.objs.size) (o:=.lst ws) (t':=tk) hk (Nat.le_refl _) ⟨by rw[← w1.length,List.length_map]; exact hz,acc'.toList,c',by rw[ea]; exact w2,by simpa using hD⟩,rfl,kk _ _ (VQ.laidL sm1 g1 w1 hf q2)⟩
 | _=>exact q1.elim
def Ai:DR2:=fun x y M Q=>match x,y with
 | .tup ks,.ref n=>∃ kvs,M[n]?=some (.dkt kvs)/\cf 8 (.tup ks)=true/\Q (.bl (bj kvs (.tup ks)).isSome) M
 | _,_=>False
def kY:DR2:=fun x y M Q=>match x,y with
 | .tup ks,.ref n=>∃ kvs,M[n]?=some (.dkt kvs)/\cf 8 (.tup ks)=true/\Q (.bl (!(bj kvs (.tup ks)).isSome)) M
 | _,_=>False
theorem Dv(hr:Room k X.A):OpD X (compareOp .In) Ai:=by
 intro pins s σ H vx vy v u R I rx ry ⟨x,y,M,ρ,Q,sm,r1,r2,q,kk⟩
 have un:=hr.un
 cases x with
 | tup ks =>
  cases y with
  | ref n =>
   obtain⟨kvs,hM,kd,q⟩:=q
   obtain⟨a,rfl,hn⟩:=Rep.inv_ref r2
   cases ry
   obtain⟨xs,hH,r,dd,hsm,hl,hx,_⟩:=gf I sm hn hM
   have kat:=dI I 8 _ _ _ r1 rx kd
   obtain⟨b,_,rfl,_⟩:=id kat
   refine wpAny_in_heap (knd:=bw X.prog X.w) (k:=.tup ks) (by show X.A.units+1+8 < cLine; lia) kat hsm dd ?_
   have e:(atKey xs (.tup ks)).isSome=(bj kvs (.tup ks)).isSome:=by
    rcases nl r (.tup ks) with ⟨z1,z2⟩ | ⟨_,_,_,z1,z2,_⟩ <;> rw[z1,z2] <;> rfl
   rw[e]
   exact dW (I.tok _) sm kk q
  | _=>exact q.elim
 | _=>exact q.elim
theorem vp(hr:Room k X.A):OpD X (compareOp .NotIn) kY:=by
 intro pins s σ H vx vy v u R I rx ry ⟨x,y,M,ρ,Q,sm,r1,r2,q,kk⟩
 have un:=hr.un
 cases x with
 | tup ks =>
  cases y with
  | ref n =>
   obtain⟨kvs,hM,kd,q⟩:=q
   obtain⟨a,rfl,hn⟩:=Rep.inv_ref r2
   cases ry
   obtain⟨xs,hH,r,dd,hsm,hl,hx,_⟩:=gf I sm hn hM
   have kat:=dI I 8 _ _ _ r1 rx kd
   obtain⟨b,_,rfl,_⟩:=id kat
   refine wpAny_notIn_heap (knd:=bw X.prog X.w) (k:=.tup ks) (by show X.A.units+1+8 < cLine; lia) kat hsm dd ?_
   have e:(atKey xs (.tup ks)).isSome=(bj kvs (.tup ks)).isSome:=by
    rcases nl r (.tup ks) with ⟨z1,z2⟩ | ⟨_,_,_,z1,z2,_⟩ <;> rw[z1,z2] <;> rfl
   rw[e]
   exact dW (I.tok _) sm kk q
  | _=>exact q.elim
 | _=>exact q.elim
def rP:DTS:=fun _ _ _=>False
theorem yr{st:Stmt}:DS X st rP:=fun pins s σ H E I ⟨S,M,ρ,F,sm,sr,q,kk⟩=>q.elim
end
section
variable{X:Cx}{o i e:Expr}{to ti te:DTE}{pos pos' p apos cpos:Pos}{k:Nat}{tg:Expr}{es:List Expr}{t:DTA}{st:Stmt}
theorem zr:HE X (.Dict [] [] pos) pJ:=⟨EO⟩
theorem zt(hr:Room k X.A)(ho:HE X o to)(hi:HE X i ti)(hs:Ca i:=by intro _ _; kernel_rfl):HE X (.Subscript o i pos) (lT to ti):=⟨EQ hr ho.ok hi.ok hs⟩
theorem lK(hr:Room k X.A)(ho:HE X o to)(hi:HE X i ti)(hv:HE X e te)(hs:swapsWith e (some (.Subscript o i pos')) pos.line X.env=pure false:=by kernel_rfl):HS X (.Assign [.Subscript o i pos'] e pos) (pI to ti te):=⟨Bv hr ho.ok hi.ok hv.ok hs⟩
theorem wa(hr:Room k X.A)(ho:HE X o to)(ha:HA X (e::es) t)(hbase:attributeBase o "get" X.env (eval o X.env)=eval o X.env:=by kernel_rfl)
  (hfew:((backTo cpos (starEach (e::es) X.env)).all (fun x=>!x.1)&&(backToKw cpos (keywordEach [] X.env)).all (fun x=>x.1.isSome)
   && decide ((e::es).length+([]:List Keyword).length+(if ([]:List Keyword).isEmpty then 0 else 1) < 30))=true:=by kernel_rfl)
  (hline:(apos.endLine==cpos.line)=true:=by kernel_rfl) (hs:starEach (e::es) X.env=(false,eval e X.env)::starEach es X.env:=by kernel_rfl) (hplain:(backTo cpos (starEach es X.env)).any (·.1)=false:=by kernel_rfl) :
  HE X (.Call (.Attribute o "get" apos) (e::es) [] cpos) (dMt fQ to t):=⟨d_mt PySem.F.slot_dict_get PySem.F.type_dict_get (xL hr) ho.ok ha.ok hbase hfew hline hs hplain⟩
theorem rh(h:HE X e te):HI X tg e (rQ te):=⟨yx h.ok⟩
theorem re(ho:HE X o to)(hbase:attributeBase o "values" X.env (eval o X.env)=eval o X.env:=by kernel_rfl)(hline:(apos.endLine==cpos.line)=true:=by kernel_rfl):HI X tg (.Call (.Attribute o "values" apos) [] [] cpos) (rO to):=⟨yw ho.ok hbase hline⟩
theorem kC(ho:HE X o to)(hm:X.mg "list" = none)(hc:X.calm=true:=by kernel_rfl)(hg:X.env.kindOf "list" = some .globalImplicit:=by kernel_rfl)
  (hs:starEach [Expr.Call (.Attribute o "values" apos) [] [] cpos] X.env=[(false,eval (Expr.Call (.Attribute o "values" apos) [] [] cpos) X.env)]:=by kernel_rfl)
  (hbase:attributeBase o "values" X.env (eval o X.env)=eval o X.env:=by kernel_rfl) (hline:(apos.endLine==cpos.line)=true:=by kernel_rfl) :
  HE X (.Call (.Name "list" p) [.Call (.Attribute o "values" apos) [] [] cpos] [] pos) (gi to):=⟨tu hc ho.ok hm hg hs hbase hline⟩
theorem zE(hr:Room k X.A):HOp X (compareOp .In) Ai:=⟨Dv hr⟩
theorem nC(hr:Room k X.A):HOp X (compareOp .NotIn) kY:=⟨vp hr⟩
theorem ik:HS X st rP:=⟨yr⟩
end
end L2
set_option maxRecDepth 100000
namespace L2
open PySem PySem.Spec PyProof.Rows DL PySem.W
theorem rB{K:PySem.W.Frag}{ρ:List Addr}{H:Hp}:∀ {ns:List Int}{ws:List V}{its:List Value},Reps K ρ H (ns.map D.int) ws->ar ws its->IntsAre its ns
 | [],_,_,r,v=>by cases r; cases v; exact .nil
 | n::ns,_,_,r,v=>by
  rw[List.map_cons] at r
  first | have hzz:=Reps.inv_cons r | have hzz:=ar.inv_cons r
  clear r
  obtain⟨_,_,rfl,h,t⟩:=hzz
  cases h
  cases v with
  | cons q q' =>
   obtain⟨tk,rfl⟩:=q
   exact .cons _ _ (rB t q')
section
variable{X:Cx}{k:Nat}
def sE:DRA:=fun ds M Q=>match ds with
 | [.ref n]=>∃ ns:List Int,ao M n (ns.map D.int)/\ns≠[]/\∀ m,m∈ns->(∀ a∈ns,a<=m)->Q (.int m) M
 | _=>False
theorem BJ(hc:X.calm=true):jI X (.builtin "max") sE:=by
 intro pins s σ H vs us R I rv ⟨ds,M,ρ,Q,sm,rs,q,kk⟩
 unfold sE at q
 split at q
 ·obtain⟨ns,hL,hne0,q⟩:=q
  first | have hzz:=Reps.inv_cons rs | have hzz:=ar.inv_cons rs
  clear rs
  obtain⟨_,_,rfl,r1,rs⟩:=hzz
  cases rs
  obtain⟨u,rfl,e1⟩:=ar.one rv
  obtain⟨a,rfl,e⟩:=Rep.inv_ref r1
  cases e1
  obtain⟨ws,hq,r⟩:=ao.seq sm hL e
  obtain⟨its,rr,pl,hz⟩:=I.list hq
  obtain⟨m,hn,hm⟩:=I.loc
  obtain⟨oa,nn,hoa,hca,hdict,hdata⟩:=id pl
  have hne:a≠X.env.locals:=fun z=>by
   subst z
   obtain⟨o,es,ep,e,hd,_⟩:=hn
   rw[hoa] at e
   cases e
   rw[hd] at hdata
   cases hdata
  have mem:∀ b o,b≠X.env.locals->s.heap.get? b=some o->(b,o)∈[]++(a,oa)::Att.ledger s.heap X.env.locals a:=fun b o h1 h2=>by
   rw[List.nil_append,List.mem_cons,Att.mem_ledger]
   by_cases hal:b=a
   ·subst hal
    rw[hoa] at h2; cases h2
    exact .inl rfl
   ·exact .inr ⟨h1,hal,h2⟩
  refine max_list_N (I.ok.hd hc) (Att.fr_all hn) (Att.news_ledger hne hoa) pl.isList (rB r rr) (List.length_pos_iff.mpr hne0) fun h' mm t tk F' N' h1 h2=>?_
  have kp:∀ b u,b≠X.env.locals->s.heap.get? b=some u->h'.get? b=some u:=fun b u hb e=>(N' (b,u) (mem b u hb e)).1
  exact⟨.int mm,H,I.keptF (t':=tk) kp hn F'.ns,⟨t,rfl⟩,kk _ _ ⟨.int mm,M,ρ,sm,.refl,.int mm,q mm h1 h2⟩⟩
 ·exact q.elim
theorem EX:bootBuiltins "max" = some (.builtin "max"):=by decide +kernel
theorem wm(hc:X.calm=true:=by kernel_rfl):HC X (.builtin "max") sE:=⟨BJ hc⟩
end
end L2
set_option maxRecDepth 100000
namespace L2
open PySem PySem.Spec PyProof.Rows DL PySem.W PySem.Calls PyProof.V
section
variable{prog:Program}{w:World}{A:Around}{E:Value->Shared->Prop}{s:Shared}{d:Addr}{es:Array DictEntry}{ep:Nat}
end
structure PairsAt(es:Array DictEntry)(lo:Addr)(h:Heap)(as:List Addr):Prop where
 nd:as.Nodup
 above:∀ a∈as,lo < a
 tup:∀ (j:Nat) (a:Addr),as[j]?=some a->∃ e,es[j]?=some e/\h.get? a=some { cls:=.type "tuple",data:=.seq #[e.key,e.val] }
section
variable{prog:Program}{w:World}{A:Around}{E:Value->Shared->Prop}{s:Shared}{d:Addr}{es:Array DictEntry}{ep:Nat}
end
end L2
set_option maxRecDepth 100000
namespace L2
open PySem PySem.Spec PyProof.Rows DL PySem.W PySem.Calls PyProof.V
section
variable{X:Cx}{pins:List (Addr×Obj)}{σ:St}{H:Hp}{s:Shared}
end
section
variable{K:PySem.W.Frag}{ρ:List Addr}{H H':Hp}{M:Mem}
end
section
variable{X:Cx}{o:Expr}{to:DTE}{apos cpos p pos:Pos}{k:Nat}
end
end L2
set_option maxRecDepth 100000
namespace L2
open PySem PySem.Spec PyProof.Rows DL PySem.W
section
variable{X:Cx}
def BW:DR2:=fun x y M Q=>match x,y with
 | .int i,.int j=>CPow i j/\Q (.int (i*2 ^ j.toNat)) M
 | _,_=>False
theorem Dq:OpD X (binaryOp .LShift) BW:=by
 refine OpR.imp De fun vx vy H R ⟨x,y,M,ρ,Q,sm,r1,r2,q,k⟩=>?_
 unfold BW at q
 split at q
 ·cases r1
  cases r2
  exact⟨_,_,rfl,rfl,q.1,k _ H (VQ.now sm (.int _) q.2)⟩
 ·exact q.elim
theorem zy:HOp X (binaryOp .LShift) BW:=⟨Dq⟩
theorem kD(hr:Room k X.A):HC X (.builtin "sorted") fg:=⟨wI hr⟩
end
noncomputable def dictOf(ps:List (D×D)):List (D×D):=ps.foldl (fun kvs p=>fh kvs p.1 p.2) []
theorem dh:dictOf (ps++[p])=fh (dictOf ps) p.1 p.2:=by
 unfold dictOf
 rw[List.foldl_append]; rfl
theorem nG:∀ (ps kvs:List (D×D)),(ps.foldl (fun kvs p=>fh kvs p.1 p.2) kvs).length<=kvs.length+ps.length
 | [],_=>Nat.le_refl _
 | p::ps,kvs=>by
  have h1:=nG ps (fh kvs p.1 p.2)
  have h2:=qP (kvs:=kvs) (k:=p.1) (d:=p.2)
  rw[List.foldl_cons,List.length_cons]; lia
theorem kH:(dictOf ps).length<=ps.length:=by
 have:=nG ps []
 rw[List.length_nil,Nat.zero_add] at this
 exact this
theorem gb:entryFor table "dict.update.loop" = some Builtin.«dict.update.loop»:=entryFor_of_tree (by kernel_rfl)
theorem bO:plainId "dict.update.loop" = true:=by decide +kernel
theorem gG:typeLookup (.type "list") "__getattr__" = pure none:=by rw[typeLookup_type,builtinLookup_eq_fast]; kernel_rfl
theorem jz:typeLookup (.type "list") "keys" = pure none:=by rw[typeLookup_type,builtinLookup_eq_fast]; kernel_rfl
section
variable{prog:Program}{w:World}{A:Around}{E:Value->Shared->Prop}{h:Heap}{g:Array GenState}{d:Drawn}{t:Nat}{os:OsState}{a:Addr}{o:Obj}
theorem vG(hx:h.get? a=some o)(hc:o.cls=.type "list")(hdict:o.dict=none)(hdat:o.data=.seq its nn)(hA:A.handled=none)(hq:∀ h' tk e,Heap.NewAttrErr h h' e (.ref a) "keys"->R (.error (.ref e)) ⟨h',g,d,tk,os⟩) :
  codeAny (model prog w) A (.call (.builtin "list.__getattribute__") ⟨[.ref a,.str "keys" u],[]⟩) R ⟨h,g,d,t,os⟩:=by
 obtain⟨oc,od,odt,osl⟩:=o
 obtain rfl:oc=.type "list":=hc
 obtain rfl:od=none:=hdict
 obtain rfl:odt=.seq its nn:=hdat
 have hT:(⟨h,g,d,t,os⟩:Shared).TypeIs (.ref a) "list":=⟨_,hx,rfl⟩
 have f4:=jz
 refine codeAny_call_builtin PySem.F.slot_list_getattribute.plain PySem.F.entry_list_ga (PySem.F.slot_list_getattribute.check _ _ _ _ _ _ _ _ hT (PySem.F.args_list_getattribute_2 _ _) ?_)
 unfold Builtin.«object.__getattribute__»
 repeat (any_goals (first | assumption | wp_step))
 refine wpAny_raiseAttrError (o:=.ref a) (name:="keys") (by first | exact hA | simpa using hA) hq ?_
 exact attrMsg_fits (by decide +kernel) (by size_fits)
theorem oZ(hx:h.get? a=some o)(hc:o.cls=.type "list")(hdict:o.dict=none)(hdat:o.data=.seq its nn)(hA:A.handled=none)(hq:∀ h' tk,(∀ b ob,h.get? b=some ob->h'.get? b=some ob)->Q none ⟨h',g,d,tk,os⟩) :
  wpAny (model prog w) A (getAttr? (.ref a) "keys") Q E ⟨h,g,d,t,os⟩:=by
 obtain⟨oc,od,odt,osl⟩:=o
 obtain rfl:oc=.type "list":=hc
 obtain rfl:od=none:=hdict
 obtain rfl:odt=.seq its nn:=hdat
 have hT:∀ tk,(⟨h,g,d,tk,os⟩:Shared).TypeIs (.ref a) "list":=fun _=>⟨_,hx,rfl⟩
 have f1:=sub_AttributeError
 have f2:=PySem.F.slot_list_getattribute.lookup
 have f3:=PySem.F.slot_list_getattribute.bind (.ref a)
 have f5:=gG
 unfold getAttr? getAttrBy? getAttrBy
 repeat (any_goals (first | assumption | exact hT _ | wp_step))
 refine vG hx rfl rfl rfl (by first | exact hA | simpa using hA) fun h' tk e hx'=>?_
 obtain⟨t',u',he⟩:=hx'.there
 unfold getattributeRaised
 repeat (any_goals (first | assumption | wp_step))
 exact hq _ _ hx'.keeps
end
theorem dsetE(hu:(bw prog w).room A)(kat:(bw prog w).is s.heap k b)
  (hm:s.heap.DictOfH (bw prog w) d xs) (hx:dX d xs prog w s.heap) (hz:xs.length<=sizeLine)
  (hQ:∀ h',dX d (storedH xs k b v) prog w h'->Heap.SameBut d s.heap h'->Q () { s with heap:=h',toks:=s.toks+(bw prog w).draws k }):wpAny (model prog w) A (dictSet d (.ref b) v) Q E s:=by
 obtain⟨_,_,_,_,_,_,_,his,hn⟩:=hm
 obtain⟨o,es,ho,hc,hd,he'⟩:=hx
 have he:es.toList=xs.map (entryOfKey (bw prog w)):=he'
 unfold dictSet
 try with_reducible refine wpAny_holding ?_
 refine wpAny_bind ((bw prog w).pyHash hu kat ?_)
 unfold dictSetHashed
 try with_reducible refine wpAny_holding ?_
 have hl:es.size=xs.length:=size_of_entries he
 refine wpAny_bind (wpAny_dictFind_heap (s:={ s with toks:=s.toks+(bw prog w).draws k }) hu kat ho hd he his hn (fun hno=>?_) fun j p hj=>?_)
 ·refine wpAny_bind (wpAny_rule (wpAny_updateDictKeys (hz:=by lia) (s:={ s with toks:=s.toks+(bw prog w).draws k }) ho hd (hQ _ ⟨_,es.push ⟨(bw prog w).hash k,.ref b,v⟩,Heap.get?_update_self _ ho (Obj.isFreed_of_dict (Obj.data_mapDictKeys hd _)),hc.mapDictKeys _,?_,?_⟩ (Heap.SameBut.update ..))))
  ·rw[Obj.data_mapDictKeys hd,storedH_new (atKey_none_of_get hno),List.length_append]; rfl
  ·rw[storedH_new (atKey_none_of_get hno)]
   rw[Array.toList_push,he,List.map_append]
   rfl
 ·refine wpAny_bind (wpAny_rule (wpAny_bind (wpAny_updateDict (s:={ s with toks:=s.toks+(bw prog w).draws k }) ho hd (wpAny_point (hQ _ ⟨_,es.modify j fun e=>{ e with val:=v },Heap.get?_update_self _ ho (Obj.isFreed_of_dict (Obj.data_mapDict hd _)),hc.mapDict _,?_,?_⟩ (Heap.SameBut.update ..))))))
  ·rw[Obj.data_mapDict hd,storedH_old (atKey_of_get hn hj),List.length_map]
  ·rw[storedH_old (atKey_of_get hn hj)]
   have q:=modify_map_putAt (entryOfKey (bw prog w)) (fun e:DictEntry=>{ e with val:=v }) k v (fun _ _=>rfl) hn hj
   rw[← he] at q
   obtain⟨l⟩:=es
   have q2:(Array.modify ⟨l⟩ j fun e:DictEntry=>{ e with val:=v }).toList=(xs.map (putAt k v)).map (entryOfKey (bw prog w)):=by simpa using q
   exact q2
section
variable{X:Cx}{pins:List (Addr×Obj)}{σ:St}{H:Hp}{ρ:List Addr}{M:Mem}{A:Around}{E:Value->Shared->Prop}{s:Shared}
structure DD(X:Cx)(ρ:List Addr)(H:Hp)(h:Heap)(a:Addr)(kvs:List (D×D))(xs:List (D×Addr×Value)):Prop where
 dx:dX a xs X.prog X.w h
 kv:Paired (tJ X.K ρ H) kvs xs
 nd:(kvs.map (·.1)).Nodup
theorem DD.at(x:DD X ρ H h a kvs xs)(k:∀ o,h.get? a=some o->h'.get? a=some o):DD X ρ H h' a kvs xs:=by
 obtain⟨⟨o,es,e1,e2,e3,e4⟩,kv,nd⟩:=x
 exact⟨⟨o,es,k _ e1,e2,e3,e4⟩,kv,nd⟩
theorem DD.len(x:DD X ρ H h a kvs xs):xs.length=kvs.length:=by
 have:=congrArg List.length (fu x.kv)
 rwa [List.length_map,List.length_map] at this
theorem DD.of(I:Inv X pins σ H s)(x:DD X ρ H s.heap a kvs xs):s.heap.DictOfH (bw X.prog X.w) a xs:=by
 obtain⟨o,es,e1,e2,e3,e4⟩:=x.dx
 have ek:=fu x.kv
 refine⟨o,es,_,e1,e2,e3,e4,fun y hy=>?_,by rw[ek]; exact x.nd⟩
 obtain⟨i,hi⟩:=List.getElem?_of_mem hy
 obtain⟨p,_,q1,q2,q3,_⟩:=cF x.kv hi
 rw[← q1]
 exact dI I 8 _ _ _ q3 rfl q2
theorem BE(I:Inv X pins σ H s)(hu:A.units+20 < cLine)(W:Walks X.prog X.w A.in1 J fp wr m P Sx)(S:Addr)(hSf:S∉fp)
  (hS0:s.heap.get? S=none) (hw0:∀ b∈wr,s.heap.get? b=none) (ps:List (D×D)) (hm:ps.length=m) (hval:∀ i v,P i v->∃ p,ps[i]?=some p/\(∃ vv,Rep X.K ρ H (.tup [p.1,p.2]) vv/\aJ vv v)/\cf 8 p.1=true/\eX p.1=true) (hb:m<=1000) :
  ∀ (k i:Nat) (h:Heap) (tk:Nat) (xs:List (D×Addr×Value)) (j:Int) (t:Tok),m-i=k->i<=m->Sx i h->DD X ρ H h S (dictOf (ps.take i)) xs->(∀ b u,s.heap.get? b=some u->h.get? b=some u) ->
   (∀ h' tk xs',(∀ b u,s.heap.get? b=some u->h'.get? b=some u)->DD X ρ H h' S (dictOf ps) xs'->R (.ok (.ret .none)) { s with heap:=h',toks:=tk }) ->
   codeAny (model X.prog X.w) A (.builtin "dict.update.loop" ⟨[.ref S,.ref J,.int j t,.none],[]⟩) R { s with heap:=h,toks:=tk }:=by
 have hSw:S∉wr:=fun h=>hSf (W.sub _ h)
 intro k
 induction k with
 | zero =>
  intro i h tk xs j t hk hi hst hS hold hR
  obtain rfl:i=m:=by lia
  refine codeAny_builtin gb ?_
  rw[Around.under_plainId bO _]
  refine(show wpAny (model X.prog X.w) A.in1 (pyNext (.ref J) >>= _) _ _ _ from wpAny_bind (W.done _ _ _ hst fun h' tk hk'=>?_))
  rw[← hm,List.take_length] at hS
  refine(show wpAny (model X.prog X.w) A.in1 (Builtin.Dict.addKeywords S [] >>= _) _ _ _ from wpAny_bind (wpAny_pure (wpAny_pure ?_)))
  exact hR h' tk xs (fun b u e=>hk' b u (fun z=>by rw[hw0 b z] at e; cases e) (hold b u e)) (hS.at fun o e=>hk' S o hSw e)
 | succ k ih =>
  intro i h tk xs j t hk hi hst hS hold hR
  refine codeAny_builtin gb ?_
  rw[Around.under_plainId bO _]
  refine(show wpAny (model X.prog X.w) A.in1 (pyNext (.ref J) >>= _) _ _ _ from wpAny_bind (W.item i _ _ _ (by lia) hst fun v h' tk hP hst' hk'=>?_))
  obtain⟨p,hp,⟨vv,r,rv⟩,kd,it⟩:=hval i v hP
  have old':∀ b u,s.heap.get? b=some u->h'.get? b=some u:=fun b u e=>hk' b u (fun z=>by rw[hw0 b z] at e; cases e) (hold b u e)
  have I':Inv X pins σ H { s with heap:=h',toks:=tk }:=I.kept old'
  have hS':=hS.at fun o e=>hk' S o hSw e
  have hl:=hS'.len
  have dl:=kH (ps:=ps.take i)
  have dd:=hS'.of (s:={ s with heap:=h',toks:=tk }) I'
  obtain⟨a,vs,rfl,hq,rr⟩:=Rep.inv_tup r
  cases rv
  first | have hzz:=Reps.inv_cons rr | have hzz:=ar.inv_cons rr
  clear rr
  obtain⟨_,_,rfl,r1,rr⟩:=hzz
  first | have hzz:=Reps.inv_cons rr | have hzz:=ar.inv_cons rr
  clear rr
  obtain⟨_,_,rfl,r2,rr⟩:=hzz
  cases rr
  obtain⟨its,r2',pl,hz⟩:=I'.tuple hq
  obtain⟨u1,u2,rfl,e1,e2⟩:=ar.two r2'
  obtain⟨k0,d0⟩:=p
  cases k0 with
  | tup ks =>
   have kat:=dI I' 8 _ _ _ r1 e1 kd
   obtain⟨b,_,rfl,_⟩:=id kat
   obtain⟨_,_,rfl,hq1,rr1⟩:=Rep.inv_tup r1
   cases e1
   obtain⟨o,ho,hc,nn,hd⟩:=pl
   have hT:({ s with heap:=h',toks:=tk }:Shared).TypeIs (.ref a) "tuple":=⟨o,ho,hc⟩
   refine wpAny_bind (wpAny_holding (wpAny_bind (wpAny_tryCatch ?_)))
   unfold Builtin.Dict.pairItems
   refine wpAny_bind (wpAny_typeOf hT ?_)
   rw[if_pos (by decide)]
   refine wpAny_bind (wpAny_seqItems ho hd (wpAny_pure ?_))
   refine(show wpAny (model X.prog X.w) _ (holding [.ref b,u2] (dictSet S (.ref b) u2)) _ _ _ from wpAny_holding ?_)
   refine dsetE (k:=.tup ks) (s:={ s with heap:=h',toks:=tk }) (by show A.units+1+8 < cLine; lia) kat dd hS'.dx (ap (by rw[hl]; rw[List.length_take] at dl; lia)) fun h2 dx2 sb=>?_
   have k2:∀ b u,b≠S->h'.get? b=some u->h2.get? b=some u:=fun b u hb e=>(sb.2 b hb).trans e
   have kv2:=zb hS'.kv kd (.tup hq1 rr1) r2 e2
   have et:ps.take (i+1)=ps.take i++[(.tup ks,d0)]:=by rw[List.take_add_one,hp]; rfl
   refine wpAny_pure ⟨plainId_quiet bO _,ih (i+1) h2 _ _ _ _ (by lia) (by lia) (W.frame _ h' h2 hst' fun b' hb' o e=>k2 b' o (fun z=>hSf (z ▸ hb')) e) ⟨dx2,?_,?_⟩ (fun b u e=>k2 b u (fun z=>by rw[z,hS0] at e; cases e) (old' b u e)) hR⟩
   ·rw[et,dh]; exact kv2
   ·rw[et,dh]; exact oP hS'.nd
  | _=>cases it
theorem BL(I:Inv X pins σ H s)(hu:A.units+30 < cLine)(hh:A.handled=none)(hl:s.heap.IsList l its)(hol:s.heap.get? l=some ol)(hdict:ol.dict=none)(ps:List (D×D))(hm:ps.length=its.size)
  (hval:∀ (i:Nat) v,its[i]?=some v->∃ p:D×D,ps[i]?=some p/\(∃ vv,Rep X.K ρ H (.tup [p.1,p.2]) vv/\aJ vv v)/\cf 8 p.1=true/\eX p.1=true) (hb:its.size<=1000)
  (h:∀ h' tk xs,(∀ b u,s.heap.get? b=some u->h'.get? b=some u)->DD X ρ H h' s.heap.objs.size (dictOf ps) xs->Q (.ref s.heap.objs.size) { s with heap:=h',toks:=tk }) :
  wpAny (model X.prog X.w) A (call (.type "dict") [.ref l]) Q E s:=by
 refine callType_codes (Q₁:=fun obj s₁=>obj=.ref s.heap.objs.size/\s₁={ s with heap:=s.heap.push { cls:=.type "dict",data:=.dict #[] } }) PySem.F.kt_called_dict (PySem.F.kt_typeCall_dict_1 _) PySem.F.entry_dict_init (kt_code_dict_new _ ⟨rfl,rfl⟩) ?_
 rintro obj s₁ ⟨rfl,rfl⟩
 have hS:(s.heap.push { cls:=.type "dict",data:=.dict #[] }).get? s.heap.objs.size=some { cls:=.type "dict",data:=.dict #[] }:=Heap.get?_push_size _ rfl
 have hT:Shared.TypeIs { s with heap:=s.heap.push { cls:=.type "dict",data:=.dict #[] } } (.ref s.heap.objs.size) "dict":=⟨_,hS,rfl⟩
 obtain⟨ol',e1,hcl,nn,hdd⟩:=id hl
 obtain rfl:ol'=ol:=Option.some.inj (e1.symm.trans hol)
 have hol':(s.heap.push { cls:=.type "dict",data:=.dict #[] }).get? l=some ol':=Heap.get?_push_of_some _ hol
 have hTl:Shared.TypeIs { s with heap:=s.heap.push { cls:=.type "dict",data:=.dict #[] } } (.ref l) "list":=⟨ol',hol',hcl⟩
 have ll:l < s.heap.objs.size:=Heap.lt_size hol
 refine⟨hT,PySem.F.args_dict_init_2 _ _,?_⟩
 unfold Builtin.«dict.__init__»
 refine wpAny_bind ?_
 unfold Builtin.Dict.selfAndRest
 refine wpAny_bind (wpAny_notOrdered_dict hT ?_)
 refine(show wpAny _ _ (pure (s.heap.objs.size,[Value.ref l])) _ _ _ from wpAny_pure ?_)
 refine(show wpAny _ _ (Builtin.Dict.updateFrom "dict.__init__" s.heap.objs.size (.ref l) [] .none) _ _ _ from ?_)
 unfold Builtin.Dict.updateFrom
 refine wpAny_bind (wpAny_typeOf hTl ?_)
 rw[if_pos (by decide)]
 refine wpAny_bind (oZ hol' hcl hdict hdd (by simpa using hh) fun h1 tk1 k1=>?_)
 have kp1:∀ b u,s.heap.get? b=some u->h1.get? b=some u:=fun b u e=>k1 b u (Heap.get?_push_of_some _ e)
 rw[if_pos (show (none:Option Value).isNone=true from rfl)]
 refine wpAny_bind (wpAny_rule ?_)
 obtain⟨oI,St,hit,W,st⟩:=(TxSrc.list (prog:=X.prog) (w:=X.w) hl).iter A.in1.in1 { s with heap:=h1,toks:=tk1 } (by simpa using hh) fun o e=>kp1 _ _ e
 refine wpAny_bind (hit _ _ ?_)
 have hS1:=k1 _ _ hS
 have lS:s.heap.objs.size < h1.objs.size:=Heap.lt_size hS1
 have hS0:s.heap.get? s.heap.objs.size=none:=by
  cases q:s.heap.get? s.heap.objs.size with
  | none=>rfl
  | some o=>exact absurd (Heap.lt_size q) (Nat.lt_irrefl _)
 refine wpAny_pure ⟨plainId_quiet bO _,BE (A:=A.in1) (s:=s) I (by show A.units+1+20 < cLine; lia) W s.heap.objs.size ?_ hS0 ?_ ps hm hval hb its.size 0 _ _ [] _ _ rfl (Nat.zero_le _) st ⟨⟨_,#[],Heap.get?_push_of_some _ hS1,⟨rfl,rfl,rfl⟩,rfl,rfl⟩,.nil,List.nodup_nil⟩ (fun b u e=>Heap.get?_push_of_some _ (kp1 b u e)) fun h2 tk2 xs k2 dd=>⟨rfl,h h2 tk2 xs k2 dd⟩⟩
 ·simp only[List.mem_cons,List.not_mem_nil,or_false,not_or]
  exact⟨Nat.ne_of_lt lS,Nat.ne_of_gt ll⟩
 ·intro b hb'
  rw[List.mem_singleton.mp hb']
  cases q:s.heap.get? h1.objs.size with
  | none=>rfl
  | some o=>exact absurd (Nat.lt_trans (Heap.lt_size q) lS) (Nat.lt_irrefl _)
end
section
variable{X:Cx}{k:Nat}
def gB:DRA:=fun ds M Q=>match ds with
 | [.ref n]=>∃ ps:List (D×D),ao M n (ps.map fun p=>.tup [p.1,p.2])/\(∀ p∈ps,cf 8 p.1=true/\eX p.1=true)/\ps.length<=1000/\Q (.ref M.length) (M++[.dkt (dictOf ps)])
 | _=>False
theorem wJ(hr:Room k X.A)(hc:X.calm=true):jI X (.type "dict") gB:=by
 intro pins s σ H vs us R I rv ⟨ds,M,ρ,Q,sm,rs,q,kk⟩
 have un:=hr.un
 unfold gB at q
 split at q
 ·obtain⟨ps,hL,hk,hl,q⟩:=q
  first | have hzz:=Reps.inv_cons rs | have hzz:=ar.inv_cons rs
  clear rs
  obtain⟨_,_,rfl,r1,rs⟩:=hzz
  cases rs
  obtain⟨u,rfl,e1⟩:=ar.one rv
  obtain⟨a,rfl,e⟩:=Rep.inv_ref r1
  cases e1
  obtain⟨ws,hq,r⟩:=ao.seq sm hL e
  obtain⟨its,rr,pl,hz⟩:=I.list hq
  obtain⟨oa,nn,hoa,hca,hdict,hdata⟩:=id pl
  have lw:=r.length
  have li:=rr.length
  rw[List.length_map] at lw
  have hf:H s.heap.objs.size=none:=I.hok.fresh (Nat.le_refl _)
  have hb:(s.heap.objs.size==sysModules)=false:=beq_eq_false_iff_ne.mpr (Ne.symm (Nat.ne_of_lt I.big))
  refine BL (A:=X.A) (ρ:=ρ) I (by lia) (I.ok.hd hc) pl.isList hoa hdict ps (by rw[List.size_toArray]; lia) (fun i v hv=>?_) (by rw[List.size_toArray]; lia) fun h' tk xs kp dd=>?_
  ·obtain⟨d,vv,e1,r1,rv1⟩:=kO r rr (i:=i) (u:=v) (by simpa using hv)
   rw[List.getElem?_map] at e1
   obtain⟨p,hp,rfl⟩:=Option.map_eq_some_iff.mp e1
   exact⟨p,hp,⟨vv,r1,rv1⟩,hk p (List.mem_of_getElem? hp)⟩
  ·have dl:=kH (ps:=ps)
   refine⟨.ref s.heap.objs.size,_,I.laid (a:=s.heap.objs.size) (o:=.ext (dX s.heap.objs.size xs)) (t':=tk) kp (Nat.le_refl _) (pF dd.dx),rfl,?_⟩
   exact kk _ _ ⟨.ref M.length,M++[.dkt (dictOf ps)],ρ++[s.heap.objs.size],sm.laidM (mo:=.dkt (dictOf ps)) hf ⟨ap (by lia),hb,dd.nd,xs,aI,Paired.mapP dd.kv fun _ _ ⟨q1,q2,q3,v,q4,q5⟩=>⟨q1,q2,q3.grow (Grow.laidR hf),v,q4.grow (Grow.laidR hf),q5⟩⟩,Grow.laidR hf,.ref sm.last,q⟩
 ·exact q.elim
theorem nF(hr:Room k X.A)(hc:X.calm=true:=by kernel_rfl):HC X (.type "dict") gB:=⟨wJ hr hc⟩
end
end L2
set_option maxRecDepth 100000
namespace L2
open PySem PySem.Spec PyProof.Rows DL PySem.W
section
variable{P:Params}{K:PySem.W.Frag}{z:Str}
variable{a:Addr}{es:Array DictEntry}{n:Nat}{kvs:List (Str×List Str)}
end
section
variable{X:Cx}{e:Expr}{te:DTE}{x:Str}{p pos:Pos}{a:Addr}{es:Array DictEntry}{n:Nat}{kvs:List (Str×List Str)}
end
end L2
set_option maxRecDepth 100000
namespace L2
open PySem PySem.Spec PyProof.Rows DL PySem.W
abbrev EE(M:Mem)(R:DK):DEnds:=⟨fun _ M'=>bx M R .non M',bx M R,fun _ _=>False,fun _ _=>False⟩
def dst(n:Nat)(ds:List D):SD:=ds.map some++List.replicate (n-ds.length) none
abbrev WpT(Pr:DSp)(n:Nat)(t:DTS):Prop:=∀ ds M R,Pr ds M R->t (EE M R) (dst n ds) M
abbrev dB(Pr:DSp)(p:List Str):Prop:=∀ ds M R,Pr ds M R->ds.length=p.length
abbrev DerT(P:Program)(w:World)(K:PySem.W.Frag)(mg:Str->Option Value)(base:Heap)(k:Nat)(x:Str)(N:List Str)(st:Stmt)(t:DTS):Prop :=
 ∀ (f:Addr) (cdv:Value) (A:Around) (outer:List Env) (s:Shared) (H:Hp) (E:XK),Room k (A.deeper (PyProof.Rows.envOfC x (am st) s.heap.objs.size f cdv))->HB (nS CX0 P w K mg base N x (am st) f cdv A outer s H E).nox (bu st) t
end L2
set_option maxRecDepth 100000
namespace L2
open PySem PySem.Spec PyProof.Rows DL PySem.W
def rN(c:DTT)(tb:DTS):DTS:=fun E S M=>∃ W:Nat->SD->Mem->Prop,(∃ m,W m S M)/\∀ m S M,W m S M ->
 c S M fun b M1=>if b=true then tb ⟨fun S' M'=>∃ m',m' < m/\W m' S' M',E.rt,E.nx,fun S' M'=>∃ m',m' < m/\W m' S' M'⟩ S M1 else E.nx S M1
theorem sM{K:PySem.W.Frag}{c:DTT}{tb:DTS}(E:Ends)(σ:St)(H:Hp)(h:lowS K (rN c tb) E σ H):yT (lowT K c) (lowS K tb) E σ H:=by
 obtain⟨S,M,ρ,F,s,sr,⟨W,⟨m0,w0⟩,turn⟩,k⟩:=h
 refine⟨fun m τ H2=>∃ S2 M2 ρ2,Sim K ρ2 M2 H2/\Grow K ρ H ρ2 H2/\SRep K ρ2 H2 S2 τ/\W m S2 M2,⟨m0,S,M,ρ,s,.refl,sr,w0⟩,?_⟩
 rintro m τ H2 ⟨S2,M2,ρ2,s2,g2,sr2,w2⟩
 refine⟨S2,M2,ρ2,_,s2,sr2,turn m S2 M2 w2,fun b H3 ⟨M3,ρ3,s3,g3,q3⟩=>?_⟩
 have g13:=g2.trans g3
 cases b with
 | true =>
  have again:∀ τ5 H5,SQ K ρ3 H3 (fun S' M'=>∃ m',m' < m/\W m' S' M') τ5 H5->∃ m',m' < m/\∃ S2 M2 ρ2,Sim K ρ2 M2 H5/\Grow K ρ H ρ2 H5/\SRep K ρ2 H5 S2 τ5/\W m' S2 M2:=fun τ5 H5 ⟨S5,M5,ρ5,s5,g5,sr5,m',lt,w5⟩=>⟨m',lt,S5,M5,ρ5,s5,g13.trans g5,sr5,w5⟩
  refine bQ ⟨_,fun τ' H' z=>z,S2,M3,ρ3,_,s3,sr2.grow g3,(show tb _ S2 M3 from q3),?_⟩
  exact⟨again,fun v H5 z=>k.rt v H5 (VQ.trans g13 z),fun τ5 H5 z=>k.nx τ5 H5 (SQ.trans g13 z),again⟩
 | false=>exact bH (k.nx τ H3 ⟨S2,M3,ρ3,s3,g13,sr2.grow g3,(show F.nx S2 M3 from q3)⟩)
section
variable{X:Cx}{c:Expr}{body:List Stmt}{tc:DTT}{tb:DTS}{pos:Pos}
theorem ij(hc:HT X c tc)(hb:HB X body tb)(hp:PassesOwn (model X.prog X.w) X.A X.env X.xe:=by exact PassesOwn.never):HS X (.While c body [] pos) (rN tc tb):=⟨PS.imp (xv hp hc.ok hb.ok) sM⟩
end
end L2
set_option maxRecDepth 100000
namespace L2
open PySem PySem.Spec PyProof.Rows DL PySem.W
theorem kQ:typeLookup (.type "tuple") "keys" = pure none:=by rw[typeLookup_type,builtinLookup_eq_fast]; kernel_rfl
section
variable{prog:Program}{w:World}{A:Around}{E:Value->Shared->Prop}{h:Heap}{g:Array GenState}{d:Drawn}{t:Nat}{os:OsState}{a:Addr}{o:Obj}
theorem xb(hx:h.get? a=some o)(hc:o.cls=.type "tuple")(hdict:o.dict=none)(hdat:o.data=.seq its nn)(hA:A.handled=none)(hq:∀ h' tk e,Heap.NewAttrErr h h' e (.ref a) "keys"->R (.error (.ref e)) ⟨h',g,d,tk,os⟩) :
  codeAny (model prog w) A (.call (.builtin "tuple.__getattribute__") ⟨[.ref a,.str "keys" u],[]⟩) R ⟨h,g,d,t,os⟩:=by
 obtain⟨oc,od,odt,osl⟩:=o
 obtain rfl:oc=.type "tuple":=hc
 obtain rfl:od=none:=hdict
 obtain rfl:odt=.seq its nn:=hdat
 have hT:(⟨h,g,d,t,os⟩:Shared).TypeIs (.ref a) "tuple":=⟨_,hx,rfl⟩
 have f4:=kQ
 refine codeAny_call_builtin PySem.F.slot_tuple_getattribute.plain PySem.F.entry_tuple_ga (PySem.F.slot_tuple_getattribute.check _ _ _ _ _ _ _ _ hT (PySem.F.args_tuple_getattribute_2 _ _) ?_)
 unfold Builtin.«object.__getattribute__»
 repeat (any_goals (first | assumption | wp_step))
 refine wpAny_raiseAttrError (o:=.ref a) (name:="keys") (by first | exact hA | simpa using hA) hq ?_
 exact attrMsg_fits (by decide +kernel) (by size_fits)
theorem su(hx:h.get? a=some o)(hc:o.cls=.type "tuple")(hdict:o.dict=none)(hdat:o.data=.seq its nn)(hA:A.handled=none)(hq:∀ h' tk,(∀ b ob,h.get? b=some ob->h'.get? b=some ob)->Q none ⟨h',g,d,tk,os⟩) :
  wpAny (model prog w) A (getAttr? (.ref a) "keys") Q E ⟨h,g,d,t,os⟩:=by
 obtain⟨oc,od,odt,osl⟩:=o
 obtain rfl:oc=.type "tuple":=hc
 obtain rfl:od=none:=hdict
 obtain rfl:odt=.seq its nn:=hdat
 have hT:∀ tk,(⟨h,g,d,tk,os⟩:Shared).TypeIs (.ref a) "tuple":=fun _=>⟨_,hx,rfl⟩
 have f1:=sub_AttributeError
 have f2:=PySem.F.slot_tuple_getattribute.lookup
 have f3:=PySem.F.slot_tuple_getattribute.bind (.ref a)
 have f5:=PySem.am_tuple_getattr_none
 unfold getAttr? getAttrBy? getAttrBy
 repeat (any_goals (first | assumption | exact hT _ | wp_step))
 refine xb hx rfl rfl rfl (by first | exact hA | simpa using hA) fun h' tk e hx'=>?_
 obtain⟨t',u',he⟩:=hx'.there
 unfold getattributeRaised
 repeat (any_goals (first | assumption | wp_step))
 exact hq _ _ hx'.keeps
end
section
variable{X:Cx}{pins:List (Addr×Obj)}{σ:St}{H:Hp}{ρ:List Addr}{M:Mem}{A:Around}{E:Value->Shared->Prop}{s:Shared}
theorem Inv.tupN(I:Inv X pins σ H s)(h:SqT X.K H a xs):∃ its:List Value,ar xs its/\yL s.heap a its.toArray/\xs.length<=sizeLine:=by
 rcases h with h | ⟨o,its,n,hk,hc,hd,hs,hz,r⟩
 ·obtain⟨z,its,r,p⟩:=h.ok I.hok
  exact⟨its,r,p,z⟩
 ·refine⟨its.toList,r,⟨o,I.kIn a o hk,hc,⟨n,by simpa using hs⟩,hd⟩,?_⟩
  have e:=r.length
  simp only[Array.length_toList] at e
  lia
end
section
variable{X:Cx}{k:Nat}
end
end L2
set_option maxRecDepth 100000
namespace L2
open PySem PySem.Spec PyProof.Rows DL PySem.W
inductive TopB(mg:Str->Option Value):List Str->List (Str×Int)->Prop
 | nil:TopB mg [] []
 | b {x:Str}{B:List Str}{C:List (Str×Int)} (h:mg x=none) (t:TopB mg B C):TopB mg (x::B) C
 | c {x:Str}{i:Int}{C:List (Str×Int)} (h:∃ t,mg x=some (.int i t)) (t:TopB mg [] C):TopB mg [] ((x,i)::C)
theorem TopB.no(h:TopB mg B C)(c:B.contains x=true):mg x=none:=by
 induction h with
 | nil=>simp at c
 | b h _ ih =>
  simp only[List.contains_cons,Bool.or_eq_true,beq_iff_eq] at c
  rcases c with rfl | c
  ·exact h
  ·exact ih c
 | c _ _ _=>simp at c
def nodB:List Str->Bool
 | []=>true
 | x::xs=>!xs.contains x&&nodB xs
theorem AR:∀ {l:List Str},nodB l=true->l.Nodup
 | [],_=>List.nodup_nil
 | x::xs,h=>by
  simp only[nodB,Bool.and_eq_true,Bool.not_eq_true',List.contains_eq_mem,decide_eq_false_iff_not] at h
  exact List.nodup_cons.mpr ⟨h.1,AR h.2⟩
def tgN:Expr->List Str
 | .Name x _=>[x]
 | .Tuple es _ _=>es.filterMap fun | .Name x _=>some x | _=>none
 | _=>[]
abbrev lcN(N:List Str)(js:List Nat)(tg:Expr):List Str:=tgN tg++js.map fun j=>N.getD j ""
section
variable{X:Cx}{tg iter elt:Expr}{ifs:List Expr}{scope:Scope}{nt i:Nat}{js:List Nat}{di:DTI}{g:DTG}{tt:DTT}{te:DTE}{pos pos' pos2:Pos}{x:Str}
theorem DQ(hi:HI X tg iter di)(hg:∀ cl s0 H0 ex,HG (blk X (lcN X.N js tg) scope cl s0 H0 ex) tg g)(ht:∀ cl s0 H0 ex,HTs (blk X (lcN X.N js tg) scope cl s0 H0 ex) ifs tt)(he:∀ cl s0 H0 ex,HE (blk X (lcN X.N js tg) scope cl s0 H0 ex) elt te)
  (B:kJ X.env.scope.names X.N (lcN X.N js tg) nt js scope=true:=by kernel_rfl) (hc:X.calm=true:=by kernel_rfl) (hs:∀ x,foldedSetIterable iter X.env x=pure x:=by intro _; kernel_rfl):HE X (.ListComp elt [⟨tg,iter,ifs,0⟩] scope pos) (dLC nt js di g tt te):=k_lc hi hg ht he B hc hs
theorem fY(hN:X.N.Nodup)(hi:HI X tg iter di)(hg:∀ cl s0 H0 ex,HG (blk X (lcN X.N js tg) scope cl s0 H0 ex) tg g)(ht:∀ cl s0 H0 ex,HTs (blk X (lcN X.N js tg) scope cl s0 H0 ex) ifs tt)(he:∀ cl s0 H0 ex,HE (blk X (lcN X.N js tg) scope cl s0 H0 ex) elt te)
  (B:kJ X.env.scope.names X.N (lcN X.N js tg) nt js scope=true:=by kernel_rfl) (hc:X.calm=true:=by kernel_rfl) (hs:∀ x,foldedSetIterable iter X.env x=pure x:=by intro _; kernel_rfl) (hsw:swapsWith (.ListComp elt [⟨tg,iter,ifs,0⟩] scope pos) (some (.Name x pos')) pos2.line X.env=pure true:=by kernel_rfl)
  (hix:X.N[i]?=some x:=by kernel_rfl) (hx:BX X.env.scope x=true:=by kernel_rfl) (hf:X.fn x=true:=by kernel_rfl):HS X (.Assign [.Name x pos'] (.ListComp elt [⟨tg,iter,ifs,0⟩] scope pos) pos2) (kI nt js di g tt te i):=xY hN hi hg ht he B hc hs hsw hix hx hf
theorem gA(h:HA X es t):HA X es t:=h
theorem gE(h:HE X e te):HE X e te:=h
theorem Ek(h:HE X (.Call a b c pos) te):HE X (.Call a b c pos) te:=h
theorem gIx(h:HE X (.Subscript a b pos) te):HE X (.Subscript a b pos) te:=h
theorem zH(h:HE X (.Constant a b pos) te):HE X (.Constant a b pos) te:=h
theorem gT(h:HT X e tt):HT X e tt:=h
theorem gS{st:Stmt}{t:DTS}(h:HS X st t):HS X st t:=h
theorem gOp(h:HOp X f r):HOp X f r:=h
theorem gC(h:HC X f r):HC X f r:=h
theorem wo{b:List Stmt}{st:Stmt}{sts:List Stmt}{t:DTS}(h:b=st::sts)(q:HB X (st::sts) t):HB X b t:=h ▸ q
end
section
variable{P:Program}{w:World}{K:PySem.W.Frag}{mg:Str->Option Value}{base:Heap}{x:Str}{st:Stmt}{N ps:List Str}{k:Nat}{Pr:DSp}{B:List Str}{C:List (Str×Int)}{t:DTS}
theorem Cal.byD(T:TopB mg B C)(F:cR K mg x st ps)(Sc:FnScope N ps (am st))(len:dB Pr ps)(der:TopB mg B C->N.Nodup->DerT P w K mg base k x N st t)(wp:∀ ds M R,Pr ds M R->t (EE M R) (bR N ds) M):Cal P w K mg base (k+1) x ps Pr :=
 Cal.byH F Sc len (der T Sc.nd) wp
theorem ym(T:TopB mg B C)(F:Fun K x x st f fd)(Sc:FnScope N ps (am st))(len:dB Pr ps)(der:TopB mg B C->N.Nodup->DerT P w K mg base k x N st t)(wp:∀ ds M R,Pr ds M R->t (EE M R) (bR N ds) M):FnOk P w K mg base CX0 (k+1) f fd ps (spL K Pr) :=
 yk F Sc len (der T Sc.nd) wp
end
end L2
set_option maxRecDepth 100000
namespace L2
open PySem PySem.Spec PyProof.Rows DL PySem.W
section
variable{prog:Program}{w:World}{A:Around}{E:Value->Shared->Prop}{s:Shared}
theorem pK(ho:s.heap.get? l=some o)(hc:o.cls=.type "list"\/o.cls=.type "tuple")(hd:o.data=.seq vs.toArray n)
  (h:Q vs { s with heap:=(s.heap.push (seqObj "list" #[] 0)).update s.heap.objs.size (Obj.mapSeq (· ++ vs.toArray)) }) (hsz:vs.length<=sizeLine):wpAny (model prog w) A (collect (.ref l)) Q E s:=by
 rcases hc with hc | hc
 ·exact collect_list ⟨o,ho,hc,n,hd⟩ h hsz
 unfold collect
 refine wpAny_bind (wpAny_runValue (codeAny_builtin entry_proto_collect' ?_))
 show wpAny _ _ (do again (.builtin "list.__iadd__" ⟨[← newList [],.ref l],[]⟩)) _ _ s
 refine wpAny_bind (wpAny_newList (wpAny_pure ⟨Code.quiet_builtin _ (by decide +kernel),codeAny_builtin entry_list_iadd' ?_⟩) (Nat.zero_le _))
 show wpAny _ _ (Builtin.List.listExtendWith (.ref s.heap.objs.size) (.ref l) (.ref s.heap.objs.size)) _ _ { s with heap:=s.heap.push (seqObj "list" #[] 0) }
 unfold Builtin.List.listExtendWith
 have ho':(s.heap.push (seqObj "list" #[] 0)).get? l=some o:=Heap.get?_push_of_some _ ho
 refine wpAny_bind (wpAny_typeOf (T:="tuple") ⟨o,ho',hc⟩ ?_)
 have ht:(Value.type "tuple" == Value.type "tuple")=true:=by rfl
 rw[if_pos (by rw[ht]; simp)]
 refine wpAny_bind (listItems_at ho' hd ?_)
 refine wpAny_bind (listItems_at (xs:=#[]) (n:=0) (Heap.get?_push_size _ rfl) rfl ?_)
 rw[if_neg (by simp)]
 refine wpAny_bind (listUpdate_at (xs:=#[]) (n:=0) (Heap.get?_push_size _ rfl) rfl ?_ (Nat.zero_le _) (by show (#[]++vs.toArray).size<=sizeLine+1; simp only[Array.size_append,List.size_toArray,List.length_nil]; lia))
 refine wpAny_pure ?_
 show wpAny (model prog w) A (do
   let o ← load s.heap.objs.size
   match o.data with
   | .seq xs _=>pure xs.toList
   | _=>unsupported "internal:collect") Q E { s with heap:=(s.heap.push (seqObj "list" #[] 0)).update s.heap.objs.size (Obj.mapSeq (· ++ vs.toArray)) }
 refine wpAny_bind (wpAny_load (get?_update_seq (Heap.get?_push_size _ rfl) _) ?_)
 show wpAny _ _ (pure ((#[]:Array Value)++vs.toArray).toList) Q E _
 rw[show ((#[]:Array Value)++vs.toArray).toList=vs by simp]
 exact wpAny_pure h
variable{h₀:Heap}{L kS a:Addr}{m:Str->Option Value}{vs:List Value}
theorem Ad(hl:ks.length=vs.length)(h2:vs.length < 2)(h:KatFin h₀ L m kS a ks e e1 vs (fun s3=>P (.done (.ret .none)) s3) s) :
  wpAny (model prog w) A (ksk_end a false vs.toArray e1 (.ref kS) (List.toArray ks)) P E s:=by
 have hn2:vs.toArray.size < 2:=by rw[List.size_toArray]; exact h2
 unfold ksk_end
 dsimp only
 simp only[Bool.false_eq_true,if_false]
 rw[if_pos hn2,if_pos hn2]
 refine wpAny_bind (wpAny_pure ?_)
 rw[StateT.run_pure]
 refine wpAny_bind (wpAny_pure ?_)
 dsimp only
 refine kat_tail (out:=vs) ?_ (by lia) (by lia) rfl h
 show ((List.toArray ks).zip vs.toArray).map (·.2)=vs.toArray
 match ks,vs,hl,h2 with
 | [],[],_,_=>simp
 | [k],[v],_,_=>simp
 | [],_::_,hl,_=>simp at hl
 | _::_,[],hl,_=>simp at hl
 | _::_::_,[_],hl,_=>simp at hl
 | _,_::_::_,_,h2=>simp at h2; lia
theorem Ab{f:Value}{e1:Nat}{P:PySem.Fin->Shared->Prop}{Fin:List Value->Nat->Shared->Prop}(hk:s.heap.get? kS=some (seqObj "list" #[] 0))(h64:vs.length < 64)
  (hend:∀ ks e s',ks.length=vs.length->Fin ks e s'->wpAny (model prog w) A (ksk_end a false vs.toArray e1 (.ref kS) (List.toArray ks)) P E s') (h:KatKeys prog w A h₀ L m kS f Fin vs [] 0 s) :
  wpAny (model prog w) A (ksk_rest a f false vs.toArray e1 (.ref kS)) P E s:=by
 unfold ksk_rest
 refine wpAny_bind (wpAny_rule ?_)
 first
  | rw[List.forIn_toArray]
  | (rw[← Array.forIn_toList]; simp only[List.toList_toArray])
  | rw[← Array.forIn_toList]
 refine wpAny_bind (wpAny_mono (kat_fold h64 (fun x ks e s' C hz hx=>?_) vs [] 0 s (by simp) hk h) (fun _ s' hd=>?_) fun _ _ x=>x)
 ·refine wpAny_bind (wpAny_attempt (wpAny_mono hx (fun k s'' hk=>?_) fun _ _ hF=>hF.elim))
  obtain⟨news',g,F',N',U,c⟩:=hk
  obtain⟨pre,post,e0,hg,x1,x2⟩:=U.split
  rw[e0] at N'
  have nk:=N' (kS,seqObj "list" (List.toArray ks) e) (List.mem_append_right _ (.head _))
  have s1:=Heap.SameBut.update s''.heap kS (Obj.mapSeq (·.push k))
  have ea:(List.toArray ks).push k=List.toArray (ks++[k]):=by simp
  obtain⟨c2,hc2⟩:∃ c2,(s''.heap.update kS (Obj.mapSeq (·.push k))).get? kS=some (seqObj "list" (List.toArray (ks++[k])) c2):=⟨_,by rw[← ea]; exact get?_update_seq nk.1 (·.push k)⟩
  try dsimp only
  refine wpAny_bind (listUpdate_at nk.1 rfl ?_ (by rw[List.size_toArray,sizeLine_eq]; lia) (Nat.le_trans (Nat.le_of_eq (Array.size_push ..)) (by rw[List.size_toArray,sizeLine_eq]; lia)))
  exact wpAny_pure ⟨rfl,k,c2,hc2,c _ c2 (kas_fr F' s1 nk.2.1 nk.2.2) (by rw[hg]; exact news_set N' x1 x2 s1 hc2)⟩
 ·obtain⟨ks,e,hk',hl,fin⟩:=hd
  try dsimp only
  exact wpAny_bind (listItems_at hk' rfl (hend ks e s' hl fin))
end
section
variable{X:Cx}{pins:List (Addr×Obj)}{σ:St}{H:Hp}{s:Shared}{a:Addr}
structure Own(X:Cx)(pins:List (Addr×Obj))(H:Hp)(a:Addr):Prop where
 un:H a=none
 ne:a≠X.env.locals
 fs:a∉X.fs
 s0:X.s₀.heap.objs.size<=a
 cl:∀ x c,X.env.cells.lookup x=some c->c≠a
 pn:∀ p∈X.pn++pins,p.1≠a
theorem Inv.own(I:Inv X pins σ H s)(h:s.heap.objs.size<=a):Own X pins H a :=
 ⟨I.hok.fresh h,fun e=>by rw[e] at h; exact absurd (Nat.lt_of_lt_of_le I.lt h) (Nat.lt_irrefl _),I.nofs h,Nat.le_trans I.sz h,fun x c e z=>by
  obtain⟨v,o,ho,_⟩:=I.cell x c e
  rw[z] at ho
  exact absurd (Nat.lt_of_lt_of_le (Heap.lt_size ho) h) (Nat.lt_irrefl _),fun p hp e=>by
  have:=Heap.lt_size (I.pin p hp).1
  rw[e] at this
  exact absurd (Nat.lt_of_lt_of_le this h) (Nat.lt_irrefl _)⟩
theorem Inv.turnF(I:Inv X pins σ H s)(w:Own X pins H a)(k:∀ b u,b≠X.env.locals->b≠a->s.heap.get? b=some u->h'.get? b=some u)(hn:s.heap.Ns X.env.locals m)(hn':h'.Ns X.env.locals m):Inv X pins σ H { s with heap:=h' }:=by
 have na:∀ b u,H b=some u->b≠a:=fun b u e=>ad e w.un
 refine I.step (g':=s.gens) (d':=s.drawn) (t':=s.toks) (ch:=[a]) (fun b hb=>?_) (fun b u hL _ hc e _=>k b u hL (by simpa using hc) e) (fun b u hL _ hc e _=>⟨u.slots,k b u hL (by simpa using hc) e⟩) (fun b u _ e n=>n) (fun b u hc e=>?_)
  (fun b xs q=>q) (fun b u xs q=>q) (fun b ps q=>⟨#[],by rw[q]; simp⟩) (fun m' hm=>?_) (fun b u q=>?_) I.bare
 ·obtain rfl:b=a:=by simpa using hb
  exact⟨.inr w.s0,w.ne,w.cl,w.pn⟩
 ·by_cases hb:b=X.env.locals
  ·subst hb
   obtain⟨o',_,_,ho,_⟩:=hn'
   exact⟨o',ho⟩
  ·exact⟨u,k b u hb (by simpa using hc) e⟩
 ·have:m=m':=funext fun x=>hn.agree hm x
  subst this
  exact hn'
 ·refine(I.hok b u q).stay (fun c v hc r=>k c v ?_ ?_ r) (fun c z=>z) fun c xs z=>z
  ·rcases hc with rfl | hc
   ·exact ad q I.free
   ·exact ad hc I.free
  ·rcases hc with rfl | hc
   ·exact na _ _ q
   ·exact na _ _ hc
theorem Inv.adoptF(I:Inv X pins σ H s)(w:Own X pins H a)(k:∀ b u,b≠X.env.locals->b≠a->s.heap.get? b=some u->h'.get? b=some u)(hn:s.heap.Ns X.env.locals m)(hn':h'.Ns X.env.locals m)
  (new:bW X.prog X.w (upd H a o) h' a o):Inv X pins σ (upd H a o) { s with heap:=h' }:=by
 have fa:=w.un
 refine I.step (g':=s.gens) (d':=s.drawn) (t':=s.toks) (ch:=[a]) (fun b hb=>?_) (fun b u hL _ hc e _=>k b u hL (by simpa using hc) e) (fun b u hL _ hc e _=>⟨u.slots,k b u hL (by simpa using hc) e⟩) (fun b u hc e n=>by rw[ak (by simpa using hc)]; exact n) (fun b u hc e=>?_)
  (fun b xs q=>by rw[ak (ad q fa)]; exact q) (fun b u xs q=>by rw[ak (ad q fa)]; exact q) (fun b ps q=>⟨#[],by rw[ak (ad q fa),q]; simp⟩) (fun m' hm=>?_) (fun b u q=>?_) I.bare
 ·obtain rfl:b=a:=by simpa using hb
  exact⟨.inr w.s0,w.ne,w.cl,w.pn⟩
 ·by_cases hb:b=X.env.locals
  ·subst hb
   obtain⟨o',_,_,ho,_⟩:=hn'
   exact⟨o',ho⟩
  ·exact⟨u,k b u hb (by simpa using hc) e⟩
 ·have:m=m':=funext fun x=>hn.agree hm x
  subst this
  exact hn'
 ·by_cases hb:b=a
  ·subst hb
   rw[aI] at q
   cases q
   exact new
  ·rw[ak hb] at q
   refine(I.hok b u q).stay (fun c v hc r=>k c v ?_ ?_ r) (fun c z=>by rw[ak (ad z fa)]; exact z) fun c xs z=>by rw[ak (ad z fa)]; exact z
   ·rcases hc with rfl | hc
    ·exact ad q I.free
    ·exact ad hc I.free
   ·rcases hc with rfl | hc
    ·exact ad q fa
    ·exact ad hc fa
end
section
variable{X:Cx}{pins:List (Addr×Obj)}{σ:St}{ρ:List Addr}{M:Mem}
structure KySt(X:Cx)(pins:List (Addr×Obj))(σ:St)(ρ:List Addr)(M:Mem)(m:Str->Option Value)(kS aD:Addr)(e1:Nat)(H0 H:Hp)(s:Shared)(ks:List Value)(e:Nat):Prop where
 inv:Inv X pins σ H s
 ns:s.heap.Ns X.env.locals m
 sm:Sim X.K ρ M H
 gr:Grow X.K ρ H0 ρ H
 hk:s.heap.get? kS=some (seqObj "list" (List.toArray ks) e)
 hd:s.heap.get? aD=some (seqObj "list" #[] e1)
 ok:Own X pins H kS
 od:Own X pins H aD
 ne:aD≠kS
theorem Bo(n:h.Ns L m):Fr (Att.noObjs h0) L h m :=
 ⟨n,fun b o e=>(by rw[Att.noObjs_get] at e; cases e),Nat.zero_le _⟩
theorem oU(hne:d≠L)(ho:h.get? d=some od):News (Att.noObjs h0) L h ((d,od)::Att.ledger h L d):=by
 rintro⟨a,o⟩ hp
 rcases List.mem_cons.mp hp with e | hp
 ·cases e
  exact⟨ho,hne,Att.noObjs_get _ _⟩
 ·obtain⟨n1,n2,e⟩:=Att.mem_ledger.mp hp
  exact⟨e,n1,Att.noObjs_get _ _⟩
theorem iW(N:News (Att.noObjs h0) L h' ((d,o)::Att.ledger h L d)):∀ b u,b≠L->b≠d->h.get? b=some u->h'.get? b=some u :=
 fun b u h1 h2 e=>(N (b,u) (List.mem_cons_of_mem _ (Att.mem_ledger.mpr ⟨h1,h2,e⟩))).1
abbrev KeyG(X:Cx)(pins:List (Addr×Obj))(σ:St)(ρ:List Addr)(M:Mem)(f:Addr)(key:D->D)(xs:List D):Prop:=∀ (s:Shared) (H:Hp) (d:D) (v:V) (u:Value),d∈xs->Inv X pins σ H s->Sim X.K ρ M H->Rep X.K ρ H d v->aJ v u ->
 codeAny (model X.prog X.w) X.A.in1.in1 (.call (.ref f) ⟨[u],[]⟩) (CR CX0 X.stack X.prog X.w H s (fun v' H'=>VQ X.K ρ H (fun x M'=>x=key d/\M'=M) v' H') E0) s
theorem Ac{f:Addr}{key:D->D}{xs:List D}(G:KeyG X pins σ ρ M f key xs){h0:Heap}{m:Str->Option Value}{aD kS:Addr}{e1:Nat}{H0:Hp}
  {Fin:List Value->Nat->Shared->Prop}{keys:List D} (fin:∀ H s kvs ks e,KySt X pins σ ρ M m kS aD e1 H0 H s ks e->Reps X.K ρ H keys kvs->ar kvs ks->Fin ks e s) :
  ∀ (r:List D) (ws:List V) (its:List Value) (done:List D) (kvs:List V) (ks:List Value) (e:Nat) (H:Hp) (s:Shared),KySt X pins σ ρ M m kS aD e1 H0 H s ks e->Reps X.K ρ H r ws->ar ws its->Reps X.K ρ H done kvs->ar kvs ks ->
   done++r.map key=keys->(∀ d∈r,d∈xs)->KatKeys X.prog X.w X.A.in1.in1 (Att.noObjs h0) X.env.locals m kS (.ref f) Fin its ks e s:=by
 intro r
 induction r with
 | nil =>
  intro ws its done kvs ks e H s g r v rd vd hk _
  obtain rfl:=Reps.inv_nil r
  obtain rfl:=ar.inv_nil v
  refine KatKeys.nil (fin H s kvs ks e g ?_ vd)
  rw[← hk,List.map_nil,List.append_nil]
  exact rd
 | cons d r ih =>
  intro ws its done kvs ks e H s g rr v rd vd hk hP
  obtain⟨vd1,ws,rfl,r1,rr⟩:=Reps.inv_cons rr
  obtain⟨u,its,rfl,ru,v⟩:=ar.inv_cons v
  have I:=g.inv
  refine KatKeys.cons (wpAny_call (codeAny_mono (G s H d vd1 u (hP d List.mem_cons_self) I g.sm r1 ru) fun res s' hq=>?_))
  cases res with
  | error e=>exact hq.elim
  | ok fl =>
   cases fl with
   | next=>exact hq.elim
   | brk=>exact hq.elim
   | cont=>exact hq.elim
   | ret u' =>
    obtain⟨v',H',os,bare,un,hok,rv,q⟩:=hq
    obtain⟨hh,gg,dr,tk,os'⟩:=s'
    obtain rfl:os'=s.os:=os
    obtain⟨_,_,ρ',s1,g1,r1',rfl,rfl⟩:=q
    have eρ:ρ'=ρ:=by
     obtain⟨t,rfl⟩:=g1.pre
     have h1:=s1.len
     have h2:=g.sm.len
     rw[List.length_append] at h1
     rw[List.eq_nil_of_length_eq_zero (show t.length=0 by lia),List.append_nil]
    subst eρ
    have J:Inv X ((kS,seqObj "list" (List.toArray ks) e)::(aD,seqObj "list" #[] e1)::pins) σ H s:=I.pins_of fun p hp=>by
     rcases List.mem_cons.mp hp with rfl | hp
     ·exact⟨g.hk,g.ok.un,g.ok.ne,g.ok.fs,fun _ z=>nomatch z⟩
     ·rcases List.mem_cons.mp hp with rfl | hp
      ·exact⟨g.hd,g.od.un,g.od.ne,g.od.fs,fun _ z=>nomatch z⟩
      ·exact I.pin p (List.mem_append_right _ hp)
    have J':=J.call (h':=hh) (g':=gg) (d':=dr) (t':=tk) (ch:=[]) un hok bare (fun b z=>absurd z (by simp))
    have pk:=J'.pin (kS,_) (List.mem_append_right _ List.mem_cons_self)
    have pd:=J'.pin (aD,_) (List.mem_append_right _ (List.mem_cons_of_mem _ List.mem_cons_self))
    have I':Inv X pins σ H' ⟨hh,gg,dr,tk,s.os⟩:=J'.pins_of fun p hp=>J'.pin p (List.mem_append_right _ (List.mem_cons_of_mem _ (List.mem_cons_of_mem _ hp)))
    have ns':hh.Ns X.env.locals m:=by
     obtain⟨o,es,ep,ho,aN⟩:=g.ns
     obtain⟨sl,hL⟩:=un.any ho I.free (by simp)
     exact⟨_,es,ep,hL,aN⟩
    have ok':Own X pins H' kS:=⟨pk.2.1,g.ok.ne,g.ok.fs,g.ok.s0,g.ok.cl,g.ok.pn⟩
    have od':Own X pins H' aD:=⟨pd.2.1,g.od.ne,g.od.fs,g.od.s0,g.od.cl,g.od.pn⟩
    refine KatBack.intro (s:=⟨hh,gg,dr,tk,s.os⟩) (Bo ns') (oU ok'.ne pk.1) (UpdF.head fun p hp=>(Att.mem_ledger.mp hp).2.1) fun h2 c F2 N2=>?_
    have kp:=iW N2
    refine ih ws its (done++[key d]) (kvs++[v']) (ks++[u']) c H' _ ⟨I'.turnF ok' kp ns' F2.ns,F2.ns,s1,⟨g.gr.pre,fun x xs h=>g1.tup x xs (g.gr.tup x xs h)⟩,(N2 _ List.mem_cons_self).1,kp aD _ od'.ne g.ne pd.1,ok',od',g.ne⟩ (rr.grow g1) v
     ((rd.grow g1).append (.cons r1' .nil)) (vd.append (.cons rv .nil)) (by rw[← hk,List.map_cons,List.append_assoc]; rfl) fun x hx=>hP x (List.mem_cons_of_mem _ hx)
theorem qJ{k n:Nat}{f l:Addr}{o:Obj}{s:Shared}{H:Hp}{xs:List D}{ws:List V}{its:List Value}{key:D->D}{R:VK}(G:KeyG X pins σ ρ M f key xs)(hr:Room (k+2) X.A)
  (I:Inv X pins σ H s) (sm:Sim X.K ρ M H) (r:Reps X.K ρ H xs ws) (rr:ar ws its) (ho:s.heap.get? l=some o) (hc:o.cls=.type "list"\/o.cls=.type "tuple") (hd:o.data=.seq its.toArray n) (h64:its.length < 64) (so:SrtG M (xs.map key)) (kk:∀ v H',(∀ Q:DK,(∀ ys,ys.Perm xs->ys.Pairwise (fun a b=>ltD M eqN (key b) (key a)=false)->Q (.ref M.length) (M++[.lst ys]))->VQ X.K ρ H Q v H')->R v H') :
  wpAny (model X.prog X.w) X.A (call (.builtin "sorted") [.ref l] [(Str.ofString "key",.ref f)]) (EP X pins σ R) X.xe s:=by
 have lw:=r.length
 have li:=rr.length
 have few:its.length<=sizeLine:=by rw[sizeLine_eq]; lia
 refine call_function_entry_kw kind_sorted plain_sorted entry_sorted (ksk_s1 _ _) ?_
 unfold Builtin.«sorted»
 refine wpAny_bind (m:=checkCount "sorted" 1 1 _) (wpAny_pure (wpAny_bind (pK ho hc hd (wpAny_bind (wpAny_newList ?_ few)) few)))
 generalize hg:((s.heap.push (seqObj "list" #[] 0)).update s.heap.objs.size (Obj.mapSeq (· ++ its.toArray)))=g1
 have hsz:g1.objs.size=s.heap.objs.size+1:=by rw[← hg,Heap.size_update,size_push']
 have k1:∀ b o,s.heap.get? b=some o->g1.get? b=some o:=fun b o q=>by
  have hlt:=Heap.lt_size q
  rw[← hg,Heap.get?_update_ne _ _ _ _ (Nat.ne_of_lt hlt),Heap.get?_push_ne _ _ _ (Nat.ne_of_lt hlt)]
  exact q
 show wpAny _ _ _ _ _ { s with heap:=g1.push (seqObj "list" its.toArray 0) }
 have hoL:(g1.push (seqObj "list" its.toArray 0)).get? g1.objs.size=some (seqObj "list" its.toArray 0):=Heap.get?_push_size _ rfl
 refine wpAny_bind (wpAny_holding (wpAny_call_entry_kw slot_list_sort (⟨_,hoL,rfl⟩) entry_list_sort ?body (ksk_l1 _ _)))
 case body =>
  show wpAny (model X.prog X.w) X.A.in1.in1 (Builtin.«list.sort» ⟨[.ref g1.objs.size],[(Str.ofString "key",.ref f)]⟩) _ _ _
  rw[ksk_t1]
  unfold ksk_tree
  refine wpAny_bind (listItems_at hoL rfl (wpAny_bind (listUpdate_at hoL rfl ?_ (by rw[List.size_toArray]; exact few) (Nat.zero_le _))))
  obtain⟨e1,ho1⟩:∃ e1,((g1.push (seqObj "list" its.toArray 0)).update g1.objs.size (Obj.mapSeq fun _=>(#[]:Array Value))).get? g1.objs.size=some (seqObj "list" #[] e1):=⟨_,get?_update_seq hoL fun _=>#[]⟩
  refine wpAny_bind (seqEpoch_at ho1 rfl (wpAny_bind (wpAny_newTuple (wpAny_bind (wpAny_newList (wpAny_holding ?_) (Nat.zero_le _))) few)))
  have k2:∀ b o,s.heap.get? b=some o->((g1.push (seqObj "list" its.toArray 0)).update g1.objs.size (Obj.mapSeq fun _=>(#[]:Array Value))).get? b=some o:=fun b o q=>by
   rw[Heap.get?_update_ne _ _ _ _ (Nat.ne_of_lt (by rw[hsz]; exact Nat.lt_succ_of_lt (Heap.lt_size q)))]
   exact Heap.get?_push_of_some _ (k1 b o q)
  have hsz2:((g1.push (seqObj "list" its.toArray 0)).update g1.objs.size (Obj.mapSeq fun _=>(#[]:Array Value))).objs.size=g1.objs.size+1:=by rw[Heap.size_update,size_push']
  generalize ((g1.push (seqObj "list" its.toArray 0)).update g1.objs.size (Obj.mapSeq fun _=>(#[]:Array Value)))=g2 at ho1 k2 hsz2 ⊢
  dsimp only
  have k3:∀ b o,g2.get? b=some o->((g2.push (seqObj "tuple" its.toArray 0)).push (seqObj "list" #[] 0)).get? b=some o:=fun b o q=>Heap.get?_push_of_some _ (Heap.get?_push_of_some _ q)
  have hk3:((g2.push (seqObj "tuple" its.toArray 0)).push (seqObj "list" #[] 0)).get? (g2.push (seqObj "tuple" its.toArray 0)).objs.size=some (seqObj "list" #[] 0):=Heap.get?_push_size _ rfl
  have hsz3:(g2.push (seqObj "tuple" its.toArray 0)).objs.size=g2.objs.size+1:=size_push' _ _
  generalize (g2.push (seqObj "tuple" its.toArray 0)).objs.size=kS at hk3 hsz3 ⊢
  generalize ((g2.push (seqObj "tuple" its.toArray 0)).push (seqObj "list" #[] 0))=g3 at hk3 k3 ⊢
  generalize g1.objs.size=aD at ho1 hsz hsz2 ⊢
  obtain⟨m,hn,_⟩:=I.loc
  have st:KySt X pins σ ρ M m kS aD e1 H H { s with heap:=g3 } [] 0 :=
   ⟨I.kept (t':=s.toks) fun b o q=>k3 b o (k2 b o q),(by obtain⟨o',es,ep,ho',aN⟩:=hn; exact⟨o',es,ep,k3 _ _ (k2 _ _ ho'),aN⟩),sm,.refl,hk3,k3 _ _ ho1,I.own (by rw[hsz3,hsz2,hsz]; exact Nat.le_add_right _ 3),I.own (by rw[hsz]; exact Nat.le_add_right _ 1),by rw[hsz3,hsz2]; exact Nat.ne_of_lt (Nat.lt_add_of_pos_right (by decide:0 < 2))⟩
  have hr2:Room k X.A.in1.in1:=(Room.in1 (k:=k+1) hr).in1
  refine Ab (h₀:=Att.noObjs s.heap) (L:=X.env.locals) (m:=m) (Fin:=fun ks e s'=>∃ H' kvs,KySt X pins σ ρ M m kS aD e1 H H' s' ks e/\Reps X.K ρ H' (xs.map key) kvs/\ar kvs ks) hk3 h64 (fun ks e s' hl ⟨H',kvs,g,rk,vk⟩=>?_)
   (Ac G (fun H' s' kvs ks e g r v=>⟨H',kvs,g,r,v⟩) xs ws its [] [] [] 0 H _ st r rr .nil .nil rfl fun _ q=>q)
  have fin:∀ ys zs out,Reps X.K ρ H' ys zs->ar zs out->ys.Perm xs->ys.Pairwise (fun a b=>ltD M eqN (key b) (key a)=false)->KatFin (Att.noObjs s.heap) X.env.locals m kS aD ks e e1 out (fun s4=>EP X pins σ R (.ref aD) s4) s':=fun ys zs out ry vy hp hw=>by
   refine KatFin.intro (Bo g.ns) (oU g.ok.ne g.hk) (UpdF.head fun p hp=>(Att.mem_ledger.mp hp).2.1) fun h2 c F2 N2=>?_
   have kp:=iW N2
   refine KasFin.intro (s:={ s' with heap:=h2 }) (Bo F2.ns) (oU g.od.ne (kp aD _ g.od.ne g.ne g.hd)) (UpdF.head fun p hp=>(Att.mem_ledger.mp hp).2.1) fun h3 c3 F3 N3=>?_
   refine⟨.ref aD,_,(g.inv.turnF g.ok kp g.ns F2.ns).adoptF (o:=.lst zs) g.od (iW N3) F2.ns F3.ns ⟨?_,out,c3,vy,(N3 _ List.mem_cons_self).1⟩,rfl,kk _ _ fun Q hQ=>VQ.laidL g.sm g.gr ry g.od.un (hQ ys hp hw)⟩
   rw[← ry.length,hp.length_eq,lw,li]
   exact few
  by_cases h2:its.length < 2
  ·refine Ad (hl) h2 ((fin xs ws its (r.grow g.gr) rr (List.Perm.refl _) ?_).mono fun s4 hq=>⟨_,rfl,wpAny_pure ⟨_,rfl,hq⟩⟩)
   match xs,(show xs.length < 2 by lia) with
   | [],_=>exact List.Pairwise.nil
   | [x],_=>exact List.pairwise_singleton _ _
   | _::_::_,hx=>simp at hx; lia
  ·have h2':2<=its.length:=by lia
   refine kat_end (b:=false) (h₀:=Att.noObjs s.heap) (L:=X.env.locals) (m:=m) (e:=e) hl h2' h64 ?_
   have hu:X.A.in1.in1.units+eqN < cLine:=by
    have:=hr.un
    have:eqN=30:=rfl
    show X.A.units+1+1+eqN < cLine
    lia
   have kl:ks.length=xs.length:=by lia
   refine wpAny_mono (iE g.inv g.sm so rk vk (by lia) hu) (fun κ s'' hk=>?_) fun _ _ x=>x
   obtain⟨rfl,hask⟩:=hk
   show (kas_sort its.length).kasWp (kas_ask X.prog X.w X.A.in1.in1 κ ks) (fun p s3=>KatFin (Att.noObjs s.heap) X.env.locals m kS aD ks e e1 (p.toList.map fun i=>its.getD i Value.none) _ s3) _
   have kget:∀ i,i < xs.length->(xs.map key).getD i default=key (xs.getD i default):=fun i hi=>by
    rw[List.getD_eq_getElem?_getD,List.getD_eq_getElem?_getD,List.getElem?_map,List.getElem?_eq_getElem hi]
    rfl
   refine Srt.wp_run (n:=its.length) (c:=fun i j=>if i < xs.length then (if j < xs.length then ltD M eqN (key (xs.getD i default)) (key (xs.getD j default)) else true) else false) (fun i j C hi hj hc=>?_) _ (Srt.sort_bd (by lia)).1 ?_
   ·refine hask i j C (by lia) (by lia) ?_
    rw[if_pos (by lia),if_pos (by lia)] at hc
    unfold ltc
    rw[kget i (by lia),kget j (by lia)]
    exact hc
   ·have hent:=Srt.All.run (c:=fun i j=>if i < xs.length then (if j < xs.length then ltD M eqN (key (xs.getD i default)) (key (xs.getD j default)) else true) else false) _ (Srt.sort_bd (n:=its.length) (by lia)).2
    obtain⟨o1,o2,o3⟩:=AE so
    have hm:∀ x∈xs,key x∈xs.map key:=fun x hx=>List.mem_map_of_mem hx
    have hsl:=Srt.sort_list (lt:=fun a b=>ltD M eqN (key a) (key b)) xs (by lia) (fun a ha=>o1 _ (hm a ha)) (fun a ha b hb d hd=>o2 _ (hm a ha) _ (hm b hb) _ (hm d hd)) (fun a ha b hb d hd=>o3 _ (hm a ha) _ (hm b hb) _ (hm d hd))
    try dsimp only at hsl
    rw[show xs.length=its.length by lia] at hsl hent ⊢
    generalize Srt.run _ (kas_sort its.length)=p at hent hsl ⊢
    have hi:∀ i∈p.toList,i < xs.length:=fun i h=>by
     have:=hent.mem_iff.mp h
     rw[List.mem_range] at this
     lia
    exact(fin _ _ _ ((r.grow g.gr).perm p.toList hi) (rr.perm p.toList fun i h=>by have:=hi i h; lia) hsl.1 hsl.2).mono fun s4 hq=>⟨_,rfl,wpAny_pure ⟨_,rfl,hq⟩⟩
end
end L2
namespace L2
open PySem PySem.Spec PyProof.Rows DL PySem.W
end L2
set_option maxRecDepth 100000
namespace L2
open PySem PySem.Spec PyProof.Rows DL PySem.W
structure BlkScC(X:Cx)(N':List Str)(nt:Nat)(js:List Nat)(scope:Scope):Prop where
 kind:scope.kind=.function
 kinds:∀ y∈scope.names,scope.names.lookup y.1=some y.2
 free:∀ y∈scope.names,y.2=.free->(X.env.kindOf y.1=some .cell\/X.env.kindOf y.1=some .free)
 len:N'.length=nt+js.length
 fr:∀ (k j:Nat),js[k]?=some j->∃ x,N'[nt+k]?=some x/\X.N[j]?=some x/\scope.names.lookup x=some .free/\(X.env.kindOf x=some .cell\/X.env.kindOf x=some .free)
structure CfOk(h:Heap)(k:Nat)(names:List (Str×NameKind))(acc cs:List (Str×Addr)):Prop where
 look:∀ z c,cs.lookup z=some c->(acc.lookup z=some c/\(z,NameKind.cell)∉names)\/((z,NameKind.cell)∈names/\k<=c/\h.IsCell c none)
 inj:∀ y z c,cs.lookup y=some c->cs.lookup z=some c->y=z
 old:∀ z c,acc.lookup z=some c->∃ c',cs.lookup z=some c'
 new:∀ z,(z,NameKind.cell)∈names->∃ c,cs.lookup z=some c
section
variable{X:Cx}{pins:List (Addr×Obj)}{σ:St}{H:Hp}{s:Shared}
end
section
variable{X:Cx}
end
def BC(i:Nat):DTG:=au i
section
variable{X:Cx}{tg iter elt:Expr}{ifs:List Expr}{scope:Scope}{nt i:Nat}{js:List Nat}{di:DTI}{g:DTG}{tt:DTT}{te:DTE}{pos:Pos}{x:Str}
end
end L2
set_option maxRecDepth 100000
namespace L2
open PySem PySem.Spec PyProof.Rows DL PySem.W
section
variable{prog:Program}{w:World}{A:Around}{E:Value->Shared->Prop}{s:Shared}{d b:Addr}{k:D}{xs:List (D×Addr×Value)}{e:Nat}
end
section
variable{K:PySem.W.Frag}{ρ:List Addr}{H:Hp}{M:Mem}{kvs:List (D×D)}{xs:List (D×Addr×Value)}
end
section
variable{X:Cx}{pins:List (Addr×Obj)}{σ:St}{H:Hp}{s:Shared}{ρ:List Addr}{M:Mem}
end
section
variable{X:Cx}{o:Expr}{pos:Pos}{k:Nat}{name:Str}{id:String}{e:Expr}{es:List Expr}{to:DTE}{t:DTA}{apos cpos:Pos}
end
end L2
set_option maxRecDepth 100000
namespace L2
open PySem PySem.Spec PyProof.Rows DL PySem.W
section
variable{X:Cx}{o i ke ve:Expr}{td ty tk tv:DTE}{pos:Pos}{k:Nat}
end
section
variable{X:Cx}{k:Nat}{o i:Expr}{td ty tk tv:DTE}{pos:Pos}{ke ve:Expr}
end
end L2
set_option maxRecDepth 100000
namespace L2
open PySem PySem.Spec PyProof.Rows DL PySem.W
section
variable{K:PySem.W.Frag}{ρ:List Addr}{H:Hp}
end
section
variable{X:Cx}{o:Expr}{pos:Pos}{k:Nat}{name:Str}{id:String}{e:Expr}{es:List Expr}{to:DTE}{t:DTA}{apos cpos:Pos}
end
end L2
set_option maxRecDepth 100000
namespace L2
open PySem PySem.Spec PyProof.Rows DL PySem.W
section
variable{X:Cx}{k:Nat}
end
end L2
set_option maxRecDepth 100000
namespace L2
open PySem PySem.Spec PyProof.Rows DL PySem.W
def fx(ps:List (Str×D)):List (Str×D):=ps.foldl (fun kvs p=>uO kvs p.1 p.2) []
theorem kG:fx (ps++[p])=uO (fx ps) p.1 p.2:=by
 unfold fx
 rw[List.foldl_append]
 rfl
theorem nM(ps:List (Str×D)):(fx ps).length<=ps.length:=by
 have:∀ (ps acc:List (Str×D)),(ps.foldl (fun kvs p=>uO kvs p.1 p.2) acc).length<=acc.length+ps.length:=by
  intro ps
  induction ps with
  | nil=>intro acc; exact Nat.le_refl _
  | cons p ps ih =>
   intro acc
   have h1:=ih (uO acc p.1 p.2)
   have h2:=xt (kvs:=acc) (k:=p.1) (d:=p.2)
   rw[List.foldl_cons,List.length_cons]
   lia
 have h:=this ps []
 rw[List.length_nil] at h
 unfold fx
 lia
section
variable{X:Cx}{pins:List (Addr×Obj)}{σ:St}{H:Hp}{ρ:List Addr}{M:Mem}{A:Around}{E:Value->Shared->Prop}{s:Shared}
def DSt(X:Cx)(ρ:List Addr)(H:Hp)(h:Heap)(a:Addr)(kvs:List (Str×D)):Prop:=∃ ws us,Reps X.K ρ H (kvs.map (·.2)) ws/\KV (jq (kvs.map (·.1)) ws) us/\h.DictOf (bV X.prog X.w) a us
theorem DSt.at(x:DSt X ρ H h a kvs)(k:∀ o,h.get? a=some o->h'.get? a=some o):DSt X ρ H h' a kvs:=by
 obtain⟨ws,us,r,rel,o,es,ep,e1,aN⟩:=x
 exact⟨ws,us,r,rel,o,es,ep,k _ e1,aN⟩
theorem zc{kvs:List (Str×D)}{ws:List V}{us:List (Key×Value)}(r:Reps X.K ρ H (kvs.map (·.2)) ws)(rel:KV (jq (kvs.map (·.1)) ws) us):us.length=kvs.length/\(jq (kvs.map (·.1)) ws).length=kvs.length:=by
 have e1:=r.length
 have e2:=rel.length
 rw[List.length_map] at e1
 have e3:(jq (kvs.map (·.1)) ws).length=kvs.length:=by
  rw[jq,List.length_map,List.length_zip,List.length_map]
  lia
 lia
theorem Bw(I:Inv X pins σ H s)(hu:A.units+20 < cLine)(W:Walks X.prog X.w A.in1 J fp wr m P Sx)(S:Addr)(hSf:S∉fp)
  (hS0:s.heap.get? S=none) (hw0:∀ b∈wr,s.heap.get? b=none) (ps:List (Str×D)) (hm:ps.length=m) (hval:∀ i v,P i v->∃ p:Str×D,ps[i]?=some p/\∃ vv,Rep X.K ρ H (.tup [.str p.1,p.2]) vv/\aJ vv v) (hb:m<=1000) :
  ∀ (k i:Nat) (h:Heap) (tk:Nat) (j:Int) (t:Tok),m-i=k->i<=m->Sx i h->DSt X ρ H h S (fx (ps.take i))->(∀ b u,s.heap.get? b=some u->h.get? b=some u) ->
   (∀ h' tk,(∀ b u,s.heap.get? b=some u->h'.get? b=some u)->DSt X ρ H h' S (fx ps)->R (.ok (.ret .none)) { s with heap:=h',toks:=tk }) ->
   codeAny (model X.prog X.w) A (.builtin "dict.update.loop" ⟨[.ref S,.ref J,.int j t,.none],[]⟩) R { s with heap:=h,toks:=tk }:=by
 have hSw:S∉wr:=fun h=>hSf (W.sub _ h)
 intro k
 induction k with
 | zero =>
  intro i h tk j t hk hi hst hS hold hR
  obtain rfl:i=m:=by lia
  refine codeAny_builtin gb ?_
  rw[Around.under_plainId bO _]
  refine(show wpAny (model X.prog X.w) A.in1 (pyNext (.ref J) >>= _) _ _ _ from wpAny_bind (W.done _ _ _ hst fun h' tk hk'=>?_))
  rw[← hm,List.take_length] at hS
  refine(show wpAny (model X.prog X.w) A.in1 (Builtin.Dict.addKeywords S [] >>= _) _ _ _ from wpAny_bind (wpAny_pure (wpAny_pure ?_)))
  exact hR h' tk (fun b u e=>hk' b u (fun z=>by rw[hw0 b z] at e; cases e) (hold b u e)) (hS.at fun o e=>hk' S o hSw e)
 | succ k ih =>
  intro i h tk j t hk hi hst hS hold hR
  refine codeAny_builtin gb ?_
  rw[Around.under_plainId bO _]
  refine(show wpAny (model X.prog X.w) A.in1 (pyNext (.ref J) >>= _) _ _ _ from wpAny_bind (W.item i _ _ _ (by lia) hst fun v h' tk hP hst' hk'=>?_))
  obtain⟨p,hp,vv,r,rv⟩:=hval i v hP
  have old':∀ b u,s.heap.get? b=some u->h'.get? b=some u:=fun b u e=>hk' b u (fun z=>by rw[hw0 b z] at e; cases e) (hold b u e)
  have I':Inv X pins σ H { s with heap:=h',toks:=tk }:=I.kept old'
  obtain⟨ws,us,r0,rel,dd⟩:=hS.at fun o e=>hk' S o hSw e
  have hl:=(zc r0 rel).1
  have dl:=nM (ps.take i)
  rw[List.length_take] at dl
  obtain⟨a,vs,rfl,hq,rr⟩:=Rep.inv_tup r
  obtain rfl:v=Value.ref a:=rv
  obtain⟨_,_,rfl,r1,rr⟩:=Reps.inv_cons rr
  obtain⟨_,vd,rfl,r2,rr⟩:=Reps.inv_cons rr
  obtain rfl:=Reps.inv_nil rr
  obtain rfl:=Rep.inv_str r1
  obtain⟨its,r2',pl,hz⟩:=I'.tuple hq
  obtain⟨u1,u2,rfl,e1,e2⟩:=ar.two r2'
  obtain⟨x,d0⟩:=p
  obtain⟨o,ho,hc,nn,hd⟩:=pl
  have hT:({ s with heap:=h',toks:=tk }:Shared).TypeIs (.ref a) "tuple":=⟨o,ho,hc⟩
  refine wpAny_bind (wpAny_holding (wpAny_bind (wpAny_tryCatch ?_)))
  unfold Builtin.Dict.pairItems
  refine wpAny_bind (wpAny_typeOf hT ?_)
  rw[if_pos (by decide)]
  refine wpAny_bind (wpAny_seqItems ho hd (wpAny_pure ?_))
  refine(show wpAny (model X.prog X.w) _ (holding [u1,u2] (dictSet S u1 u2)) _ _ _ from wpAny_holding ?_)
  refine wpAny_dictSet_pairs (s:={ s with heap:=h',toks:=tk }) (Bg (k:=Sum.inr x) e1) dd (fun h2 dd2 sb=>?_) (ap (by lia))
  have k2:∀ b u,b≠S->h'.get? b=some u->h2.get? b=some u:=fun b u hb e=>(sb.2 b hb).trans e
  obtain⟨vs',f1,rr'⟩:=Ak (k:=x) r2 r0
  have et:ps.take (i+1)=ps.take i++[(x,d0)]:=by rw[List.take_add_one,hp]; rfl
  refine wpAny_pure ⟨plainId_quiet bO _,ih (i+1) h2 _ _ _ (by lia) (by lia) (W.frame _ h' h2 hst' fun b' hb' o e=>k2 b' o (fun z=>hSf (z ▸ hb')) e) ?_ (fun b u e=>k2 b u (fun z=>by rw[z,hS0] at e; cases e) (old' b u e)) hR⟩
  rw[et,kG]
  exact⟨vs',_,rr',by rw[← f1]; exact rel.put (Sum.inr x) e2,dd2⟩
theorem yH(I:Inv X pins σ H s)(hu:A.units+30 < cLine)(hh:A.handled=none)(hl:s.heap.IsTuple l its)(hol:s.heap.get? l=some ol)(hdict:ol.dict=none)(ps:List (Str×D))(hm:ps.length=its.size)
  (hval:∀ (i:Nat) v,its[i]?=some v->∃ p:Str×D,ps[i]?=some p/\∃ vv,Rep X.K ρ H (.tup [.str p.1,p.2]) vv/\aJ vv v) (hb:its.size<=1000)
  (h:∀ h' tk,(∀ b u,s.heap.get? b=some u->h'.get? b=some u)->DSt X ρ H h' s.heap.objs.size (fx ps)->Q (.ref s.heap.objs.size) { s with heap:=h',toks:=tk }) :
  wpAny (model X.prog X.w) A (call (.type "dict") [.ref l]) Q E s:=by
 refine callType_codes (Q₁:=fun obj s₁=>obj=.ref s.heap.objs.size/\s₁={ s with heap:=s.heap.push { cls:=.type "dict",data:=.dict #[] } }) PySem.F.kt_called_dict (PySem.F.kt_typeCall_dict_1 _) PySem.F.entry_dict_init (kt_code_dict_new _ ⟨rfl,rfl⟩) ?_
 rintro obj s₁ ⟨rfl,rfl⟩
 have hS:(s.heap.push { cls:=.type "dict",data:=.dict #[] }).get? s.heap.objs.size=some { cls:=.type "dict",data:=.dict #[] }:=Heap.get?_push_size _ rfl
 have hT:Shared.TypeIs { s with heap:=s.heap.push { cls:=.type "dict",data:=.dict #[] } } (.ref s.heap.objs.size) "dict":=⟨_,hS,rfl⟩
 obtain⟨ol',e1,hcl,nn,hdd⟩:=id hl
 obtain rfl:ol'=ol:=Option.some.inj (e1.symm.trans hol)
 have hol':(s.heap.push { cls:=.type "dict",data:=.dict #[] }).get? l=some ol':=Heap.get?_push_of_some _ hol
 have hTl:Shared.TypeIs { s with heap:=s.heap.push { cls:=.type "dict",data:=.dict #[] } } (.ref l) "tuple":=⟨ol',hol',hcl⟩
 have ll:l < s.heap.objs.size:=Heap.lt_size hol
 refine⟨hT,PySem.F.args_dict_init_2 _ _,?_⟩
 unfold Builtin.«dict.__init__»
 refine wpAny_bind ?_
 unfold Builtin.Dict.selfAndRest
 refine wpAny_bind (wpAny_notOrdered_dict hT ?_)
 refine(show wpAny _ _ (pure (s.heap.objs.size,[Value.ref l])) _ _ _ from wpAny_pure ?_)
 refine(show wpAny _ _ (Builtin.Dict.updateFrom "dict.__init__" s.heap.objs.size (.ref l) [] .none) _ _ _ from ?_)
 unfold Builtin.Dict.updateFrom
 refine wpAny_bind (wpAny_typeOf hTl ?_)
 rw[if_pos (by decide)]
 refine wpAny_bind (su hol' hcl hdict hdd (by simpa using hh) fun h1 tk1 k1=>?_)
 have kp1:∀ b u,s.heap.get? b=some u->h1.get? b=some u:=fun b u e=>k1 b u (Heap.get?_push_of_some _ e)
 rw[if_pos (show (none:Option Value).isNone=true from rfl)]
 refine wpAny_bind (wpAny_rule ?_)
 obtain⟨oI,St,hit,W,st⟩:=(TxSrc.tuple (prog:=X.prog) (w:=X.w) hl).iter A.in1.in1 { s with heap:=h1,toks:=tk1 } (by simpa using hh) fun o e=>kp1 _ _ e
 refine wpAny_bind (hit _ _ ?_)
 have hS1:=k1 _ _ hS
 have lS:s.heap.objs.size < h1.objs.size:=Heap.lt_size hS1
 have hS0:s.heap.get? s.heap.objs.size=none:=by
  cases q:s.heap.get? s.heap.objs.size with
  | none=>rfl
  | some o=>exact absurd (Heap.lt_size q) (Nat.lt_irrefl _)
 refine wpAny_pure ⟨plainId_quiet bO _,Bw (A:=A.in1) (s:=s) I (by show A.units+1+20 < cLine; lia) W s.heap.objs.size ?_ hS0 ?_ ps hm hval hb its.size 0 _ _ _ _ rfl (Nat.zero_le _) st ⟨[],[],.nil,.nil,_,#[],_,Heap.get?_push_of_some _ hS1,⟨rfl,rfl,rfl⟩,rfl,(fun _ he=>by simp at he),Pairs.nil,List.nodup_nil⟩ (fun b u e=>Heap.get?_push_of_some _ (kp1 b u e)) fun h2 tk2 k2 dd=>⟨rfl,h h2 tk2 k2 dd⟩⟩
 ·simp only[List.mem_cons,List.not_mem_nil,or_false,not_or]
  exact⟨Nat.ne_of_lt lS,Nat.ne_of_gt ll⟩
 ·intro b hb'
  rw[List.mem_singleton.mp hb']
  cases q:s.heap.get? h1.objs.size with
  | none=>rfl
  | some o=>exact absurd (Nat.lt_trans (Heap.lt_size q) lS) (Nat.lt_irrefl _)
end
section
variable{X:Cx}{k:Nat}
def qO:DRA:=fun ds M Q=>match ds with
 | [.tup xs]=>∃ ps:List (Str×D),xs=ps.map (fun p=>.tup [.str p.1,p.2])/\ps.length<=1000/\Q (.ref M.length) (M++[.dct (fx ps)])
 | _=>False
theorem yG(hr:Room k X.A)(hc:X.calm=true):jI X (.type "dict") qO:=by
 intro pins s σ H vs us R I rv ⟨ds,M,ρ,Q,sm,rs,q,kk⟩
 have un:=hr.un
 unfold qO at q
 split at q
 ·obtain⟨ps,hL,hl,q⟩:=q
  have hzz:=Reps.inv_cons rs
  clear rs
  obtain⟨_,_,rfl,r1,rs⟩:=hzz
  obtain rfl:=Reps.inv_nil rs
  obtain⟨u,rfl,e1⟩:=ar.one rv
  subst hL
  obtain⟨a,ws,rfl,hq,r⟩:=Rep.inv_tup r1
  cases e1
  obtain⟨its,rr,pl,hz⟩:=I.tupN hq
  obtain⟨oa,hoa,hca,⟨nn,hdata⟩,hdict⟩:=id pl
  have lw:=r.length
  have li:=rr.length
  rw[List.length_map] at lw
  have hf:H s.heap.objs.size=none:=I.hok.fresh (Nat.le_refl _)
  have hb:(s.heap.objs.size==sysModules)=false:=beq_eq_false_iff_ne.mpr (Ne.symm (Nat.ne_of_lt I.big))
  refine yH (A:=X.A) (ρ:=ρ) I (by lia) (I.ok.hd hc) pl.tup hoa hdict ps (by rw[List.size_toArray]; lia) (fun i v hv=>?_) (by rw[List.size_toArray]; lia) fun h' tk kp dd=>?_
  ·obtain⟨d,vv,e1,r1,rv1⟩:=kO r rr (i:=i) (u:=v) (by simpa using hv)
   rw[List.getElem?_map] at e1
   obtain⟨p,hp,rfl⟩:=Option.map_eq_some_iff.mp e1
   exact⟨p,hp,vv,r1,rv1⟩
  ·obtain⟨ws',us',r0,rel,dd⟩:=dd
   have dl:=nM ps
   have ln:=(zc r0 rel).2
   refine⟨.ref s.heap.objs.size,_,I.laid (a:=s.heap.objs.size) (o:=.dK (jq ((fx ps).map (·.1)) ws')) (t':=tk) kp (Nat.le_refl _) (EG (ap (by lia)) hb rel dd),rfl,?_⟩
   exact kk _ _ ⟨.ref M.length,M++[.dct (fx ps)],ρ++[s.heap.objs.size],sm.laidM (mo:=.dct (fx ps)) hf ⟨ws',aI,r0.grow (Grow.laidR hf)⟩,Grow.laidR hf,.ref sm.last,q⟩
 ·exact q.elim
theorem rF(hr:Room k X.A)(hc:X.calm=true:=by kernel_rfl):HC X (.type "dict") qO:=⟨yG hr hc⟩
end
end L2
set_option maxRecDepth 100000
namespace L2
open PySem PySem.Spec PyProof.Rows DL PySem.W
section
variable{X:Cx}{o:Expr}{to:DTE}{apos cpos:Pos}{elts:List Expr}{x1:Nat}{pos:Pos}
end
end L2
set_option maxRecDepth 100000
namespace L2
open PySem PySem.Spec PyProof.Rows DL PySem.W
section
variable{X:Cx}
end
end L2
set_option maxRecDepth 100000
namespace L2
open PySem PySem.Spec PyProof.Rows DL PySem.W
section
variable{K:PySem.W.Frag}{ρ:List Addr}{H:Hp}{M:Mem}
end
section
variable{X:Cx}{tg:Expr}{o i:Expr}{td ty:DTE}{pos:Pos}{k:Nat}
end
end L2
set_option maxRecDepth 100000
namespace L2
open PySem PySem.Spec PyProof.Rows DL PySem.W
def BMain(mg:Str->Option Value)(base:Heap):Prop:=∃ bm o,mg "__builtins__" = some (.ref bm)/\bm≠builtinsNs/\bm≠mainGlobals/\base.get? bm=some o/\o.cls=.type "module"/\o.dict=some builtinsNs/\o.data=.plain
def Self(X:Cx)(x:Str):Prop:=∃ (f:Addr) (oc:Value) (od:Option Addr) (fd:FuncData) (sl:Array (Option Value)),X.mg x=some (.ref f)/\X.K.lookup f=some ⟨oc,od,.func fd,sl⟩/\X.env.code=fd.code
theorem Self.code(S:Self X x)(I:Inv X pins σ H s)(h:tabIn X.K x=some (c,P)):X.env.code=.ref c:=by
 obtain⟨f,oc,od,fd,sl,h1,h2,h3⟩:=S
 unfold tabIn at h
 split at h
 ·rename_i f' hf
  have e1:=mg_of I.mod.kin I.mod.glob hf
  rw[h1] at e1
  cases e1
  split at h
  ·rename_i e2
   rw[h2] at e2
   cases e2
   split at h
   ·rename_i c' hc
    split at h
    ·split at h
     ·cases h
      rw[h3,hc]
     ·cases h
    ·cases h
   ·cases h
  ·cases h
 ·cases h
section
variable{K:PySem.W.Frag}{ρ:List Addr}{M:Mem}{H:Hp}
theorem SqT.writtenB(hp:H p=some (.tbl ps))(h:SqT K H a xs):SqT K (upd H p o) a xs:=by
 have ne:∀ u,H a=some u->(∀ q,u≠.tbl q)->a≠p:=fun u e q z=>by
  rw[z,hp] at e
  exact q ps (Option.some.inj e).symm
 rcases h with h | h
 ·rcases h with h | ⟨ob,h⟩
  ·exact .inl (.inl (by rw[ak (ne _ h fun _ z=>by cases z)]; exact h))
  ·exact .inl (.inr ⟨ob,by rw[ak (ne _ h fun _ z=>by cases z)]; exact h⟩)
 ·exact .inr h
theorem Sim.writeB(S:Sim K ρ M H)(e1:ρ[n]?=some a)(hM:M[n]?=some (.tb x b))(hH:H a=some (.tbl ps)) :
  Sim K ρ (M.set n (.tb x true)) (upd H a (.tbl ps'))/\Grow K ρ H ρ (upd H a (.tbl ps')):=by
 have g:Grow K ρ H ρ (upd H a (.tbl ps')):=⟨List.prefix_rfl,fun _ _ h=>SqT.writtenB hH h⟩
 have hk:∀ m,m≠n->(M.set n (.tb x true))[m]?=M[m]?:=fun m hm=>List.getElem?_set_ne (Ne.symm hm)
 have notK:¬ isK M[n]?:=fun ⟨_,z⟩=>by rw[hM] at z; cases z
 refine⟨⟨fun m m' b hne f1 f2=>?_,by rw[List.length_set]; exact S.len,fun m b' mo f1 f2=>?_⟩,g⟩
 ·have q:=S.nd m m' b hne f1 f2
  by_cases h1:m=n
  ·subst h1
   rw[hk m' (Ne.symm hne)]
   exact .inr (q.resolve_left notK)
  ·rw[hk m h1]
   by_cases h2:m'=n
   ·subst h2
    exact .inl (q.resolve_right notK)
   ·rw[hk m' h2]
    exact q
 by_cases hm:m=n
 ·subst hm
  have hb:b'=a:=Option.some.inj (f1.symm.trans e1)
  subst hb
  rw[List.getElem?_set_self (by rw[← S.len]; exact(List.getElem?_eq_some_iff.mp e1).1)] at f2
  cases f2
  exact⟨(S.obj m b' _ e1 hM).1,ps',aI,fun z=>by cases z⟩
 ·rw[hk m hm] at f2
  by_cases hb:b'=a
  ·subst hb
   have q':=(S.nd m n b' hm f1 e1).resolve_right notK
   rw[f2] at q'
   exact(S.obj m b' mo f1 f2).grow g (.inr q')
  ·exact(S.obj m b' mo f1 f2).grow g (.inl (ak hb))
end
theorem Bc{P:Program}{w:World}{K:PySem.W.Frag}{mg:Str->Option Value}{base:Heap}{A:Around}{outer:List Env}{s:Shared}{H:Hp}{k:Nat}{f c':Addr}{nm qual:Str}{params:Arguments}{body:Expr}{scope:Scope}{pm ctv:Value}{N ps:List Str}{te:DTE}
  {ρ:List Addr}{M:Mem}{d:D}{v:V}{u:Value}{R:DK} (e0:Env0 P w K mg base A outer s H) (ho:s.heap.get? f=some (kla_obj nm qual params body scope [] pm c' ctv)) (hcd:s.heap.CodeRec (.ref c') qual) (S:FnScope N ps scope) (hr:Room (k+1) A)
  (hb:BindsTo s (kla_fn nm qual params body scope [] pm (.ref c') ctv) ⟨[u],[]⟩ (ps.zip [u])) (hl:1=ps.length) (der:∀ E,Room k (A.deeper (envOfC qual scope s.heap.objs.size f (.ref c')))->DE (nS CX0 P w K mg base N qual scope f (.ref c') A outer s H E).nox body te)
  (sm:Sim K ρ M H) (r:Rep K ρ H d v) (ru:aJ v u) (hq:te (bR N [d]) M (bx M R)) :
  codeAny (model P w) A (.call (.ref f) ⟨[u],[]⟩) (CR CX0 outer P w H s (fun v' H'=>VQ K ρ H R v' H') E0) s:=by
 have lim:s.heap.NoLimit:=e0.mod.nolimit.keeps fun b o e=>(e0.bs b o e).1
 have hkind:∀ y∈ps.zip [u],scope.names.lookup y.1=some .local\/(scope.names.lookup y.1=some .cell/\((cellsFrom (s.heap.objs.size+1) scope.names []).lookup y.1).isSome=true):=fun ⟨n,v⟩ hy=>by
  rcases S.par n (List.of_mem_zip hy).1 with q | q
  ·exact .inl q
  ·exact .inr ⟨q,PySem.W.cellsFrom_some _ _ _ (.inl q)⟩
 refine kla_callFunE hr.depth ho rfl S.co S.gen rfl hcd (hb _ _ _ _ ?_)
 refine wpAny_newFunctionEnv_cells S.kind hkind fun env he s1 x=>?_
 subst he
 refine⟨lim.keeps x.toInCall.keep,kla_codeExpr ?_⟩
 have I:Inv (nS CX0 P w K mg base N qual scope f (.ref c') A outer s H E0) [] (start N [v]) H s1:=nA S hr.hd e0 hl (.cons ru .nil) x
 have dd:=PE.nox (der E0 (hr.deeper _))
 refine wpAny_mono (dd [] s1 (start N [v]) H (fun v' H'=>VQ K ρ H (bx M R) v' H') I ⟨bR N [d],M,ρ,_,sm,SRep.start (.cons r .nil) N,hq,fun _ _ z=>z⟩) (fun u' s' hs=>?_) fun e s' hs=>hs
 obtain⟨v',H',J,rv,q⟩:=hs
 exact⟨v',H',J.os,J.bare,J.base,J.hok,rv,VQ.endq sm q⟩
section
variable{X:Cx}{pins:List (Addr×Obj)}{σ:St}{H:Hp}{s:Shared}
theorem Inv.writeB(I:Inv X pins σ H s)(hH:H P=some (.tbl ps))(k:∀ b u,b≠P->s.heap.get? b=some u->h'.get? b=some u)(hP:h'.get? P=some (tabObj (ps++more))):Inv X pins σ (upd H P (.tbl (ps++more))) { s with heap:=h',toks:=t' }:=by
 have nn:∀ b,H b=none->b≠P:=fun b n z=>by rw[z,hH] at n; cases n
 have ne:∀ b u,H b=some u->(∀ q,u≠.tbl q)->b≠P:=fun b u e q z=>by
  rw[z,hH] at e
  exact q ps (Option.some.inj e).symm
 refine I.un ⟨fun b u q n _ _=>k b u (nn b n) q,fun b u q n _ _=>⟨u.slots,k b u (nn b n) q⟩,fun b u q n _=>by rw[ak (nn b n)]; exact n,fun b u q _=>?_,fun b xs q=>by rw[ak (ne b _ q fun _ z=>by cases z)]; exact q,fun b u xs q=>by rw[ak (ne b _ q fun _ z=>by cases z)]; exact q,fun b qs q=>?_⟩ fun b u q=>?_
 ·by_cases hb:b=P
  ·subst hb; exact⟨_,hP⟩
  ·exact⟨u,k b u hb q⟩
 ·by_cases hb:b=P
  ·subst hb
   rw[hH] at q
   cases q
   exact⟨more,aI⟩
  ·exact⟨#[],by rw[ak hb,q]; simp⟩
 ·by_cases hb:b=P
  ·subst hb
   rw[aI] at q
   cases q
   exact hP
  ·rw[ak hb] at q
   refine(I.hok b u q).stay (fun c v hc r=>k c v ?_ r) (fun c r=>by rw[ak (ne c _ r fun _ z=>by cases z)]; exact r) fun c xs r=>by rw[ak (ne c _ r fun _ z=>by cases z)]; exact r
   rcases hc with rfl | hc
   ·exact hb
   ·exact ne c _ hc fun _ z=>by cases z
theorem xW(I:Inv X pins σ H s)(hH:H P=some (.tbl #[]))(C:∀ h:Heap,X.K.In h->CodeHd h c P)(hcode:X.env.code=.ref c)(B:BMain X.mg X.base)
  (hcl:closureFor scope X.env=pure []) (hdef:defaultsOf params X.env=([],[]))
  (h:∀ f c' oc vs t ctv ps' s',Inv X ((f,kla_obj "<lambda>" (X.env.qual ++ "<lambda>") params body scope [] ((X.mg "__name__").getD .none) c' ctv)::(c',oc)::pins) σ (upd H P (.tbl ps')) s'->oc.data=.fields vs->vs[1]?=some (.str (X.env.qual ++ "<lambda>") t)->Q (.ref f) s') :
  wpAny (model X.prog X.w) A (eval (.Lambda params body scope pos) X.env) Q E s:=by
 have hP:s.heap.get? P=some (tabObj #[]):=I.hok P _ hH
 have hg:s.heap.Ns mainGlobals X.mg:=I.mod.glob.keeps I.bk
 have nP:∀ b o,X.base.get? b=some o->b≠P:=fun b o e z=>by
  have:=(I.bs b o e).2
  rw[z,hH] at this
  cases this
 obtain⟨bm,ob,b1,b2,b3,b4,b5⟩:=B
 have hgP:mainGlobals≠P:=by
  obtain⟨o,es,ep,e,_⟩:=I.mod.glob
  exact nP _ _ e
 refine kla_eval hdef (kla_makeFunction hcl I.ok.glob hg hcode (C _ I.kIn) hP trivial rfl hgP ⟨bm,ob,b1,b2,b3,nP _ _ b4,I.bk _ _ b4,b5⟩ fun c' ctv h' tk hx hge hlt hrec htb=>?_)
 obtain⟨c2,oc,vs,t,e2,hoc,hd,hv⟩:=hrec
 cases e2
 have Pn:P≠h'.objs.size:=fun z=>by rw[z] at htb; exact absurd (Heap.lt_size htb) (Nat.lt_irrefl _)
 have hs:s.heap.objs.size<=h'.objs.size:=Nat.le_trans hge (Nat.le_of_lt hlt)
 have J:Inv X pins σ (upd H P (.tbl (#[] ++ #[rawInt pos.line,rawInt pos.col,.ref c']))) { s with heap:=h'.push (kla_obj "<lambda>" (X.env.qual ++ "<lambda>") params body scope [] ((X.mg "__name__").getD .none) c' ctv),toks:=tk }:=by
  exact I.writeB hH (fun b u hb e=>Heap.get?_push_of_some _ (hx b u hb e)) (Heap.get?_push_of_some _ htb)
 have fresh:∀ b,s.heap.objs.size<=b->b≠P->upd H P (.tbl (#[] ++ #[rawInt pos.line,rawInt pos.col,.ref c'])) b=none/\b≠X.env.locals/\b∉X.fs:=fun b hb hn=>by
  refine⟨by rw[ak hn]; exact I.hok.fresh hb,fun z=>?_,I.nofs hb⟩
  rw[z] at hb
  exact absurd (Nat.lt_of_lt_of_le I.lt hb) (Nat.lt_irrefl _)
 have cP:c'≠P:=fun z=>by
  rw[z] at hge
  exact absurd (Nat.lt_of_lt_of_le (Heap.lt_size hP) hge) (Nat.lt_irrefl _)
 refine h h'.objs.size c' oc vs t ctv _ _ (J.pins_of fun p hp=>?_) hd hv
 rcases List.mem_cons.mp hp with rfl | hp
 ·obtain⟨a1,a2,a3⟩:=fresh h'.objs.size hs (Ne.symm Pn)
  exact⟨Heap.get?_push_size _ rfl,a1,a2,a3,fun v z=>by cases z⟩
 rcases List.mem_cons.mp hp with rfl | hp
 ·obtain⟨a1,a2,a3⟩:=fresh c' hge cP
  exact⟨Heap.get?_push_of_some _ hoc,a1,a2,a3,fun v z=>by rw[hd] at z; cases z⟩
 ·exact J.pin p (List.mem_append_right _ hp)
end
def lamB(sc:Scope)(y:Str):Bool:=decide (sc.kind=.function) && !sc.isCoroutine && !sc.isGenerator&&decide (sc.names.lookup y=some .local)&&sc.names.all fun p=>decide (p.2≠.free)
theorem nj(h:lamB sc y=true):FnScope [y] [y] sc:=by
 simp only[lamB,Bool.and_eq_true,decide_eq_true_eq,Bool.not_eq_true',List.all_eq_true] at h
 obtain⟨⟨⟨⟨h1,h2⟩,h3⟩,h4⟩,h5⟩:=h
 refine⟨h1,h2,h3,List.nodup_cons.mpr ⟨List.not_mem_nil,List.nodup_nil⟩,rfl,fun x hx=>?_,fun p hp=>h5 p hp⟩
 obtain rfl:x=y:=by simpa using hx
 exact .inl h4
def ip(x:Str)(N:List Str)(te:DTE)(t:DTA):DTE:=fun S M Q=>t S M fun ds M1=>match ds with
 | [y]=>∃ q xs key,M1[q]?=some (.tb x false)/\(y=.tup xs\/∃ n,y=.ref n/\ao (M1.set q (.tb x true)) n xs)/\(∀ d∈xs,te (bR N [d]) (M1.set q (.tb x true)) (bx (M1.set q (.tb x true)) fun z M'=>z=key d/\M'=M1.set q (.tb x true)))/\SrtG (M1.set q (.tb x true)) (xs.map key) /\
   ∀ ys,ys.Perm xs->ys.Pairwise (fun a b=>ltD (M1.set q (.tb x true)) eqN (key b) (key a)=false)->Q (.ref M1.length) (M1.set q (.tb x true)++[.lst ys])
 | _=>False
theorem nw(Sf:Self X x)(B:BMain X.mg X.base)(hr:Room (k+3) X.A)(he:HA X [e] t)(hm:X.mg "sorted" = none)
  (der:∀ (s:Shared) (H:Hp) (f:Addr) (cdv:Value) (A:Around) (outer:List Env) (E:XK),Room k (A.deeper (envOfC (X.env.qual ++ "<lambda>") scope s.heap.objs.size f cdv))->HE (nS CX0 X.prog X.w X.K X.mg X.base [y] (X.env.qual ++ "<lambda>") scope f cdv A outer s H E).nox body te)
  (Sc:FnScope [y] [y] scope) (hcl:closureFor scope X.env=pure []) (hdef:defaultsOf params X.env=([],[]))
  (hb:∀ (pm ctv:Value) (c':Addr) (u:Value),bindArgs (kla_fn "<lambda>" (X.env.qual ++ "<lambda>") params body scope [] pm (.ref c') ctv) ⟨[u],[]⟩=pure [(y,u)])
  (hg1:X.env.kindOf "sorted" = some .globalImplicit:=by kernel_rfl) (hs:starEach [e] X.env=[(false,eval e X.env)]:=by kernel_rfl) :
  HE X (.Call (.Name "sorted" p) [e] [⟨some "key",.Lambda params body scope lpos,kpos⟩] pos) (ip x [y] te t):=by
 refine⟨fun pins s σ H R I h=>?_⟩
 obtain⟨S,M,ρ,Q,sm,sr,q,kk⟩:=h
 refine wpAny_Call_Name_kw (fX I hg1 hm oi ?_ (by decide) (by decide))
 unfold ip at q
 refine callWith_kw (thn (he.ok pos pins s σ H (fun vs H1=>AQ X.K ρ H _ vs H1) I ⟨S,M,ρ,_,sm,sr,q,fun _ _ z=>z⟩) fun us s1 ⟨vs,H1,I1,r1,q1⟩=>?_) (by rw[hs]; rfl) (by rw[hs]; rfl)
 obtain⟨ds,M1,ρ1,sm1,g1,rs,q1⟩:=q1
 split at q1
 ·rename_i y0
  obtain⟨qn,xs,key,hq,hx,hP,so,fin⟩:=q1
  obtain⟨v1,_,rfl,rx,rs⟩:=Reps.inv_cons rs
  obtain rfl:=Reps.inv_nil rs
  obtain⟨u,rfl,ru⟩:=ar.one r1
  obtain⟨Pa,ep,mo⟩:=sm1.get hq
  obtain⟨⟨c,tc,C⟩,ps,hH,h0⟩:=mo
  obtain rfl:=h0 rfl
  refine kws_cons (xW I1 hH C (Sf.code I1 tc) B hcl hdef fun f c' oc vs t' ctv ps' s2 I2 hd hv=>kws_nil ?_)
  obtain⟨sm2,g2⟩:=sm1.writeB (ps':=ps') ep hq hH
  show wpAny _ _ (call (.builtin "sorted") [u] [(Str.ofString "key",.ref f)]) _ _ _
  have l64:=so.len
  rw[List.length_map] at l64
  have hr2:Room (k+1+2) X.A:=hr
  generalize upd H1 Pa (.tbl ps')=H2 at sm2 g2 I2
  have ml:(M1.set qn (.tb x true)).length=M1.length:=List.length_set ..
  generalize M1.set qn (.tb x true)=M2 at sm2 hP so fin hx ml
  have G:KeyG X ((f,kla_obj "<lambda>" (X.env.qual ++ "<lambda>") params body scope [] ((X.mg "__name__").getD .none) c' ctv)::(c',oc)::pins) σ ρ1 M2 f key xs:=fun s H d v u hm I sm r ru=>by
   have p1:=(I.pin _ (List.mem_append_right _ List.mem_cons_self)).1
   have p2:=(I.pin (c',oc) (List.mem_append_right _ (List.mem_cons_of_mem _ List.mem_cons_self))).1
   exact Bc (k:=k) I.env0.in1.in1 p1 ⟨c',oc,vs,t',rfl,p2,hd,hv⟩ Sc (Room.in1 (k:=k+2) hr2).in1 (.of_eq (hb _ _ _ _)) rfl (fun E hr=>(der s H f _ _ _ E hr).ok) sm r ru (hP d hm)
  have back:∀ {v:Value}{s':Shared},EP X ((f,kla_obj "<lambda>" (X.env.qual ++ "<lambda>") params body scope [] ((X.mg "__name__").getD .none) c' ctv)::(c',oc)::pins) σ R v s'->EP X pins σ R v s':=fun {v s'} ⟨v',H',J,rv,q⟩=>⟨v',H',J.pins_of fun p hp=>J.pin p (List.mem_append_right _ (List.mem_cons_of_mem _ (List.mem_cons_of_mem _ hp))),rv,q⟩
  have fin':∀ ys,ys.Perm xs->ys.Pairwise (fun a b=>ltD M2 eqN (key b) (key a)=false)->Q (.ref M2.length) (M2++[.lst ys]):=fun ys h1 h2=>by rw[ml]; exact fin ys h1 h2
  rcases hx with rfl | ⟨n,rfl,hL⟩
  ·obtain⟨a,vs,rfl,hq',r⟩:=Rep.inv_tup (rx.grow g2)
   cases ru
   obtain⟨its,rr,⟨o,ho,hc,n,hd'⟩,_⟩:=I2.tuple hq'
   have h1:=r.length
   have h2:=rr.length
   exact wpAny_mono (qJ G hr2 I2 sm2 r rr ho (.inr hc) hd' (by lia) so fun v H' z=>kk v H' (VQ.trans g1 (VQ.trans g2 (z Q fin')))) (fun _ _ z=>back z) fun _ _ z=>z
  ·obtain⟨a,rfl,en⟩:=Rep.inv_ref rx
   cases ru
   obtain⟨vs,hq',r⟩:=ao.seq sm2 hL en
   obtain⟨its,rr,⟨o,n,ho,hc,_,hd'⟩,_⟩:=I2.list hq'
   have h1:=r.length
   have h2:=rr.length
   exact wpAny_mono (qJ G hr2 I2 sm2 r rr ho (.inl hc) hd' (by lia) so fun v H' z=>kk v H' (VQ.trans g1 (VQ.trans g2 (z Q fin')))) (fun _ _ z=>back z) fun _ _ z=>z
 ·exact q1.elim
end L2
set_option maxRecDepth 100000
namespace L2
open PySem PySem.Spec PyProof.Rows DL PySem.W
section
variable{P:Program}{w:World}{K:PySem.W.Frag}{mg:Str->Option Value}{base:Heap}{x:Str}{st:Stmt}{N ps:List Str}{k:Nat}{Pr:DSp}{B:List Str}{C:List (Str×Int)}{t:DTS}
abbrev DerL(P:Program)(w:World)(K:PySem.W.Frag)(mg:Str->Option Value)(base:Heap)(k:Nat)(x:Str)(N:List Str)(st:Stmt)(t:DTS):Prop :=
 ∀ (f:Addr) (cdv:Value) (A:Around) (outer:List Env) (s:Shared) (H:Hp) (E:XK),Room k (A.deeper (PyProof.Rows.envOfC x (am st) s.heap.objs.size f cdv))->Self (nS CX0 P w K mg base N x (am st) f cdv A outer s H E).nox x->HB (nS CX0 P w K mg base N x (am st) f cdv A outer s H E).nox (bu st) t
theorem Cal.byL(T:TopB mg B C)(F:cR K mg x st ps)(Sc:FnScope N ps (am st))(len:dB Pr ps)(der:TopB mg B C->N.Nodup->DerL P w K mg base k x N st t)(wp:∀ ds M R,Pr ds M R->t (EE M R) (bR N ds) M):Cal P w K mg base (k+1) x ps Pr:=by
 obtain⟨f,fd,F1,hm,hb⟩:=F
 refine⟨f,fd,?_,hm,F1.kp,hb⟩
 obtain⟨oc,od,kV,doc,pm,an,cdv,ct,osl,rfl,lk,hcd⟩:=F1.ex
 refine En lk hcd Sc (fun vs H Q E ⟨ds,M,ρ,R,s,r,q,_⟩=>by rw[← r.length]; exact len ds M R q) fun A outer s H vs Q E hr h=>?_
 obtain⟨ds,M,ρ,R,sm,r,q,kk⟩:=h
 have ht:=der T Sc.nd f cdv A outer s H E hr ⟨f,oc,od,_,osl,hm,lk,rfl⟩
 refine⟨lowS K t,PSs.nox ht.ok,bR N ds,M,ρ,_,sm,SRep.start r N,wp ds M R q,⟨fun σ' H' ⟨S',M',ρ',s',g',sr',q'⟩=>?_,fun v H' z=>kk v H' (VQ.endq sm z),fun σ' H' ⟨S',M',ρ',s',g',sr',q'⟩=>q'.elim,fun σ' H' ⟨S',M',ρ',s',g',sr',q'⟩=>q'.elim⟩⟩
 exact kk .non H' (VQ.endq sm ⟨.non,M',ρ',s',g',.non,q'⟩)
end
def sS(z:Str):DSp:=fun ds M R=>∃ (ns:List Int) (mo:MO),ns.length<=63/\(mo.items=ns.map D.int/\mo.isL=true)/\ds=[.ref 0]/\M=[mo,.tb z false]/\∀ M',R (.bl true) M'
theorem ph{K:PySem.W.Frag}{H:Hp}{a Pt c:Addr}{z:Str}{ns:List Int}(hl:ns.length<=63)(hS:SqL K H a (ns.map V.int))(hP:H Pt=some (.tbl #[]))(tc:tabIn K z=some (c,Pt))(C:∀ h:Heap,K.In h->CodeHd h c Pt)(ne:a≠Pt):spL K (sS z) [.ref a] H (fun v _=>v=.bl true) fun _ _ _=>False:=by
 have one:∀ {mo:MO},mo.items=ns.map D.int/\mo.isL=true->tL K [a,Pt] H a mo->spL K (sS z) [.ref a] H (fun v _=>v=.bl true) fun _ _ _=>False:=fun {mo} e ok=>by
  refine⟨[.ref 0],[mo,.tb z false],[a,Pt],fun d _=>d=.bl true,⟨fun n m b hne e1 e2=>?_,rfl,fun n b mo' e1 e2=>?_⟩,.cons (.ref rfl) .nil,⟨ns,mo,hl,e,rfl,rfl,fun _=>rfl⟩,fun v H' ⟨d,M',ρ',_,_,r,q⟩=>?_⟩
  ·match n,m,e1,e2 with
   | 0,0,_,_=>exact absurd rfl hne
   | 1,1,_,_=>exact absurd rfl hne
   | 0,1,e1,e2=>simp at e1 e2; exact absurd (e1.trans e2.symm) ne
   | 1,0,e1,e2=>simp at e1 e2; exact absurd (e2.trans e1.symm) ne
   | n+2,_,e1,_=>simp at e1
   | _,m+2,_,e2=>simp at e2
  ·match n,e1,e2 with
   | 0,e1,e2 =>
    simp at e1 e2
    subst e1 e2
    exact ok
   | 1,e1,e2 =>
    simp at e1 e2
    subst e1 e2
    exact⟨⟨c,tc,C⟩,#[],hP,fun _=>rfl⟩
   | n+2,e1,_=>simp at e1
  ·have q':d=.bl true:=q
   subst q'
   obtain rfl:=Rep.inv_bl r
   rfl
 rcases hS with (h | ⟨o,h⟩) | h
 ·exact one (mo:=.lst _) ⟨rfl,rfl⟩ ⟨_,h,fO ns⟩
 ·exact one (mo:=.fz _) ⟨rfl,rfl⟩ ⟨o,_,h,fO ns⟩
 ·exact one (mo:=.kl _) ⟨rfl,rfl⟩ ⟨_,h,fO ns⟩
theorem vL{P:Program}{w:World}{K:PySem.W.Frag}{mg mb:Str->Option Value}{k:Nat}{fa a Pt:Addr}{fd:FuncData}{x:Str}{sp:Sp}{s₁:Shared}{vs:List Value}{ns:List Int}
  (KX:K.In s₁.heap) (hns:s₁.heap.Ns mainGlobals mg) (hb:s₁.heap.Ns builtinsNs mb) (hbb:∀ x:Str,x≠"__name__"->mb x=bootBuiltins x) (hlim:s₁.heap.NoLimit) (hg:s₁.gens = #[])
  (ha:s₁.heap.get? a=some { cls:=.type "list",data:=.seq vs.toArray }) (hi:IntsAre vs ns) (hl:ns.length<=sizeLine) (hr:Room k callerA) (nt:noTabs K=true) (hP:s₁.heap.get? Pt=some (tabObj #[])) (isT:isCodeTable s₁.heap Pt) (BM:BMain mg s₁.heap)
  (F:∀ base:Heap,K.In base->base.Ns mainGlobals mg->BMain mg base->FnOk P w K mg base CX0 k fa fd [x] sp) (hbind:∀ (s:Shared) (u:Value),BindsTo s fd ⟨[u],[]⟩ [(x,u)])
  (hsp:∀ H:Hp,SqL K H a (ns.map V.int)->H Pt=some (.tbl #[])->sp [.ref a] H (fun v _=>v=.bl true) fun _ _ _=>False) :
  codeAny (model P w) callerA (.call (.ref fa) ⟨[.ref a],[]⟩) (fun r s'=>r=.ok (.ret (.bool true))/\OldK s₁.heap s'.heap/\s'.os=s₁.os/\AllBare s'.gens) s₁:=by
 have rv:=mh hi
 have lenV:=hi.length
 have aP:a≠Pt:=fun e=>by rw[e,hP] at ha; cases ha
 have core:∀ H:Hp,(∀ b,b≠Pt->H b=none\/∃ o xs,H b=some (.frz o (.lst xs)))->SqL K H a (ns.map V.int)->H Pt=some (.tbl #[])->HOk P w H s₁.heap->(∀ b,H b≠none->b=a\/b=Pt)->(H a≠none->K.lookup a=none) ->
   codeAny (model P w) callerA (.call (.ref fa) ⟨[.ref a],[]⟩) (fun r s'=>r=.ok (.ret (.bool true))/\OldK s₁.heap s'.heap/\s'.os=s₁.os/\AllBare s'.gens) s₁:=by
  intro H hO hS hT hok hA hK
  have base_of:∀ {b:Addr}{o:Obj},s₁.heap.get? b=some o->H b=none->(wU s₁.heap H).get? b=some o:=fun e n=>yi e n
  have noA:∀ {b:Addr}{o:Obj},s₁.heap.get? b=some o->o.cls≠.type "list"\/(∀ v n,o.data≠.seq v n)->o≠tabObj #[]->H b=none:=fun {b o} e d1 d2=>by
   cases q:H b with
   | none=>rfl
   | some u =>
    rcases hA b (by rw[q]; simp) with e' | e'
    ·subst e'
     rw[ha] at e; cases e
     rcases d1 with d1 | d1
     ·exact absurd rfl d1
     ·exact absurd rfl (d1 _ _)
    ·subst e'
     rw[hP] at e; cases e
     exact absurd rfl d2
  have nsK:∀ {b:Addr}{m:Str->Option Value},s₁.heap.Ns b m->(wU s₁.heap H).Ns b m:=fun {b m} ⟨o,es,ep,e,d,r⟩=>⟨o,es,ep,base_of e (noA e (.inr fun v n z=>by rw[d] at z; cases z) fun z=>by rw[z] at d; cases d),d,r⟩
  have hKb:K.In (wU s₁.heap H):=fun b o e=>base_of (KX b o e) (by
   cases q:H b with
   | none=>rfl
   | some u =>
    rcases hA b (by rw[q]; simp) with e' | e'
    ·subst e'
     rw[hK (by rw[q]; simp)] at e; cases e
    ·subst e'
     have h2:=List.all_eq_true.mp nt (b,o) (mem_of_lookupK e)
     have h3:=KX b o e
     rw[hP] at h3
     cases h3
     exact absurd (show false=true from h2) Bool.false_ne_true)
  have hM:Mod K mg (wU s₁.heap H):=⟨hKb,nsK hns,⟨mb,nsK hb,hbb⟩,let ⟨mc,h1,h2⟩:=hlim; ⟨mc,nsK h1,h2⟩⟩
  have e0:Env0 P w K mg (wU s₁.heap H) callerA [] s₁ H:=⟨rfl,hM,fun b o e=>AK e,Nat.le_of_eq (wl _ _),trivial,fun b hb=>absurd (show b∈([]:List Addr) from hb) (by simp),hok,.of_eq hg⟩
  have bm:BMain mg (wU s₁.heap H):=by
   obtain⟨bm,ob,b1,b2,b3,b4,b5,b6⟩:=BM
   exact⟨bm,ob,b1,b2,b3,base_of b4 (noA b4 (.inl fun z=>by rw[z] at b5; injection b5 with h; exact absurd h (by decide)) fun z=>by rw[z] at b5; cases b5),b5,b6⟩
  refine codeAny_mono ((F _ hKb (nsK hns) bm).run callerA [] s₁ H ⟨[.ref a],[]⟩ [.ref a] [.ref a] _ _ hr e0 (hbind s₁ (.ref a)) (.cons rfl .nil) (hsp H hS hT)) fun r s' h=>?_
  cases r with
  | error e=>exact h.elim
  | ok fl =>
   cases fl with
   | next=>exact False.elim h
   | brk=>exact False.elim h
   | cont=>exact False.elim h
   | ret u =>
    obtain⟨v,H',os,bare,un,hok',r',q⟩:=h
    have q':v=.bl true:=q
    subst q'
    obtain rfl:u=Value.bool true:=r'
    obtain⟨more,hT'⟩:=un.tbls Pt _ hT
    have hP':s'.heap.get? Pt=some (tabObj (#[]++more)):=hok' Pt _ hT'
    have old:∀ b o,b≠Pt->s₁.heap.get? b=some o->s'.heap.get? b=some o:=fun b o hb e=>by
     cases q:H b with
     | none=>exact un.keep b o e q (by intro z; exact absurd (show b∈([]:List Addr) from z) (by simp)) (by simp)
     | some u =>
      rcases hO b hb with z | ⟨ob,xs,z⟩
      ·rw[q] at z; cases z
      ·have z2:=un.frzs b ob _ z
       obtain⟨e1,_⟩:=hok b _ z
       obtain⟨e2,_⟩:=hok' b _ z2
       rw[e] at e1; cases e1
       exact e2
    refine⟨rfl,⟨fun b o e=>?_,fun b o e=>?_⟩,os,bare⟩
    ·by_cases hb:b=Pt
     ·subst hb
      rw[hP] at e; cases e
      exact .inr (.inl ⟨isT,rfl,#[],more,rfl,hP'⟩)
     ·exact .inl (old b o hb e)
    ·by_cases hb:b=Pt
     ·subst hb; exact⟨_,hP'⟩
     ·exact⟨o,old b o hb e⟩
 cases hk:K.lookup a with
 | some o =>
  have e:=KX a o hk
  rw[ha] at e
  cases e
  refine core (upd (fun _=>none) Pt (.tbl #[])) (fun b hb=>.inl (ak hb)) (.inr ⟨_,vs.toArray,_,hk,rfl,rfl,rfl,by rw[List.size_toArray,lenV]; exact hl,by simpa using rv⟩) aI (fun b u z=>?_) (fun b z=>?_) fun z=>absurd (ak aP) z
  ·by_cases hb:b=Pt
   ·subst hb
    rw[aI] at z
    cases z
    exact hP
   ·rw[ak hb] at z
    cases z
  ·by_cases hb:b=Pt
   ·exact .inr hb
   ·exact absurd (ak hb) z
 | none =>
  refine core (upd (fun b=>if b=a then some (.frz { cls:=.type "list",data:=.seq vs.toArray } (.lst (ns.map V.int))) else none) Pt (.tbl #[])) (fun b hp=>?_) (.inl (.inr ⟨{ cls:=.type "list",data:=.seq vs.toArray },(ak aP).trans (if_pos rfl)⟩)) aI (fun b u z=>?_) (fun b z=>?_) fun _=>hk
  ·rw[ak hp]
   by_cases hb:b=a
   ·exact .inr ⟨_,_,if_pos hb⟩
   ·exact .inl (if_neg hb)
  ·by_cases hp:b=Pt
   ·subst hp
    rw[aI] at z
    cases z
    exact hP
   rw[ak hp] at z
   by_cases hb:b=a
   ·have z':=(if_pos hb).symm.trans z
    cases z'
    subst hb
    exact⟨ha,by rw[List.length_map]; exact hl,vs,_,rv,ha⟩
   ·have z':=(if_neg hb).symm.trans z
    cases z'
  ·by_cases hp:b=Pt
   ·exact .inr hp
   rw[ak hp] at z
   by_cases hb:b=a
   ·exact .inl hb
   ·exact absurd (if_neg hb) z
theorem xf{K:PySem.W.Frag}{x:Str}{c P:Addr}(h:tabIn K x=some (c,P)):∃ o,K.lookup c=some o:=by
 unfold tabIn at h
 split at h
 ·split at h
  ·split at h
   ·rename_i c' _
    split at h
    ·rename_i e
     split at h
     ·cases h; exact⟨_,e⟩
     ·cases h
    ·cases h
   ·cases h
  ·cases h
 ·cases h
theorem law_walkL{l:PySem.W.OpenLaw}{q:Program}{loose:List Str}{XP:(Str->Option Value)->Heap->Prop}{YP:World->Heap->Prop}{d dz:DefRec}{K:Params->PySem.W.Frag}{k:Nat}{st:Stmt}{x z:Str}{cz Pz:Params->Addr}(hn:l.most=some 63)(hdf:d.params.defaults=[])(hd:d.name = "law")(hr:Room k callerA)
  (hY:∀ (w:World) (h:Heap),YP w h->(K w.params).In h) (nt:∀ p,noTabs (K p)=true) (hz:(recsOf q).find? (fun e=>e.name==z)=some dz) (tz:∀ p,tabIn (K p) z=some (cz p,Pz p))
  (F:∀ (w:World) (mg:Str->Option Value) (h:Heap),(K w.params).In h->h.Ns mainGlobals mg->cR (K w.params) mg "law" st [x] /\
   ∀ (base:Heap) (f:Addr) (fd:FuncData),BMain mg base->Fun (K w.params) "law" "law" st f fd->FnOk l.prog w (K w.params) mg base CX0 k f fd [x] (spL (K w.params) (sS z)))
  (hb:∀ (kV doc pm:Value) (an:Option Addr) (cdv ct:Value) (u:Value),bindArgs (PySem.W.fnOf "law" "law" (fy st) (bu st) (am st) .none kV doc pm an cdv ct) ⟨[u],[]⟩=pure [(x,u)]) :
  PySem.W.WalkO q loose XP YP l.row.toRowW d [] (fun f vs=>PySem.call f vs):=by
 refine Att.attach_call hn hdf fun w s₀ s₁ mg mb fa o pm cd doc a vs ns G Y ho hdd hcd hmg hobj hints hlen hg=>?_
 have KX:=hY w _ Y
 rw[hd] at hmg
 obtain⟨⟨f,fd,F1,hm,_⟩,C⟩:=F w mg _ KX G.T.g
 have e:=hmg.symm.trans hm
 cases e
 obtain⟨CH,hP⟩:=tab_of G.T KX hz (tz w.params)
 obtain⟨oc',hlc⟩:=xf (tz w.params)
 have CK:∀ h:Heap,(K w.params).In h->CodeHd h (cz w.params) (Pz w.params):=fun h X=>by
  obtain⟨o2,vs2,file,tf,flags,tg,inF,text,tt,e1,r⟩:=CH
  have e2:=KX _ _ hlc
  rw[e1] at e2
  cases e2
  exact⟨_,vs2,file,tf,flags,tg,inF,text,tt,X _ _ hlc,r⟩
 have bmn:BMain mg s₁.heap:=by
  obtain⟨bm,ob,b1,b2,b3,b4,b5,b6⟩:=G.T.bmain
  refine⟨bm,ob,b1,b2,fun z=>?_,b3,b4,b5,b6⟩
  obtain⟨og,es,ep,eg,dg,_⟩:=G.T.g
  rw[z,eg] at b3
  cases b3
  rw[dg] at b6
  cases b6
 have aP:a≠Pz w.params:=fun e=>by rw[e,hP] at hobj; cases hobj
 obtain⟨oc,od,kV,doc',pm',an,cdv,ct,osl,rfl,lk,hcd'⟩:=id F1.ex
 exact vL KX G.T.g G.T.b G.T.builtins G.T.nolimit hg hobj hints (Nat.le_trans hlen (by decide)) hr (nt _) hP (CH.tab hP).isCodeTable bmn (fun base _ _ B=>C base _ _ B F1) (fun s v=>.of_eq (hb kV doc' pm' an cdv ct v)) fun H hS hT=>ph hlen hS hT (tz w.params) CK aP
end L2
namespace LW
open PySem L2
local macro_rules | `(tactic| walk_at "sc")=>`(tactic| exact⟨rfl,rfl,rfl,by decide +kernel,rfl,by decide +kernel,by decide +kernel⟩)
local macro_rules | `(tactic| walk_at "dl")=>`(tactic| simp only[EE,aB,dIf,ET,yD,dOr,aA,dCB,ab,ah,bg,tD,dOrV,dLC,tw,cJ,au,bC,aZ,jk,nR,dOp,dC,ac,eY,ji,dSl,jE,dY,dMl,dm,lU,yW,qAdd,bc,CC,kZ,oO,sD,qLt,CD,qGt,qIs,kt,qEq,qNe,CF,kr,qIx,qSl,cr,dAsg,yz,nN,bT,nO,iJ,fP,yC,gh,pJ,lT,pI,dMt,fQ,rQ,rO,gi,Ai,kY,rP,sE,BW,fg,ip,rN,BC,gB,SqAt,Ah,kI,at0,at1,at2,tyD,dst,bR,EL,List.map_cons,List.map_nil,List.cons_append,List.nil_append,List.getElem?_cons_zero,List.getElem?_cons_succ,List.length_cons,List.length_nil,List.replicate_zero,List.replicate_succ,List.set_cons_zero,List.set_cons_succ,Nat.sub_self,Nat.reduceAdd,Nat.reduceSub,Option.join_some,if_true,if_false,Bool.false_eq_true])
def top(i:Nat):Stmt:=PySem.Challenge.pw_talkmarks_k21_what_is_taken_back.main.body.getD i (.Pass ⟨0,0,0,0⟩)
abbrev B_:List Str:=["dict","sorted","set","len","range","tuple","list","max","isinstance"]
abbrev C_:List (Str×Int):=[]
abbrev dO:List Str:=["house","room"]
abbrev gF:List Str:=["deed"]
abbrev fi:List Str:=["deed"]
abbrev cu:List Str:=["log","kind"]
abbrev iN:List Str:=["say"]
abbrev gD:List Str:=["say"]
abbrev fj:List Str:=["house","say","elders"]
abbrev bJ:List Str:=["house","log"]
abbrev cH:List Str:=["deed","says"]
abbrev cW:List Str:=["log","kind","says"]
abbrev cG:List Str:=["log","says"]
abbrev br:List Str:=["log","says"]
abbrev dN:List Str:=["say","changes"]
abbrev dM:List Str:=["house","log"]
abbrev cX:List Str:=["house","log"]
abbrev dL:List Str:=["house","log"]
abbrev iO:List Str:=["_law_script","_law_k"]
abbrev lu:List Str:=["_law_cell"]
abbrev uW:List Str:=["_law_held","_law_many"]
abbrev uZ:List Str:=["_law_held"]
abbrev oQ:List Str:=["_law_held","_law_many"]
abbrev oR:List Str:=["_law_cell"]
abbrev lr:List Str:=["_law_held","_law_names_here"]
abbrev uY:List Str:=["_law_held","_law_hands_here","_law_says"]
abbrev lp:List Str:=["_law_held","_law_hands_here","_law_done"]
abbrev uV:List Str:=["_law_held","_law_house_here","_law_hands_here","_law_says"]
abbrev AD:List Str:=["_law_held","_law_house_here","_law_hands_here","_law_says","_law_done"]
abbrev oS:List Str:=["_law_house_here"]
abbrev AA:List Str:=["_law_cells","_law_house_here"]
abbrev uX:List Str:=["_law_log_here"]
abbrev lq:List Str:=["_law_house_here","_law_said_here","_law_stamp"]
abbrev AC:List Str:=["_law_house_here","_law_log_here"]
abbrev va:List Str:=["_law_log_here","_law_hand","_law_act_here"]
abbrev AB:List Str:=["_law_script"]
structure Tops(P:Program)(w:World)(K:PySem.W.Frag)(mg:Str->Option Value)(base:Heap):Prop where
 f_members_of:cR K mg "members_of" (top 4) dO
 f_stamp_of:cR K mg "stamp_of" (top 6) gF
 f_person_of:cR K mg "person_of" (top 7) fi
 f_deeds_of_kind:cR K mg "deeds_of_kind" (top 9) cu
 f_room_of:cR K mg "room_of" (top 11) iN
 f_under_of:cR K mg "under_of" (top 12) gD
 f_can_stand:cR K mg "can_stand" (top 13) fj
 f_says_that_count:cR K mg "says_that_count" (top 14) bJ
 f_is_by_writer:cR K mg "is_by_writer" (top 15) cH
 f_writers_own:cR K mg "writers_own" (top 16) cW
 f_last_changes:cR K mg "last_changes" (top 17) cG
 f_stamps_taken_back:cR K mg "stamps_taken_back" (top 18) br
 f_message_of:cR K mg "message_of" (top 19) dN
 f_says_shown:cR K mg "says_shown" (top 20) dM
 f_messages_of:cR K mg "messages_of" (top 21) cX
 f_taken_back:cR K mg "taken_back" (top 22) dL
 f_cell_at:cR K mg "_law_cell_at" (top 24) iO
 f_digits:cR K mg "_law_digits" (top 25) lu
 f_take:cR K mg "_law_take" (top 26) uW
 f_name:cR K mg "_law_name" (top 27) uZ
 f_names:cR K mg "_law_names" (top 28) oQ
 f_house:cR K mg "_law_house" (top 29) oR
 f_saying:cR K mg "_law_saying" (top 30) lr
 f_pick:cR K mg "_law_pick" (top 31) uY
 f_vector:cR K mg "_law_vector" (top 32) lp
 f_what:cR K mg "_law_what" (top 33) uV
 f_act:cR K mg "_law_act" (top 34) AD
 f_hands:cR K mg "_law_hands" (top 35) oS
 f_log:cR K mg "_law_log" (top 36) AA
 f_said:cR K mg "_law_said" (top 37) uX
 f_stands:cR K mg "_law_stands" (top 38) lq
 f_due:cR K mg "_law_due" (top 39) AC
 f_more:cR K mg "_law_more" (top 40) va
 f_law:cR K mg "law" (top 41) AB
 b:TopB mg B_ C_
 bm:BMain mg base
local macro_rules | `(tactic| walk_at "bb")=>`(tactic| first | exact BR | exact lX | exact EY | exact BP | exact EX | exact oi | exact yI)
local macro_rules | `(tactic| walk_at "tb")=>`(tactic| exact TopB.no (by k_dflt assumption) (by kernel_rfl))
local macro_rules | `(tactic| walk_at "dv")=>`(tactic| (intro _ _ _ _ _ _ _ _ _ _; refine wo rfl ?_; repeat' (first | (with_reducible first | (refine gA ?_; first | exact zp | refine vZ ?_ ?_) | exact DH | (refine zH ?_; first | exact DR | exact k_bl | exact DO | exact DM) | (refine Ek ?_; first | refine kB (by k_dflt assumption) ?_ (by walk_at "tb") (by walk_at "tb") | refine kC ?_ (by walk_at "tb") | refine nw (by k_dflt assumption) (by k_dflt assumption) (by k_dflt assumption) ?_ (by walk_at "tb") (fun _ _ _ _ _ _ _ _=>?_) (by k_dflt (exact nj (by kernel_rfl))) (by k_dflt kernel_rfl) (by k_dflt kernel_rfl) (by k_dflt (intro _ _ _ _; kernel_rfl)) | refine wc ?_ (by walk_at "tb") (by walk_at "bb") ?_ | refine rA ?_ (by walk_at "tb") (by walk_at "bb") ?_ | refine DV (by k_dflt assumption) (by k_dflt assumption) ?_ | refine wa (by k_dflt assumption) ?_ ?_ | refine k_ml ?_ ?_ ?_) | (refine gIx ?_; first | refine wb ?_ ?_ ?_ | refine zt (by k_dflt assumption) ?_ ?_ (hs:=by k_dflt (intro _ _; kernel_rfl)) | refine zu (by k_dflt assumption) ?_ ?_ (hs:=by k_dflt (intro _ _; kernel_rfl)) | refine k_ix ?_ ?_ (hs:=by k_dflt (intro _ _; kernel_rfl))) | (refine gT ?_; first | refine zf ?_ ?_ ?_ | refine ze ?_ | refine kw_t (qV ?_ ?_) | refine kw_t (xX ?_ ?_) | refine zd ?_) | (refine gE ?_; first | exact zr | exact zq (by walk_at "tb") (by walk_at "bb") | refine k_op ?_ ?_ ?_ | refine DU ?_ ?_ ?_ | refine DN ?_ | refine DX ?_ ?_ | refine k_or ?_ ?_ | refine DJ ?_ | refine DP ?_ | refine DQ ?_ (fun _ _ _ _=>?_) (fun _ _ _ _=>?_) (fun _ _ _ _=>?_)) | (refine gS ?_; first | exact ik | refine lL ?_ | refine qX ?_ | refine xZ ?_ ?_ ?_ | refine fY (by k_dflt assumption) ?_ (fun _ _ _ _=>?_) (fun _ _ _ _=>?_) (fun _ _ _ _=>?_) | refine qW (by k_dflt assumption) ?_ | refine qZ ?_ ?_ | refine lK (by k_dflt assumption) ?_ ?_ ?_ | refine qY ?_ ?_ ?_ | refine ij ?_ ?_) | (refine gOp ?_; first | exact wk | exact Eg (by k_dflt assumption) | exact wj | exact Ef | exact Ee (by k_dflt assumption) | exact zE (by k_dflt assumption) | exact Ed | exact rD | exact Ec | exact zD (by k_dflt assumption) | exact zC | exact zB | exact Eb (by k_dflt assumption) | exact nC (by k_dflt assumption) | exact rC (by k_dflt assumption) | exact zA | exact zy | exact zw) | (refine gC ?_; first | exact nF (by k_dflt assumption) | exact rF (by k_dflt assumption) | exact zG | exact zF | exact wm | exact kD (by k_dflt assumption) | exact rE) | exact zh | exact vQ | exact vT | exact vU | refine zg ?_ | refine qV ?_ ?_ | refine xX ?_ ?_ | refine vM ?_ | refine za ?_ | refine vP ?_ | refine vS ?_ | refine nq (by walk_at "tb") ?_ | refine np (by walk_at "tb") ?_ | refine re ?_ | refine rh ?_ | refine zi ?_ | exact vV (by k_dflt assumption) | exact zm (AR (by kernel_rfl)) | refine rj ?_ ?_ | refine zj ?_ | refine zk ?_ ?_ | exact nE | exact nD) | refine vR ?_ ?_ | refine lL ?_ | refine qX ?_ | refine xZ ?_ ?_ ?_ | refine fY (by k_dflt assumption) ?_ (fun _ _ _ _=>?_) (fun _ _ _ _=>?_) (fun _ _ _ _=>?_) | refine qW (by k_dflt assumption) ?_ | refine qZ ?_ ?_ | refine lK (by k_dflt assumption) ?_ ?_ ?_ | refine qY ?_ ?_ ?_ | refine ij ?_ ?_ | exact ik)))
local macro_rules | `(tactic| walk_at "dvl")=>`(tactic| (intro _ _ _ _ _ _ _ _ _ _ _; refine wo rfl ?_; repeat' (first | (with_reducible first | (refine gA ?_; first | exact zp | refine vZ ?_ ?_) | exact DH | (refine zH ?_; first | exact DR | exact k_bl | exact DO | exact DM) | (refine Ek ?_; first | refine kB (by k_dflt assumption) ?_ (by walk_at "tb") (by walk_at "tb") | refine kC ?_ (by walk_at "tb") | refine nw (by k_dflt assumption) (by k_dflt assumption) (by k_dflt assumption) ?_ (by walk_at "tb") (fun _ _ _ _ _ _ _ _=>?_) (by k_dflt (exact nj (by kernel_rfl))) (by k_dflt kernel_rfl) (by k_dflt kernel_rfl) (by k_dflt (intro _ _ _ _; kernel_rfl)) | refine wc ?_ (by walk_at "tb") (by walk_at "bb") ?_ | refine rA ?_ (by walk_at "tb") (by walk_at "bb") ?_ | refine DV (by k_dflt assumption) (by k_dflt assumption) ?_ | refine wa (by k_dflt assumption) ?_ ?_ | refine k_ml ?_ ?_ ?_) | (refine gIx ?_; first | refine wb ?_ ?_ ?_ | refine zt (by k_dflt assumption) ?_ ?_ (hs:=by k_dflt (intro _ _; kernel_rfl)) | refine zu (by k_dflt assumption) ?_ ?_ (hs:=by k_dflt (intro _ _; kernel_rfl)) | refine k_ix ?_ ?_ (hs:=by k_dflt (intro _ _; kernel_rfl))) | (refine gT ?_; first | refine zf ?_ ?_ ?_ | refine ze ?_ | refine kw_t (qV ?_ ?_) | refine kw_t (xX ?_ ?_) | refine zd ?_) | (refine gE ?_; first | exact zr | exact zq (by walk_at "tb") (by walk_at "bb") | refine k_op ?_ ?_ ?_ | refine DU ?_ ?_ ?_ | refine DN ?_ | refine DX ?_ ?_ | refine k_or ?_ ?_ | refine DJ ?_ | refine DP ?_ | refine DQ ?_ (fun _ _ _ _=>?_) (fun _ _ _ _=>?_) (fun _ _ _ _=>?_)) | (refine gS ?_; first | exact ik | refine lL ?_ | refine qX ?_ | refine xZ ?_ ?_ ?_ | refine fY (by k_dflt assumption) ?_ (fun _ _ _ _=>?_) (fun _ _ _ _=>?_) (fun _ _ _ _=>?_) | refine qW (by k_dflt assumption) ?_ | refine qZ ?_ ?_ | refine lK (by k_dflt assumption) ?_ ?_ ?_ | refine qY ?_ ?_ ?_ | refine ij ?_ ?_) | (refine gOp ?_; first | exact wk | exact Eg (by k_dflt assumption) | exact wj | exact Ef | exact Ee (by k_dflt assumption) | exact zE (by k_dflt assumption) | exact Ed | exact rD | exact Ec | exact zD (by k_dflt assumption) | exact zC | exact zB | exact Eb (by k_dflt assumption) | exact nC (by k_dflt assumption) | exact rC (by k_dflt assumption) | exact zA | exact zy | exact zw) | (refine gC ?_; first | exact nF (by k_dflt assumption) | exact rF (by k_dflt assumption) | exact zG | exact zF | exact wm | exact kD (by k_dflt assumption) | exact rE) | exact zh | exact vQ | exact vT | exact vU | refine zg ?_ | refine qV ?_ ?_ | refine xX ?_ ?_ | refine vM ?_ | refine za ?_ | refine vP ?_ | refine vS ?_ | refine nq (by walk_at "tb") ?_ | refine np (by walk_at "tb") ?_ | refine re ?_ | refine rh ?_ | refine zi ?_ | exact vV (by k_dflt assumption) | exact zm (AR (by kernel_rfl)) | refine rj ?_ ?_ | refine zj ?_ | refine zk ?_ ?_ | exact nE | exact nD) | refine vR ?_ ?_ | refine lL ?_ | refine qX ?_ | refine xZ ?_ ?_ ?_ | refine fY (by k_dflt assumption) ?_ (fun _ _ _ _=>?_) (fun _ _ _ _=>?_) (fun _ _ _ _=>?_) | refine qW (by k_dflt assumption) ?_ | refine qZ ?_ ?_ | refine lK (by k_dflt assumption) ?_ ?_ ?_ | refine qY ?_ ?_ ?_ | refine ij ?_ ?_ | exact ik)))
section
variable{P:Program}{w:World}{K:PySem.W.Frag}{mg:Str->Option Value}{base:Heap}
def fV(p:Str×Int):D:=.tup [.str p.1,.int p.2]
def Hd(d:D):Prop:=∃ (x:Str) (k:Int),d=.tup [.str x,.int k]
theorem hd_eq(ha:Hd a)(hb:Hd b):eqD M (n+1) a b=true↔a=b:=by
 obtain⟨x,k,rfl⟩:=ha
 obtain⟨y,l,rfl⟩:=hb
 show (eqD M n (.str x) (.str y)&&(eqD M n (.int k) (.int l)&&true))=true↔_
 rw[bp,jg]
 simp
theorem hd_ok(ha:Hd a):okD M eqN a=true:=by
 obtain⟨x,k,rfl⟩:=ha
 rfl
theorem hd_key(ha:Hd a):cf 8 a=true:=by
 obtain⟨x,k,rfl⟩:=ha
 rfl
def vecD(hs:List (D×Int)):List D:=hs.map fun p=>.tup [p.1,.int p.2]
noncomputable def Cg(hs:List (D×Int))(hd:D)(num:Int):Bool:=match hs.find? fun p=>decide (p.1=hd) with
 | some p=>decide (num < p.2)
 | none=>false
def plD:Nat->D->Bool
 | n+1,.tup xs=>xs.all (plD n)
 | 0,.tup _=>false
 | _,.ref _=>false
 | _,.ty _=>false
 | _,_=>true
def Pln(n:Nat)(d:D):Prop:=plD n d=true
def jG(n:Nat)(ds:List D):Prop:=ds.all (plD n)=true
theorem Pln.non:Pln n .non:=by cases n <;> rfl
theorem Pln.bl(b:Bool):Pln n (.bl b):=by cases n <;> rfl
theorem Pln.int(i:Int):Pln n (.int i):=by cases n <;> rfl
theorem Pln.str(x:Str):Pln n (.str x):=by cases n <;> rfl
theorem jG.nil:jG n []:=rfl
theorem jG.cons(h:Pln n d)(t:jG n ds):jG n (d::ds):=by
 unfold jG Pln at *
 rw[List.all_cons,h,t]; rfl
theorem Pln.tup(h:jG n ds):Pln (n+1) (.tup ds):=h
theorem jG.of(h:∀ d∈ds,Pln n d):jG n ds:=List.all_eq_true.mpr h
theorem bI:∀ (n:Nat) (d:D),Pln n d->Bel k d:=by
 intro n
 induction n with
 | zero =>
  intro d h
  cases d with
  | tup xs=>cases h
  | ref i=>cases h
  | ty t=>cases h
  | non=>exact .non
  | bl b=>exact .bl b
  | int i=>exact .int i
  | str x=>exact .str x
 | succ n ih =>
  intro d h
  cases d with
  | tup xs=>exact .tup (Bels.of fun x hx=>ih x (List.all_eq_true.mp h x hx))
  | ref i=>cases h
  | ty t=>cases h
  | non=>exact .non
  | bl b=>exact .bl b
  | int i=>exact .int i
  | str x=>exact .str x
theorem lP:∀ {xs:List D},(∀ x∈xs,f x x=true)->eqL f xs xs=true
 | [],_=>rfl
 | x::xs,h=>by
  show (f x x&&eqL f xs xs)=true
  rw[h x (by simp),lP fun y hy=>h y (List.mem_cons_of_mem _ hy)]; rfl
theorem uQ:∀ (n m:Nat) (d:D),n<=m->Pln n d->okD M m d=true/\eqD M m d d=true:=by
 intro n
 induction n with
 | zero =>
  intro m d _ h
  cases d with
  | tup xs=>cases h
  | ref i=>cases h
  | ty t=>cases h
  | non=>exact⟨vn,by cases m <;> rfl⟩
  | bl b=>exact⟨yX,by cases m <;> cases b <;> rfl⟩
  | int i=>exact⟨lE,by rw[jg]; exact beq_self_eq_true i⟩
  | str x=>exact⟨az,by rw[bp]; exact beq_self_eq_true x⟩
 | succ n ih =>
  intro m d hm h
  cases m with
  | zero=>lia
  | succ m =>
   cases d with
   | tup xs=>exact⟨AJ fun x hx=>(ih m x (by lia) (List.all_eq_true.mp h x hx)).1,lP fun x hx=>(ih m x (by lia) (List.all_eq_true.mp h x hx)).2⟩
   | ref i=>cases h
   | ty t=>cases h
   | non=>exact⟨vn,rfl⟩
   | bl b=>exact⟨yX,by cases b <;> rfl⟩
   | int i=>exact⟨lE,by rw[jg]; exact beq_self_eq_true i⟩
   | str x=>exact⟨az,by rw[bp]; exact beq_self_eq_true x⟩
theorem yj(h:Hd d):Pln (n+1) d:=by
 obtain⟨x,i,rfl⟩:=h
 exact .tup (.cons (.str _) (.cons (.int _) .nil))
theorem Eh(h:Hd d):Bel k d:=bI 1 d (yj h)
def Deed(d:D):Prop:=∃ (t:Int) (hd:D) (num:Int) (act:D),d=.tup [.int t,hd,.int num,act]/\Hd hd/\Pln 5 act
theorem BD(h:Deed d):Pln 6 d:=by
 obtain⟨t,hd,num,act,rfl,hh,ha⟩:=h
 exact .tup (.cons (.int _) (.cons (yj hh) (.cons (.int _) (.cons ha .nil))))
theorem yA(h:Deed d):Bel k d:=bI 6 d (BD h)
theorem EK(h:∀ d∈ds,Deed d):Bels k ds:=Bels.of fun d hd=>yA (h d hd)
def handD:D->D
 | .tup (_::h::_)=>h
 | _=>.non
def numD:D->Int
 | .tup (_::_::.int n::_)=>n
 | _=>0
noncomputable def many(log:List D)(hd:D):Nat:=(log.filter fun d=>decide (handD d=hd)).length
theorem il:bj (fh kvs k d) k=some d:=by
 unfold fh
 split
 ·rename_i hs
  unfold bj at hs ⊢
  rw[Option.isSome_map] at hs
  obtain⟨q,hq⟩:=Option.isSome_iff_exists.mp hs
  rw[List.find?_map]
  have e:((fun p:D×D=>decide (p.1=k)) ∘ fun p:D×D=>if p.1=k then (p.1,d) else p)=fun p=>decide (p.1=k):=by
   funext p
   show decide ((if p.1=k then (p.1,d) else p).1=k)=decide (p.1=k)
   split <;> rfl
  rw[e,hq]
  have hk:q.1=k:=by
   have:=List.find?_some hq
   exact of_decide_eq_true this
  show some (if q.1=k then (q.1,d) else q).2=_
  rw[if_pos hk]
 ·rename_i hs
  unfold bj at hs ⊢
  rw[Option.isSome_map,Option.not_isSome_iff_eq_none] at hs
  rw[List.find?_append,hs]
  simp
theorem je(h:j≠k):bj (fh kvs k d) j=bj kvs j:=by
 unfold fh
 split
 ·unfold bj
  rw[List.find?_map]
  have e:((fun p:D×D=>decide (p.1=j)) ∘ fun p:D×D=>if p.1=k then (p.1,d) else p)=fun p=>decide (p.1=j):=by
   funext p
   show decide ((if p.1=k then (p.1,d) else p).1=j)=decide (p.1=j)
   split <;> rfl
  rw[e]
  cases hf:kvs.find? fun p=>decide (p.1=j) with
  | none=>rfl
  | some q =>
   have hq:q.1=j:=by
    have:=List.find?_some hf
    exact of_decide_eq_true this
   show some (if q.1=k then (q.1,d) else q).2=some q.2
   rw[if_neg (by rw[hq]; exact h)]
 ·unfold bj
  rw[List.find?_append]
  cases hf:kvs.find? fun p=>decide (p.1=j) with
  | none=>simp[Ne.symm h]
  | some q=>rfl
theorem iX:∀ {kvs:List (D×D)}{p:D×D},(kvs.map (·.1)).Nodup->p∈kvs->bj kvs p.1=some p.2
 | q::kvs,p,nd,h=>by
  rw[List.map_cons,List.nodup_cons] at nd
  unfold bj
  rw[List.find?_cons]
  rcases List.mem_cons.mp h with rfl | h
  ·rw[decide_eq_true rfl]; rfl
  ·have:q.1≠p.1:=fun z=>nd.1 (by rw[z]; exact List.mem_map_of_mem h)
   rw[decide_eq_false this]
   exact iX nd.2 h
theorem bK(h:bj kvs k=some d):(k,d)∈kvs:=by
 unfold bj at h
 obtain⟨q,hq,rfl⟩:=Option.map_eq_some_iff.mp h
 have e:q.1=k:=by
  have:=List.find?_some hq
  exact of_decide_eq_true this
 rw[← e]
 exact List.mem_of_find?_eq_some hq
theorem cB{α:Type}{P:List α->Prop}(h0:P [])(h1:∀ l x,P l->P (l++[x]))(l:List α):P l:=by
 rw[← List.reverse_reverse l]
 induction l.reverse with
 | nil=>exact h0
 | cons x xs ih=>rw[List.reverse_cons]; exact h1 _ _ ih
theorem fW(hL:ao M n xs)(ok:∀ x∈xs,okD (M++[MO.lst []]) 29 x=true):(okD (M++[MO.lst []]) eqN (.ref n)=true/\okD (M++[MO.lst []]) eqN (.ref M.length)=true)/\eqD (M++[MO.lst []]) eqN (.ref n) (.ref M.length)=xs.isEmpty:=by
 have h1:ao (M++[MO.lst []]) n xs:=hL.more _
 have h2:ao (M++[MO.lst []]) M.length []:=aC
 refine⟨⟨lD (n:=29) h1 ok,lD (n:=29) h2 fun _ z=>nomatch z⟩,?_⟩
 exact(rJ (n:=29) h1 h2).trans Bq
theorem Dy(h:m≠n)(l:ao M m xs):ao (M.set n x) m xs:=by
 rcases l with l | l | l
 ·exact .inl (by rw[List.getElem?_set_ne (Ne.symm h)]; exact l)
 ·exact .inr (.inl (by rw[List.getElem?_set_ne (Ne.symm h)]; exact l))
 ·exact .inr (.inr (by rw[List.getElem?_set_ne (Ne.symm h)]; exact l))
theorem ax{M:Mem}{m n:Nat}{x y:MO}(h:m≠n)(l:M[m]?=some y):(M.set n x)[m]?=some y:=by rw[List.getElem?_set_ne (Ne.symm h)]; exact l
theorem aW{M:Mem}{m:Nat}{y:MO}(l:M[m]?=some y):m < M.length:=(List.getElem?_eq_some_iff.mp l).1
theorem vA(l:ao M m xs):m < M.length:=by
 rcases l with l | l | l <;> exact aW l
theorem ae{B:Mem}{q:Nat}{x a:MO}(h:B[q]?=some x):(B++[a])[q]?=some x:=by
 rw[List.getElem?_append_left (List.getElem?_eq_some_iff.mp h).1]; exact h
theorem dU{B:Mem}{q:Nat}{x a:MO}(h:B[q]?=some x):(B.set q a)[q]?=some a:=List.getElem?_set_self (List.getElem?_eq_some_iff.mp h).1
theorem dR(p:M <+: B)(l:ao M q xs):ao B q xs:=by
 obtain⟨L,rfl⟩:=p
 exact l.more L
theorem cI{M B:Mem}{q:Nat}{x:MO}(p:M <+: B)(l:M[q]?=some x):B[q]?=some x:=by
 obtain⟨L,rfl⟩:=p
 rw[List.getElem?_append_left (aW l)]; exact l
theorem ints_bel(xs:List Int):Bels k (xs.map D.int):=Bels.of fun d hd=>by
 obtain⟨x,_,rfl⟩:=List.mem_map.mp hd
 exact .int x
theorem qH(xs:List Str):Bels k (xs.map D.str):=Bels.of fun d hd=>by
 obtain⟨x,_,rfl⟩:=List.mem_map.mp hd
 exact .str x
theorem qS{a b:Int}(h:0 < b):0<=a % b:=Int.emod_nonneg _ (by lia)
theorem qT{a b:Int}(h:0 < b):a % b < b:=Int.emod_lt_of_pos _ h
theorem zM{α:Type}{xs:List α}{i:Int}(h:1<=xs.length):∃ x∈xs,atI xs (i % (xs.length:Int))=some x:=by
 obtain⟨j,hj,ej,_⟩:=fe (xs:=xs) (qS (a:=i) (b:=xs.length) (by lia)) (qT (by lia))
 exact⟨xs[j],List.getElem_mem hj,ej⟩
theorem dH(p:M <+: B)(h:M.length<=q):M <+: B.set q x:=by
 obtain⟨L,rfl⟩:=p
 rw[List.set_append_right _ _ h]
 exact List.prefix_append _ _
def dc(p:Str×Int):List D:=(oq 0 p.2.toNat).map fun k=>.tup [.str p.1,k]
def av(ps:List (Str×Int)):List D:=ps.flatMap dc
def Few(ps:List (Str×Int)):Prop:=ps.length<=4/\∀ p∈ps,0<=p.2/\p.2<=3
theorem fv:(dc p).length=p.2.toNat:=by simp[dc,oq]
theorem kE(h:∀ p∈ps,0<=p.2/\p.2<=3):(av ps).length<=3*ps.length:=by
 induction ps with
 | nil=>simp[av]
 | cons p ps ih =>
  have:=ih fun q hq=>h q (List.mem_cons_of_mem _ hq)
  have h1:=h p List.mem_cons_self
  have e:(av (p::ps)).length=p.2.toNat+(av ps).length:=by
   rw[av,List.flatMap_cons,List.length_append,fv]; rfl
  rw[e,List.length_cons]
  lia
theorem lM:∀ d∈av ps,Hd d:=fun d hd=>by
 unfold av at hd
 obtain⟨p,_,hp⟩:=List.mem_flatMap.mp hd
 unfold dc oq at hp
 simp only[List.map_map,List.mem_map] at hp
 obtain⟨i,_,rfl⟩:=hp
 exact⟨_,_,rfl⟩
theorem sW:Bels k (av ps):=Bels.of fun d hd=>Eh (lM d hd)
def jw(p:Str×List Str):D:=.tup [.str p.1,.tup (p.2.map .str)]
def aF(ps:List (Str×Int))(rs:List (Str×List Str)):D:=.tup [.tup (ps.map fV),.tup (rs.map jw)]
structure HouseF(ps:List (Str×Int))(rs:List (Str×List Str)):Prop where
 len:1<=ps.length/\ps.length<=4
 many:∀ p∈ps,1<=p.2/\p.2<=3
 nm:∀ p∈ps,p.1.length<=8
 rl:1<=rs.length/\rs.length<=4
 pnd:(ps.map (·.1)).Nodup
 rnd:(rs.map (·.1)).Nodup
 rm:∀ r∈rs,r.2.length<=4
def St(d:D):Prop:=∃ (t:Int) (z:Str) (k:Int),d=.tup [.int t,.tup [.str z,.int k]]
theorem St.key(h:St d):cf 8 d=true:=by obtain⟨t,z,k,rfl⟩:=h; rfl
theorem St.ok(h:St d):okD M eqN d=true:=by obtain⟨t,z,k,rfl⟩:=h; rfl
theorem St.pl(h:St d):Pln (n+2) d:=by
 obtain⟨t,z,k,rfl⟩:=h
 exact .tup (.cons (.int _) (.cons (.tup (.cons (.str _) (.cons (.int _) .nil))) .nil))
theorem St.eq(ha:St a)(hb:St b):eqD M (n+2) a b=decide (a=b):=by
 obtain⟨t,z,k,rfl⟩:=ha
 obtain⟨t',z',k',rfl⟩:=hb
 have e:eqD M (n+2) (.tup [.int t,.tup [.str z,.int k]]) (.tup [.int t',.tup [.str z',.int k']])=((t==t')&&(((z==z')&&((k==k')&&true))&&true)):=by
  show (eqD M (n+1) (.int t) (.int t')&&((eqD M n (.str z) (.str z')&&(eqD M n (.int k) (.int k')&&true))&&true))=_
  rw[jg,bp,jg]
 rw[e]
 by_cases h:D.tup [.int t,.tup [.str z,.int k]]=.tup [.int t',.tup [.str z',.int k']]
 ·rw[decide_eq_true h]
  simp only[D.tup.injEq,List.cons.injEq,D.int.injEq,D.str.injEq,and_true] at h
  obtain⟨rfl,rfl,rfl⟩:=h
  simp
 ·rw[decide_eq_false h]
  simp only[D.tup.injEq,List.cons.injEq,D.int.injEq,D.str.injEq,and_true] at h
  refine Bool.eq_false_iff.mpr fun q=>h ?_
  simpa using q
theorem St.tup(h:St d):∃ ks,d=.tup ks:=by obtain⟨t,z,k,rfl⟩:=h; exact⟨_,rfl⟩
structure ActK(rs:List (Str×List Str))(x:Str)(ds:List D):Prop where
 say:x=Str.ofString "say"->∃ (r:Str) (u:D) (s:Str),ds=[.str r,u,.str s]/\r∈rs.map (·.1)/\(u=.non\/St u)
 change:x=Str.ofString "change"->∃ (m:D) (s:Str),ds=[m,.str s]/\St m
 back:x=Str.ofString "back"->∃ m:D,ds=[m]/\St m
 like:x=Str.ofString "like"->∃ (m:D) (s:Str) (b:Bool),ds=[m,.str s,.bl b]/\St m
section
variable{rs:List (Str×List Str)}
theorem qL:Str.ofString "say"≠Str.ofString "change"/\Str.ofString "say"≠Str.ofString "back"/\Str.ofString "say"≠Str.ofString "like"/\Str.ofString "change"≠Str.ofString "back"/\Str.ofString "change"≠Str.ofString "like"/\Str.ofString "back"≠Str.ofString "like":=by decide +kernel
theorem ActK.mkSay(hr:r∈rs.map (·.1))(hu:u=.non\/St u):ActK rs (Str.ofString "say") [.str r,u,.str s] :=
 ⟨fun _=>⟨r,u,s,rfl,hr,hu⟩,fun e=>absurd e qL.1,fun e=>absurd e qL.2.1,fun e=>absurd e qL.2.2.1⟩
theorem ActK.mkChange(h:St m):ActK rs (Str.ofString "change") [m,.str s] :=
 ⟨fun e=>absurd e.symm qL.1,fun _=>⟨m,s,rfl,h⟩,fun e=>absurd e qL.2.2.2.1,fun e=>absurd e qL.2.2.2.2.1⟩
theorem ActK.mkBack(h:St m):ActK rs (Str.ofString "back") [m] :=
 ⟨fun e=>absurd e.symm qL.2.1,fun e=>absurd e.symm qL.2.2.2.1,fun _=>⟨m,rfl,h⟩,fun e=>absurd e qL.2.2.2.2.2⟩
theorem ActK.mkLike(h:St m):ActK rs (Str.ofString "like") [m,.str s,.bl b] :=
 ⟨fun e=>absurd e.symm qL.2.2.1,fun e=>absurd e.symm qL.2.2.2.2.1,fun e=>absurd e.symm qL.2.2.2.2.2,fun _=>⟨m,s,b,rfl,h⟩⟩
theorem ActK.mkNone(h:x≠Str.ofString "say"/\x≠Str.ofString "change"/\x≠Str.ofString "back"/\x≠Str.ofString "like"):ActK rs x ds :=
 ⟨fun e=>absurd e h.1,fun e=>absurd e h.2.1,fun e=>absurd e h.2.2.1,fun e=>absurd e h.2.2.2⟩
end
def aT(ps:List (Str×Int))(rs:List (Str×List Str))(d:D):Prop:=∃ (t:Int) (z:Str) (k num:Int) (x:Str) (ds:List D),d=.tup [.int t,.tup [.str z,.int k],.int num,.tup (.str x::ds)]/\1<=t/\D.tup [.str z,.int k]∈av ps/\jG 4 ds/\ActK rs x ds
section
variable{ps:List (Str×Int)}{rs:List (Str×List Str)}
theorem aT.pl(h:aT ps rs d):Pln 6 d:=by
 obtain⟨t,z,k,num,x,ds,rfl,_,_,hp,_⟩:=h
 exact .tup (.cons (.int _) (.cons (yj ⟨_,_,rfl⟩) (.cons (.int _) (.cons (.tup (.cons (.str _) hp)) .nil))))
theorem aT.bels(h:∀ d∈ds,aT ps rs d):Bels k ds:=Bels.of fun d hd=>bI 6 d (h d hd).pl
end
def bP:D->Str
 | .tup [_,_,_,.tup (.str x::_)]=>x
 | _=>Str.ofString ""
def eM:D->Str
 | .tup (_::.tup (.str z::_)::_)=>z
 | _=>Str.ofString ""
def stD:D->D
 | .tup (t::h::_)=>.tup [t,h]
 | _=>.non
def bU:D->Str
 | .tup [_,_,_,.tup (_::.str r::_)]=>r
 | _=>Str.ofString ""
def oo:D->D
 | .tup [_,_,_,.tup (_::_::u::_)]=>u
 | _=>.non
def mR:D->D
 | .tup [_,_,_,.tup (_::m::_)]=>m
 | _=>.non
def sayO:D->D
 | .tup [_,_,_,.tup (_::_::_::s::_)]=>s
 | _=>.non
def numO:D->D
 | .tup [_,_,n,_]=>n
 | _=>.non
def sortO:D->Str
 | .tup [_,_,_,.tup (_::_::.str s::_)]=>s
 | _=>Str.ofString ""
def onO:D->Bool
 | .tup [_,_,_,.tup (_::_::_::.bl b::_)]=>b
 | _=>false
def lF(rs:List (Str×List Str))(r:Str):List Str:=((rs.find? fun p=>decide (p.1=r)).map (·.2)).getD []
noncomputable def kinds(log:List D)(k:Str):List D:=log.filter fun d=>decide (bP d=k)
section
variable{ps:List (Str×Int)}{rs:List (Str×List Str)}
theorem eV(h:aT ps rs d)(e:bP d=Str.ofString "say"):∃ (t:Int) (z:Str) (k num:Int) (r:Str) (u:D) (s:Str),d=.tup [.int t,.tup [.str z,.int k],.int num,.tup [.str (Str.ofString "say"),.str r,u,.str s]]/\1<=t/\D.tup [.str z,.int k]∈av ps/\r∈rs.map (·.1)/\(u=.non\/St u):=by
 obtain⟨t,z,k,num,x,ds,rfl,h1,h2,_,ha⟩:=h
 obtain rfl:x=Str.ofString "say":=e
 obtain⟨r,u,s,rfl,hr,hu⟩:=ha.say rfl
 exact⟨t,z,k,num,r,u,s,rfl,h1,h2,hr,hu⟩
theorem jo(h:aT ps rs d)(e:bP d=Str.ofString "change"):∃ (t:Int) (z:Str) (k num:Int) (m:D) (s:Str),d=.tup [.int t,.tup [.str z,.int k],.int num,.tup [.str (Str.ofString "change"),m,.str s]]/\St m:=by
 obtain⟨t,z,k,num,x,ds,rfl,h1,h2,_,ha⟩:=h
 obtain rfl:x=Str.ofString "change":=e
 obtain⟨m,s,rfl,hm⟩:=ha.change rfl
 exact⟨t,z,k,num,m,s,rfl,hm⟩
theorem pN(h:aT ps rs d)(e:bP d=Str.ofString "back"):∃ (t:Int) (z:Str) (k num:Int) (m:D),d=.tup [.int t,.tup [.str z,.int k],.int num,.tup [.str (Str.ofString "back"),m]]/\St m:=by
 obtain⟨t,z,k,num,x,ds,rfl,h1,h2,_,ha⟩:=h
 obtain rfl:x=Str.ofString "back":=e
 obtain⟨m,rfl,hm⟩:=ha.back rfl
 exact⟨t,z,k,num,m,rfl,hm⟩
theorem like_of(h:aT ps rs d)(e:bP d=Str.ofString "like"):∃ (t:Int) (z:Str) (k num:Int) (m:D) (s:Str) (b:Bool),d=.tup [.int t,.tup [.str z,.int k],.int num,.tup [.str (Str.ofString "like"),m,.str s,.bl b]]/\St m:=by
 obtain⟨t,z,k,num,x,ds,rfl,h1,h2,_,ha⟩:=h
 obtain rfl:x=Str.ofString "like":=e
 obtain⟨m,s,b,rfl,hm⟩:=ha.like rfl
 exact⟨t,z,k,num,m,s,b,rfl,hm⟩
end
local macro_rules | `(tactic| walk_at "ifs")=>`(tactic| simp only[yW,Bool.false_eq_true,↓reduceIte,Bool.not_true,Bool.not_false])
noncomputable def gU(rs:List (Str×List Str))(kvs:List (D×D))(d:D):Bool:=decide (eM d∈lF rs (bU d))&&(decide (oo d=.non)||match bj kvs (oo d) with
 | some e=>decide (bU e=bU d)
 | none=>false)
noncomputable def uD(rs:List (Str×List Str))(kvs:List (D×D))(d:D):List (D×D):=if gU rs kvs d=true then fh kvs (stD d) d else kvs
noncomputable def aX(rs:List (Str×List Str))(l:List D):List (D×D):=l.foldl (uD rs) []
theorem fA:aX rs (l++[d])=uD rs (aX rs l) d:=by
 unfold aX
 rw[List.foldl_append]; rfl
noncomputable def aG(rs:List (Str×List Str))(log:List D):List (D×D):=aX rs (kinds log (Str.ofString "say"))
theorem cO:kinds (log++[d]) k=kinds log k++if bP d=k then [d] else []:=by
 unfold kinds
 rw[List.filter_append]
 congr 1
 by_cases h:bP d=k
 ·rw[List.filter_cons,decide_eq_true h,if_pos rfl,if_pos h]; rfl
 ·rw[List.filter_cons,decide_eq_false h,if_neg (by decide),if_neg h]; rfl
theorem aL(h:d∈kinds log k):d∈log/\bP d=k:=⟨(List.mem_filter.mp h).1,of_decide_eq_true (List.mem_filter.mp h).2⟩
theorem bB:(kinds log k).length<=log.length:=List.length_filter_le _ _
structure TabK(l:List D)(kvs:List (D×D)):Prop where
 nd:(kvs.map (·.1)).Nodup
 en:∀ p∈kvs,p.1=stD p.2/\p.2∈l
 len:kvs.length<=l.length
theorem fR(h:p∈fh kvs k d):p=(k,d)\/p∈kvs:=by
 unfold fh at h
 split at h
 ·obtain⟨q,hq,rfl⟩:=List.mem_map.mp h
  split
  ·rename_i e; rw[e]; exact .inl rfl
  ·exact .inr hq
 ·rcases List.mem_append.mp h with h | h
  ·exact .inr h
  ·exact .inl (by simpa using h)
theorem lc:(fh kvs k d).length<=kvs.length+1:=by
 unfold fh
 split
 ·rw[List.length_map]; lia
 ·simp
theorem gL(l:List D):TabK l (aX rs l):=by
 refine cB (P:=fun l=>TabK l (aX rs l)) ⟨.nil,(fun _ z=>nomatch z),Nat.le_refl _⟩ (fun l d ih=>?_) l
 rw[fA]
 unfold uD
 have hs:∀ p∈aX rs l,p.1=stD p.2/\p.2∈l++[d]:=fun p hp=>⟨(ih.en p hp).1,List.mem_append_left _ (ih.en p hp).2⟩
 have hl:=ih.len
 split
 ·refine⟨oP ih.nd,fun p hp=>?_,?_⟩
  ·rcases fR hp with rfl | hp
   ·exact⟨rfl,by simp⟩
   ·exact hs p hp
  ·have:=lc (kvs:=aX rs l) (k:=stD d) (d:=d)
   rw[List.length_append,List.length_singleton]; lia
 ·exact⟨ih.nd,hs,by rw[List.length_append,List.length_singleton]; lia⟩
theorem bn:TabK (kinds log (Str.ofString "say")) (aG rs log):=gL _
theorem rH(t:TabK l kvs)(h:bj kvs k=some e):k=stD e/\e∈l:=t.en _ (bK h)
noncomputable def byW(kvs:List (D×D))(d:D):Bool:=match bj kvs (mR d) with
 | some e=>decide (eM d=eM e)
 | none=>false
def NmK(d:D):Prop:=∃ (a:D) (z:Str) (r1 r2:List D),d=.tup (a::.tup (.str z::r1)::r2)
section
variable{ps:List (Str×Int)}{rs:List (Str×List Str)}
theorem aT.nm(h:aT ps rs d):NmK d:=by
 obtain⟨t,z,k,num,x,ds,rfl,_⟩:=h
 exact⟨_,_,_,_,rfl⟩
theorem aT.st(h:aT ps rs d):St (stD d):=by
 obtain⟨t,z,k,num,x,ds,rfl,_⟩:=h
 exact⟨_,_,_,rfl⟩
theorem St.cm(ha:St a)(hb:St b):gu M eqN a b=true:=by
 obtain⟨t,z,k,rfl⟩:=ha
 obtain⟨t',z',k',rfl⟩:=hb
 show (if eqD M 29 (.int t) (.int t')=true then (if eqD M 29 (.tup [.str z,.int k]) (.tup [.str z',.int k'])=true then true else (if eqD M 28 (.str z) (.str z')=true then (if eqD M 28 (.int k) (.int k')=true then true else true) else true)) else true)=true
 repeat' split
 all_goals rfl
theorem kW(h:∀ x∈xs,St x)(l:xs.length < 64):SrtOk M xs:=by
 refine⟨l,fun x hx=>?_,fun x hx y hy=>(h x hx).cm (h y hy),.inr (.inr (.inr (.inl fun x hx=>?_)))⟩
 ·obtain⟨t,z,k,rfl⟩:=h x hx; rfl
 ·obtain⟨t,z,k,rfl⟩:=h x hx; exact⟨_,_,rfl⟩
end
def bG(kvs:List (D×D))(log:List D)(k:D):Prop:=∃ d∈kinds log (Str.ofString "back"),byW kvs d=true/\mR d=k
theorem xr(h:k∉kvs.map (·.1)):fh kvs k d=kvs++[(k,d)]:=by
 unfold fh
 rw[if_neg]
 intro z
 obtain⟨e,he⟩:=Option.isSome_iff_exists.mp z
 exact h (List.mem_map_of_mem (f:=(·.1)) (bK he))
theorem wA(ps:List (D×D))(h:(ps.map (·.1)).Nodup):dictOf ps=ps:=by
 revert h
 refine cB (P:=fun ps=>(ps.map (·.1)).Nodup->dictOf ps=ps) (fun _=>rfl) (fun ps p ih h=>?_) ps
 rw[List.map_append] at h
 have h':=List.nodup_append.mp h
 rw[dh,ih h'.1,xr]
 intro z
 exact h'.2.2 _ z _ (by simp) rfl
theorem pC{M:Mem}{x:Str}{l:List Str}:inD M (.str x) (l.map .str)=decide (x∈l):=by
 unfold inD
 rw[List.any_map]
 by_cases h:x∈l
 ·rw[decide_eq_true h]
  exact List.any_eq_true.mpr ⟨x,h,by show eqD M eqN (.str x) (.str x)=true; rw[bp]; exact beq_self_eq_true x⟩
 ·rw[decide_eq_false h]
  refine Bool.eq_false_iff.mpr fun z=>?_
  obtain⟨y,hy,e⟩:=List.any_eq_true.mp z
  have e':eqD M eqN (.str y) (.str x)=true:=e
  rw[bp] at e'
  exact h (eq_of_beq e' ▸ hy)
theorem oJ{M:Mem}{l:List Str}:(l.map D.str).all (okD M eqN)=true:=List.all_eq_true.mpr fun x hx=>by
 obtain⟨y,_,rfl⟩:=List.mem_map.mp hx
 exact az
noncomputable def aK(rs:List (Str×List Str))(log:List D):List (D×D):=(aG rs log).filter fun p=>@decide (¬ bG (aG rs log) log p.1) (Classical.propDecidable _)
theorem iF:p∈aK rs log↔p∈aG rs log/\¬ bG (aG rs log) log p.1:=by
 unfold aK
 rw[List.mem_filter]
 exact and_congr Iff.rfl (@decide_eq_true_iff _ (Classical.propDecidable _))
theorem xk:((aK rs log).map (·.1)).Nodup:=(List.filter_sublist.map _).nodup bn.nd
theorem Cw(h:bj (aG rs log) k=some e)(hb:¬ bG (aG rs log) log k):bj (aK rs log) k=some e:=iX (p:=(k,e)) xk (iF.mpr ⟨bK h,hb⟩)
noncomputable def bZ(kvs:List (D×D))(log:List D):List (D×D):=dictOf (((kinds log (Str.ofString "change")).filter (byW kvs)).map fun d=>(mR d,oo d))
noncomputable def AT(ch:List (D×D))(d:D):D:=.tup [stD d,.str (bU d),oo d,.str (eM d),(bj ch (stD d)).getD (sayO d),.bl (bj ch (stD d)).isSome]
noncomputable def aE(rs:List (Str×List Str))(log:List D):List D:=(aK rs log).map fun p=>AT (bZ (aK rs log) log) p.2
structure BackL(rs:List (Str×List Str))(log:List D)(ys:List D):Prop where
 st:∀ x∈ys,St x
 mem:∀ x,x∈ys↔bG (aG rs log) log x
 nd:ys.Nodup
 up:ys.Pairwise fun a b=>¬ enc eqN b < enc eqN a
def tH:D->D
 | .tup [_,_,_,a]=>a
 | _=>.non
noncomputable def ia(l:List D):List (D×D):=l.foldl (fun kvs d=>fh kvs (stD d) (tH d)) []
noncomputable def ff(log:List D):List (D×D):=ia (kinds log (Str.ofString "say"))
theorem eG:ia (l++[d])=fh (ia l) (stD d) (tH d):=by
 unfold ia
 rw[List.foldl_append]; rfl
theorem sB:ff (log++[d])=if bP d=Str.ofString "say" then fh (ff log) (stD d) (tH d) else ff log:=by
 unfold ff
 rw[cO]
 split
 ·rw[eG]
 ·rw[List.append_nil]
theorem uJ(l:List D):∀ p∈ia l,∃ d∈l,p=(stD d,tH d):=by
 refine cB (P:=fun l=>∀ p∈ia l,∃ d∈l,p=(stD d,tH d)) (fun _ z=>nomatch z) (fun l d ih p hp=>?_) l
 rw[eG] at hp
 rcases fR hp with rfl | hp
 ·exact⟨d,by simp,rfl⟩
 ·obtain⟨e,he,r⟩:=ih p hp
  exact⟨e,List.mem_append_left _ he,r⟩
theorem xp(l:List D):(ia l).length<=l.length:=by
 refine cB (P:=fun l=>(ia l).length<=l.length) (Nat.le_refl _) (fun l d ih=>?_) l
 rw[eG,List.length_append,List.length_singleton]
 have:=lc (kvs:=ia l) (k:=stD d) (d:=tH d)
 lia
def Ris(l:List D):Prop:=l.Pairwise fun a b=>enc eqN (stD a) < enc eqN (stD b)
theorem Ris.one(h:Ris l):∀ a∈l,∀ b∈l,stD a=stD b->a=b:=by
 induction l with
 | nil=>intro a ha; cases ha
 | cons x l ih =>
  obtain⟨h1,h2⟩:=List.pairwise_cons.mp h
  intro a ha b hb e
  rcases List.mem_cons.mp ha with ea | ha' <;> rcases List.mem_cons.mp hb with eb | hb'
  ·rw[ea,eb]
  ·have:=h1 b hb'; rw[← ea,e] at this; exact absurd this (List.lt_irrefl _)
  ·have:=h1 a ha'; rw[← eb,e] at this; exact absurd this (List.lt_irrefl _)
  ·exact ih h2 a ha' b hb' e
theorem qK(h:Ris l):∀ d∈l,bj (ia l) (stD d)=some (tH d):=by
 revert h
 refine cB (P:=fun l=>Ris l->∀ d∈l,bj (ia l) (stD d)=some (tH d)) (fun _ _ z=>nomatch z) (fun l x ih h d hd=>?_) l
 obtain⟨h1,_,h3⟩:=List.pairwise_append.mp h
 rw[eG]
 rcases List.mem_append.mp hd with hd | hd
 ·have:=h3 d hd x (by simp)
  rw[je (fun e=>by rw[e] at this; exact List.lt_irrefl _ this)]
  exact ih h1 d hd
 ·rw[show d=x by simpa using hd,il]
inductive Stn(rs:List (Str×List Str))(l:List D):D->Prop
 | top {d:D} (h:d∈l) (m:eM d∈lF rs (bU d)) (u:oo d=.non):Stn rs l d
 | sub {d e:D} (h:d∈l) (m:eM d∈lF rs (bU d)) (s:Stn rs l e) (u:oo d=stD e) (o:enc eqN (stD e) < enc eqN (stD d)) (r:bU e=bU d):Stn rs l d
theorem Stn.mem(h:Stn rs l d):d∈l:=by cases h <;> assumption
theorem Stn.nm(h:Stn rs l d):eM d∈lF rs (bU d):=by cases h <;> assumption
theorem Stn.more(h:Stn rs l d):Stn rs (l++l') d:=by
 induction h with
 | top h m u=>exact .top (List.mem_append_left _ h) m u
 | sub h m _ u o r ih=>exact .sub (List.mem_append_left _ h) m ih u o r
theorem Stn.less(hl:∀ y∈l,enc eqN (stD y) < enc eqN (stD x))(h:Stn rs (l++[x]) d):d∈l->Stn rs l d:=by
 induction h with
 | top h m u=>exact fun hd=>.top hd m u
 | sub h m s u o r ih =>
  intro hd
  rename_i d e
  rcases List.mem_append.mp s.mem with he | he
  ·exact .sub hd m (ih he) u o r
  ·rw[show e=x by simpa using he] at o
   exact absurd (List.lt_trans o (hl d hd)) (List.lt_irrefl _)
theorem wF(hu:∀ d∈l,oo d=.non\/St (oo d))(hS:∀ d∈l,St (stD d))(h:Ris l):∀ d∈l,bj (aX rs l) (stD d)=some d↔Stn rs l d:=by
 revert h hu hS
 refine cB (P:=fun l=>(∀ d∈l,oo d=.non\/St (oo d))->(∀ d∈l,St (stD d))->Ris l->∀ d∈l,bj (aX rs l) (stD d)=some d↔Stn rs l d) (fun _ _ _ _ z=>nomatch z) (fun l x ih hu hS h d hd=>?_) l
 obtain⟨h1,_,h3⟩:=List.pairwise_append.mp h
 have lx:∀ y∈l,enc eqN (stD y) < enc eqN (stD x):=fun y hy=>h3 y hy x (by simp)
 have ih':=ih (fun d hd=>hu d (List.mem_append_left _ hd)) (fun d hd=>hS d (List.mem_append_left _ hd)) h1
 have tb:=gL (rs:=rs) l
 have nx:bj (aX rs l) (stD x)=none:=by
  cases e:bj (aX rs l) (stD x) with
  | none=>rfl
  | some e' =>
   obtain⟨e1,e2⟩:=rH tb e
   have:=lx e' e2
   rw[← e1] at this
   exact absurd this (List.lt_irrefl _)
 rw[fA]
 unfold uD
 rcases List.mem_append.mp hd with hd | hd
 ·have ne:stD d≠stD x:=fun e=>by have:=lx d hd; rw[e] at this; exact List.lt_irrefl _ this
  have:bj (if gU rs (aX rs l) x=true then fh (aX rs l) (stD x) x else aX rs l) (stD d)=bj (aX rs l) (stD d):=by
   split
   ·exact je ne
   ·rfl
  rw[this,ih' d hd]
  exact⟨Stn.more,fun z=>z.less lx hd⟩
 ·obtain rfl:d=x:=by simpa using hd
  have sb:bj (if gU rs (aX rs l) d=true then fh (aX rs l) (stD d) d else aX rs l) (stD d)=some d↔gU rs (aX rs l) d=true:=by
   split
   ·rename_i e; rw[il]; exact⟨fun _=>e,fun _=>rfl⟩
   ·rename_i e; rw[nx]; exact⟨fun z=>(by cases z),fun z=>absurd z e⟩
  rw[sb]
  unfold gU
  rw[Bool.and_eq_true,Bool.or_eq_true,decide_eq_true_eq,decide_eq_true_eq]
  constructor
  ·rintro⟨m,u | u⟩
   ·exact .top (by simp) m u
   ·cases e:bj (aX rs l) (oo d) with
    | none=>rw[e] at u; cases u
    | some e' =>
     rw[e] at u
     obtain⟨e1,e2⟩:=rH tb e
     rw[e1] at e
     exact .sub (by simp) m ((ih' e' e2).mp e).more e1 (lx e' e2) (of_decide_eq_true u)
  ·intro s
   cases s with
   | top _ m u=>exact⟨m,.inl u⟩
   | @sub _ e _ m s u o r =>
    have he:e∈l:=by
     rcases List.mem_append.mp s.mem with he | he
     ·exact he
     ·rw[show e=d by simpa using he] at o
      exact absurd o (List.lt_irrefl _)
    refine⟨m,.inr ?_⟩
    rw[u,(ih' e he).mpr (s.less lx he)]
    exact decide_eq_true r
theorem ww{α:Type}{p q:α->Bool}{x:α}(hpq:∀ y,p y=true->q y=true)(hq:q x=true)(hp:p x=false):∀ {l:List α},x∈l->(l.filter p).length < (l.filter q).length
 | y::l,h=>by
  have mono:∀ l:List α,(l.filter p).length<=(l.filter q).length:=fun l=>by
   induction l with
   | nil=>exact Nat.le_refl _
   | cons z l ih =>
    rw[List.filter_cons,List.filter_cons]
    cases e:p z with
    | true=>rw[hpq z e,if_pos rfl,if_pos rfl,List.length_cons,List.length_cons]; lia
    | false =>
     rw[if_neg (by decide)]
     split
     ·rw[List.length_cons]; lia
     ·exact ih
  rw[List.filter_cons,List.filter_cons]
  rcases List.mem_cons.mp h with rfl | h
  ·rw[hp,hq,if_neg (by decide),if_pos rfl,List.length_cons]
   have:=mono l
   lia
  ·have ih:=ww hpq hq hp h
   cases e:p y with
   | true=>rw[hpq y e,if_pos rfl,if_pos rfl,List.length_cons,List.length_cons]; lia
   | false =>
    rw[if_neg (by decide)]
    split
    ·rw[List.length_cons]; lia
    ·exact ih
def HdP(M:Mem)(q:Nat):Prop:=∃ n:Int,M[q]?=some (.lst [.int n])
def Hl(M B:Mem)(q:Nat):Prop:=∃ (n:Int) (L:Mem),B=M.set q (.lst [.int n])++L
section
variable{M B:Mem}{q m i:Nat}{n:Int}{x:MO}
theorem xm(h:M[q]?=some x):M.set q x=M:=by
 refine List.ext_getElem? fun j=>?_
 by_cases e:q=j
 ·subst e; rw[List.getElem?_set_self (aW h),h]
 ·rw[List.getElem?_set_ne e]
theorem HdP.lt(h:HdP M q):q < M.length:=by obtain⟨n,h⟩:=h; exact aW h
theorem HdP.start(h:HdP M q):Hl M M q:=by
 obtain⟨n,h⟩:=h
 exact⟨n,[],by rw[List.append_nil,xm h]⟩
theorem Hl.len(h:Hl M B q):M.length<=B.length:=by
 obtain⟨n,L,rfl⟩:=h
 rw[List.length_append,List.length_set]; lia
theorem Hl.hd(hq:q < M.length)(h:Hl M B q):HdP B q:=by
 obtain⟨n,L,rfl⟩:=h
 exact⟨n,by rw[List.getElem?_append_left (by rw[List.length_set]; exact hq),List.getElem?_set_self hq]⟩
theorem Hl.set(hq:q < M.length)(h:Hl M B q):Hl M (B.set q (.lst [.int n])) q:=by
 obtain⟨n',L,rfl⟩:=h
 exact⟨n,L,by rw[List.set_append_left _ _ (by rw[List.length_set]; exact hq),List.set_set]⟩
theorem Hl.more(h:Hl M B q):Hl M (B++L) q:=by
 obtain⟨n',L',rfl⟩:=h
 exact⟨n',L'++L,by rw[List.append_assoc]⟩
theorem Hl.setO(h:Hl M B q)(hm:M.length<=m):Hl M (B.set m x) q:=by
 obtain⟨n',L,rfl⟩:=h
 exact⟨n',L.set (m-M.length) x,by rw[List.set_append_right _ _ (by rw[List.length_set]; exact hm),List.length_set]⟩
theorem Hl.old(h:Hl M B q)(hi:i≠q)(e:M[i]?=some x):B[i]?=some x:=by
 obtain⟨n',L,rfl⟩:=h
 rw[List.getElem?_append_left (by rw[List.length_set]; exact aW e),List.getElem?_set_ne (Ne.symm hi)]
 exact e
theorem Hl.oldL(h:Hl M B q)(hi:i≠q)(e:ao M i xs):ao B i xs:=by
 rcases e with e | e | e
 ·exact .inl (h.old hi e)
 ·exact .inr (.inl (h.old hi e))
 ·exact .inr (.inr (h.old hi e))
theorem Hl.fin(h:Hl M B q)(b:Bel M.length d)(k:∀ n:Int,R d (M.set q (.lst [.int n]))):bx M R d B:=by
 obtain⟨n',L,rfl⟩:=h
 exact bx.chg (Chg.set .refl (.cons (.int _) .nil)) (k n') b (List.prefix_append _ _)
theorem Hl.finL(h:Hl M B q)(hm:M.length<=m)(e:B[m]?=some (.lst xs))(b:Bels M.length xs)(k:∀ n:Int,R (.ref M.length) (M.set q (.lst [.int n])++[.lst xs])):bx M R (.ref m) B:=by
 obtain⟨n',L,rfl⟩:=h
 exact bx.chgL (Chg.set .refl (.cons (.int _) .nil)) (k n') hm e (List.prefix_append _ _) b
end
theorem yg(u:Option Int)(n:Nat):Builtin.Str.strSliceIndices none u 1 n=Builtin.Str.strSliceIndices (some ((0:Nat):Int)) u 1 n:=by
 unfold Builtin.Str.strSliceIndices
 simp only[show (1:Int) > 0 by decide,if_true]
 congr 1
theorem xj(x:Str)(b:Nat):(Txt.slice x none (some (b:Int))).cps.toList=x.cps.toList.take b:=by
 have e:=uG x (a:=0) (b:=b) (Nat.zero_le _)
 rw[fM] at e ⊢
 rw[yg]
 rw[e]; simp
theorem xi(x:Str)(b:Nat):(Txt.slice x none (some (b:Int))).length<=b:=by
 rw[jb,xj,List.length_take]; lia
theorem xg{M:Mem}{l:List Str}(h:l.length < 64):SrtOk M (l.map .str) :=
 ⟨by rw[List.length_map]; exact h,fun x hx=>by obtain⟨y,_,rfl⟩:=List.mem_map.mp hx; rfl,fun x hx y hy=>by
  obtain⟨a,_,rfl⟩:=List.mem_map.mp hx
  obtain⟨b,_,rfl⟩:=List.mem_map.mp hy
  rfl,.inl fun x hx=>by obtain⟨y,_,rfl⟩:=List.mem_map.mp hx; exact⟨y,rfl⟩⟩
theorem mN{ys:List D}{xs:List Str}(h:ys.Perm (xs.map .str)):∃ zs:List Str,ys=zs.map .str/\zs.Perm xs:=xz D.str unS (fun _=>rfl) h
def cc:DSp:=fun ds M R=>∃ (ps:List (Str×Int)) (rs:List (Str×List Str)) (r:Str),ds=[aF ps rs,.str r]/\r∈rs.map (·.1)/\R (.tup ((lF rs r).map .str)) M
theorem jD:dB cc dO:=by rintro ds M R ⟨ps,rs,r,rfl,_⟩; rfl
theorem mT:lF (p::rs) r=if p.1=r then p.2 else lF rs r:=by
 unfold lF
 rw[List.find?_cons]
 by_cases h:p.1=r
 ·rw[decide_eq_true h,if_pos h]; rfl
 ·rw[decide_eq_false h,if_neg h]
def ju:DTS:=rP
def gR:DTS:=aB (nR (cJ (dOp qIx (ac 0) (dC (.int 1)))) (nN 2 (bT (au 2) (bT (au 3) nO))) (dIf (aA (dOp qEq (ac 2) (ac 1))) (bC (ac 3)) bg)) (ju)
theorem kN:WpT cc 4 gR:=by
 rintro ds M R ⟨ps,rs,r,rfl,hr,h⟩
 simp only[gR,aF]
 walk_at "dl"
 intro _
 refine iq (fun ys S M'=>∃ qs a b,ys=qs.map jw/\M'=M/\S=[some (aF ps rs),some (.str r),a,b]/\lF rs r=lF qs r/\r∈qs.map (·.1)) ?_ ?_ _ _ _ ⟨rs,_,_,rfl,rfl,rfl,rfl,hr⟩
 ·rintro S M' ⟨qs,a,b,hq,rfl,rfl,e,hm⟩
  have:qs=[]:=by cases qs <;> simp_all
  subst this
  cases hm
 ·rintro x xs S M' ⟨qs,a,b,hq,rfl,rfl,e,hm⟩ L hL
  cases qs with
  | nil=>cases hq
  | cons p qs =>
   rw[List.map_cons] at hq
   injection hq with h1 h2
   subst h1
   refine⟨trivial,?_⟩
   unfold jw
   walk_at "dl"
   refine⟨trivial,⟨az,az⟩,?_⟩
   rw[bp]
   rw[mT] at e
   by_cases hq:p.1=r
   ·rw[beq_iff_eq.mpr hq]
    rw[if_pos hq] at e
    refine bQ (bx.now ?_)
    rw[← e]; exact h
   ·rw[beq_eq_false_iff_ne.mpr hq]
    rw[if_neg hq] at e
    rw[List.map_cons,List.mem_cons] at hm
    exact bH (Fgt.now (hL _ _ ⟨qs,_,_,h2,rfl,rfl,e,hm.resolve_left (Ne.symm hq)⟩))
theorem lC(T:Tops P w K mg base):Cal P w K mg base 1 "members_of" dO cc :=
 Cal.byD (N:=["house","room","told","members"]) T.b T.f_members_of (by walk_at "sc") jD (by walk_at "dv") kN
def cy:DSp:=fun ds M R=>∃ (a b:D) (r:List D),ds=[.tup (a::b::r)]/\R (.tup [a,b]) M
theorem nh:dB cy gF:=by rintro ds M R ⟨a,b,r,rfl,_⟩; rfl
def jS:DTS:=bC (eY (ab (dOp qIx (ac 0) (dC (.int 0))) (ab (dOp qIx (ac 0) (dC (.int 1))) ah)))
theorem oz:WpT cy 1 jS:=by
 rintro ds M R ⟨a,b,r,rfl,h⟩
 simp only[jS]
 walk_at "dl"
 exact⟨ap (by lia),bx.now h⟩
theorem iS(T:Tops P w K mg base):Cal P w K mg base 1 "stamp_of" gF cy :=
 Cal.byD (N:=["deed"]) T.b T.f_stamp_of (by walk_at "sc") nh (by walk_at "dv") oz
def bh:DSp:=fun ds M R=>∃ (t x:D) (r1 r2:List D),ds=[.tup (t::.tup (x::r1)::r2)]/\R x M
theorem lI:dB bh fi:=by rintro ds M R ⟨t,x,r1,r2,rfl,_⟩; rfl
def ix:DTS:=bC (dOp qIx (dOp qIx (ac 0) (dC (.int 1))) (dC (.int 0)))
theorem me:WpT bh 1 ix:=by
 rintro ds M R ⟨t,x,r1,r2,rfl,h⟩
 simp only[ix]
 walk_at "dl"
 exact bx.now h
theorem dP(T:Tops P w K mg base):Cal P w K mg base 1 "person_of" fi bh :=
 Cal.byD (N:=["deed"]) T.b T.f_person_of (by walk_at "sc") lI (by walk_at "dv") me
def be:DSp:=fun ds M R=>∃ (ps:List (Str×Int)) (rs:List (Str×List Str)) (log:List D) (k:Str),ds=[.tup log,.str k]/\(∀ d∈log,aT ps rs d)/\log.length<=1000/\R (.ref M.length) (M++[.lst (kinds log k)])
theorem gH:dB be cu:=by rintro ds M R ⟨ps,rs,log,k,rfl,_⟩; rfl
def dF:DTS:=bC (dLC 1 [1] (cJ (ac 0)) (au 0) (aA (dOp qEq (dOp qIx (dOp qIx (ac 0) (dC (.int 3))) (dC (.int 0))) (ac 1))) (ac 0))
theorem hZ:WpT be 2 dF:=by
 rintro ds M R ⟨ps,rs,log,k,rfl,hd,hl,h⟩
 simp only[dF]
 walk_at "dl"
 intro _
 refine bv (fun d=>decide (bP d=k)) id (fun S=>∃ a,S=[a,some (.str k)]) trivial _ _ _ ?_ ⟨_,rfl⟩ (by rw[List.length_nil]; exact ap (by lia)) (by rw[List.nil_append,List.map_id]; exact .inl h)
 rintro d hm S ⟨a,rfl⟩
 obtain⟨t,z,k',num,x,ds,rfl,_⟩:=hd d hm
 refine⟨[some (.tup [.int t,.tup [.str z,.int k'],.int num,.tup (.str x::ds)]),some (.str k)],⟨_,rfl⟩,fun Y Z hYZ=>?_⟩
 walk_at "dl"
 have e3:atI [D.int t,.tup [.str z,.int k'],.int num,.tup (.str x::ds)] 3=some (.tup (.str x::ds)):=ay (j:=3) rfl
 rw[e3]
 dsimp only
 rw[at0]
 refine⟨⟨az,az⟩,?_⟩
 rw[bp]
 have e1:bP (.tup [.int t,.tup [.str z,.int k'],.int num,.tup (.str x::ds)])=x:=rfl
 rw[e1] at hYZ
 by_cases e:x=k
 ·rw[beq_iff_eq.mpr e]
  rw[decide_eq_true e] at hYZ
  exact bQ hYZ
 ·rw[beq_eq_false_iff_ne.mpr e]
  rw[decide_eq_false e] at hYZ
  exact bH hYZ
theorem dw(T:Tops P w K mg base):Cal P w K mg base 1 "deeds_of_kind" cu be :=
 Cal.byD (N:=["log","kind"]) T.b T.f_deeds_of_kind (by walk_at "sc") gH (by walk_at "dv") hZ
def bM:DSp:=fun ds M R=>∃ (a b c x r:D) (l:List D),ds=[.tup [a,b,c,.tup (x::r::l)]]/\R r M
theorem pe:dB bM iN:=by rintro ds M R ⟨a,b,c,x,r,l,rfl,_⟩; rfl
def mn:DTS:=bC (dOp qIx (dOp qIx (ac 0) (dC (.int 3))) (dC (.int 1)))
theorem rY:WpT bM 1 mn:=by
 rintro ds M R ⟨a,b,c,x,r,l,rfl,h⟩
 simp only[mn]
 walk_at "dl"
 have e3:atI [a,b,c,.tup (x::r::l)] 3=some (.tup (x::r::l)):=ay (j:=3) rfl
 rw[e3]
 dsimp only
 rw[at1]
 exact bx.now h
theorem kz(T:Tops P w K mg base):Cal P w K mg base 1 "room_of" iN bM :=
 Cal.byD (N:=["say"]) T.b T.f_room_of (by walk_at "sc") pe (by walk_at "dv") rY
def cx:DSp:=fun ds M R=>∃ (a b c x r u:D) (l:List D),ds=[.tup [a,b,c,.tup (x::r::u::l)]]/\R u M
theorem ng:dB cx gD:=by rintro ds M R ⟨a,b,c,x,r,u,l,rfl,_⟩; rfl
def jM:DTS:=bC (dOp qIx (dOp qIx (ac 0) (dC (.int 3))) (dC (.int 2)))
theorem ou:WpT cx 1 jM:=by
 rintro ds M R ⟨a,b,c,x,r,u,l,rfl,h⟩
 simp only[jM]
 walk_at "dl"
 have e3:atI [a,b,c,.tup (x::r::u::l)] 3=some (.tup (x::r::u::l)):=ay (j:=3) rfl
 have e2:atI (x::r::u::l) 2=some u:=ay (j:=2) rfl
 rw[e3]
 dsimp only
 rw[e2]
 exact bx.now h
theorem iR(T:Tops P w K mg base):Cal P w K mg base 1 "under_of" gD cx :=
 Cal.byD (N:=["say"]) T.b T.f_under_of (by walk_at "sc") ng (by walk_at "dv") ou
def cD:DSp:=fun ds M R=>∃ (ps:List (Str×Int)) (rs:List (Str×List Str)) (d:D) (q:Nat) (kvs:List (D×D)),ds=[aF ps rs,d,.ref q]/\aT ps rs d/\bP d=Str.ofString "say"/\M[q]?=some (.dkt kvs)/\(∀ p∈kvs,aT ps rs p.2/\bP p.2=Str.ofString "say")/\R (.bl (gU rs kvs d)) M
theorem lJ:dB cD fj:=by rintro ds M R ⟨ps,rs,d,q,kvs,rfl,_⟩; rfl
def fJ:DTS:=bC (dOrV (dOp qIs (ac 3) (dC .non)) (tD (dOp Ai (ac 3) (ac 2)) (dOp qEq (dCB bM (ab (lT (ac 2) (ac 3)) ah)) (dCB bM (ab (ac 1) ah)))))
def fK:DTS:=aB (aZ (dCB cx (ab (ac 1) ah)) 3) (fJ)
def iC:DTS:=aB (dIf (aA (dOp iI (dCB bh (ab (ac 1) ah)) (dCB cc (ab (ac 0) (ab (dCB bM (ab (ac 1) ah)) ah))))) (bC (dC (.bl false))) bg) (fK)
theorem mf:WpT cD 4 iC:=by
 rintro ds M R ⟨ps,rs,d,q,kvs,rfl,hd,hk,hq,hv,h⟩
 obtain⟨t,z,k,num,r,u,s,rfl,_,_,hr,hu⟩:=eV hd hk
 simp only[iC]
 walk_at "dl"
 refine⟨_,_,_,_,rfl,_,_,_,_,_,_,rfl,ps,rs,r,rfl,hr,⟨az,oJ⟩,?_⟩
 rw[pC]
 have e0:gU rs kvs (.tup [.int t,.tup [.str z,.int k],.int num,.tup [.str (Str.ofString "say"),.str r,u,.str s]])=(decide (z∈lF rs r)&&(decide (u=.non)||match bj kvs u with
  | some e=>decide (bU e=r)
  | none=>false)):=rfl
 rw[e0] at h
 by_cases hm:z∈lF rs r
 ·rw[decide_eq_true hm] at h ⊢
  refine bH ?_
  simp only[fK,fJ]
  walk_at "dl"
  refine⟨_,_,_,_,_,u,_,rfl,?_⟩
  rcases hu with rfl | hu
  ·walk_at "dl"
   refine bx.now ?_
   simpa using h
  ·obtain⟨t',z',k',rfl⟩:=hu
   rw[decide_eq_false (by intro e; cases e)] at h
   walk_at "dl"
   refine⟨kvs,hq,rfl,?_⟩
   cases hg:bj kvs (.tup [.int t',.tup [.str z',.int k']]) with
   | none =>
    rw[hg] at h
    exact bH (bx.now h)
   | some e =>
    rw[hg] at h
    obtain⟨he,hke⟩:=hv _ (bK hg)
    obtain⟨t2,z2,k2,n2,r2,u2,s2,e2,_⟩:=eV he hke
    dsimp only at e2
    subst e2
    refine bQ ⟨kvs,_,hq,rfl,hg,_,_,_,_,_,_,rfl,_,_,_,_,_,_,rfl,⟨az,az⟩,?_⟩
    rw[bp]
    refine bx.now ?_
    have e5:(r2==r)=decide (r2=r):=by
     by_cases e:r2=r
     ·rw[decide_eq_true e]; exact beq_iff_eq.mpr e
     ·rw[decide_eq_false e]; exact beq_eq_false_iff_ne.mpr e
    rw[e5]
    exact h
 ·rw[decide_eq_false hm] at h ⊢
  exact bQ (bx.now h)
theorem mP(T:Tops P w K mg base):Cal P w K mg base 2 "can_stand" fj cD :=
 Cal.byD (N:=["house","say","elders","under"]) T.b T.f_can_stand (by walk_at "sc") lJ (by have:=lC T; have:=dP T; have:=kz T; have:=iR T; walk_at "dv") mf
def aR:DSp:=fun ds M R=>∃ (ps:List (Str×Int)) (rs:List (Str×List Str)) (log:List D),ds=[aF ps rs,.tup log]/\(∀ d∈log,aT ps rs d)/\log.length<=1000/\∀ n B,M <+: B->B[n]?=some (.dkt (aG rs log))->R (.ref n) B
theorem fq:dB aR bJ:=by rintro ds M R ⟨ps,rs,log,rfl,_⟩; rfl
theorem ii(hd:∀ d∈log,aT ps rs d)(hl:∀ d∈l,d∈kinds log (Str.ofString "say"))(t:TabK l kvs):∀ p∈kvs,aT ps rs p.2/\bP p.2=Str.ofString "say":=fun p hp=>by
 obtain⟨h1,h2⟩:=aL (hl _ (t.en p hp).2)
 exact⟨hd _ h1,h2⟩
def ck:DTS:=bC (ac 2)
def cq:DTS:=aB (nR (cJ (dCB be (ab (ac 1) (ab (dC (.str "say")) ah)))) (au 3) (dIf (aA (dCB cD (ab (ac 0) (ab (ac 3) (ab (ac 2) ah))))) (pI (ac 2) (dCB cy (ab (ac 3) ah)) (ac 3)) bg)) (ck)
def cL:DTS:=aB (aZ (pJ) 2) (cq)
theorem fF:WpT aR 4 cL:=by
 rintro ds M R ⟨ps,rs,log,rfl,hd,hl,h⟩
 simp only[cL,cq]
 walk_at "dl"
 refine⟨ps,rs,log,_,rfl,hd,hl,?_⟩
 have kl:=bB (log:=log) (k:=Str.ofString "say")
 have km:∀ d∈kinds log (Str.ofString "say"),aT ps rs d/\bP d=Str.ofString "say":=fun d q=>⟨hd d (aL q).1,(aL q).2⟩
 have hk:aX rs (kinds log (Str.ofString "say"))=aG rs log:=rfl
 generalize hK:kinds log (Str.ofString "say")=K at kl km hk
 refine⟨K,aC,fun _=>?_⟩
 refine bD (fun i S M'=>∃ a,M'=M++[.dkt (aX rs (K.take i)),.lst K]/\S=[some (aF ps rs),some (.tup log),some (.ref M.length),a]) ?_ ?_ ⟨_,by simp[aX],rfl⟩
 ·rintro S M' ⟨a,rfl,rfl⟩
  rw[List.take_length,hk]
  refine⟨.inl ?_,?_⟩
  ·have:(M++[MO.dkt []]).length=M.length+1:=by simp
   rw[this]; exact rG
  ·simp only[ck]
   walk_at "dl"
   exact .inl (h _ _ (List.prefix_append _ _) gJ)
 ·rintro i y S M' hy ⟨a,rfl,rfl⟩ G hG
  have hm:=List.mem_of_getElem? hy
  have et:K.take (i+1)=K.take i++[y]:=by rw[List.take_add_one,hy]; rfl
  rw[et,fA] at hG
  have tb:=gL (rs:=rs) (K.take i)
  have hv:=ii hd (fun d q=>hK ▸ List.mem_of_mem_take q) tb
  have tl:=tb.len
  rw[List.length_take] at tl
  generalize aX rs (K.take i)=kvs at hG hv tl
  obtain⟨dy,ky⟩:=km y hm
  refine⟨.inl ?_,?_⟩
  ·have:(M++[MO.dkt []]).length=M.length+1:=by simp
   rw[this]; exact rG
  walk_at "dl"
  refine⟨ps,rs,y,_,kvs,rfl,dy,ky,gJ,hv,?_⟩
  unfold uD at hG
  cases hs:gU rs kvs y with
  | true =>
   rw[hs,if_pos rfl] at hG
   refine bQ ?_
   obtain⟨t,z,k,num,x,ds,rfl,_⟩:=dy
   refine⟨_,_,_,rfl,kvs,gJ,rfl,aO (by lia),?_⟩
   rw[iG]
   exact Fgt.now (hG _ _ ⟨_,rfl,rfl⟩)
  | false =>
   rw[hs,if_neg (by decide)] at hG
   exact bH (Fgt.now (hG _ _ ⟨_,rfl,rfl⟩))
theorem cC(T:Tops P w K mg base):Cal P w K mg base 3 "says_that_count" bJ aR :=
 Cal.byD (N:=["house","log","says","deed"]) T.b T.f_says_that_count (by walk_at "sc") fq (by have:=iS T; have:=dw T; have:=mP T; walk_at "dv") fF
def bF:DSp:=fun ds M R=>∃ (t:Int) (z:Str) (k num:Int) (x m:D) (l:List D) (q:Nat) (kvs:List (D×D)),ds=[.tup [.int t,.tup [.str z,.int k],.int num,.tup (x::m::l)],.ref q]/\St m/\M[q]?=some (.dkt kvs)/\(∀ p∈kvs,NmK p.2)/\R (.bl (byW kvs (.tup [.int t,.tup [.str z,.int k],.int num,.tup (x::m::l)]))) M
theorem ic:dB bF cH:=by rintro ds M R ⟨t,z,k,num,x,m,l,q,kvs,rfl,_⟩; rfl
def dq:DTS:=bC (tD (dOp Ai (ac 2) (ac 1)) (dOp qEq (dCB bh (ab (ac 0) ah)) (dCB bh (ab (lT (ac 1) (ac 2)) ah))))
def eU:DTS:=aB (aZ (dOp qIx (dOp qIx (ac 0) (dC (.int 3))) (dC (.int 1))) 2) (dq)
theorem iw:WpT bF 3 eU:=by
 rintro ds M R ⟨t,z,k,num,x,m,l,q,kvs,rfl,hm,hq,hv,h⟩
 simp only[eU,dq]
 obtain⟨t',z',k',rfl⟩:=hm
 walk_at "dl"
 have e3:atI [D.int t,.tup [.str z,.int k],.int num,.tup (x::.tup [.int t',.tup [.str z',.int k']]::l)] 3=some (.tup (x::.tup [.int t',.tup [.str z',.int k']]::l)):=ay (j:=3) rfl
 rw[e3]
 dsimp only
 rw[at1]
 refine⟨kvs,hq,rfl,?_⟩
 have e0:byW kvs (.tup [.int t,.tup [.str z,.int k],.int num,.tup (x::.tup [.int t',.tup [.str z',.int k']]::l)])=match bj kvs (.tup [.int t',.tup [.str z',.int k']]) with
  | some e=>decide (z=eM e)
  | none=>false:=rfl
 rw[e0] at h
 cases hg:bj kvs (.tup [.int t',.tup [.str z',.int k']]) with
 | none =>
  rw[hg] at h
  exact bH (bx.now h)
 | some e =>
  rw[hg] at h
  obtain⟨a,y,r1,r2,rfl⟩:=hv _ (bK hg)
  refine bQ ⟨_,_,_,_,rfl,kvs,_,hq,rfl,hg,_,_,_,_,rfl,⟨az,az⟩,?_⟩
  rw[bp]
  refine bx.now ?_
  have e5:(z==y)=decide (z=y):=by
   by_cases e:z=y
   ·rw[decide_eq_true e]; exact beq_iff_eq.mpr e
   ·rw[decide_eq_false e]; exact beq_eq_false_iff_ne.mpr e
  rw[e5]
  exact h
theorem iU(T:Tops P w K mg base):Cal P w K mg base 2 "is_by_writer" cH bF :=
 Cal.byD (N:=["deed","says","message"]) T.b T.f_is_by_writer (by walk_at "sc") ic (by have:=dP T; walk_at "dv") iw
def bq:DSp:=fun ds M R=>∃ (ps:List (Str×Int)) (rs:List (Str×List Str)) (log:List D) (k:Str) (q:Nat) (kvs:List (D×D)),ds=[.tup log,.str k,.ref q]/\(∀ d∈log,aT ps rs d)/\log.length<=1000/\(k=Str.ofString "change"\/k=Str.ofString "back")/\M[q]?=some (.dkt kvs)/\(∀ p∈kvs,NmK p.2)/\R (.ref M.length) (M++[.lst ((kinds log k).filter (byW kvs))])
theorem iZ:dB bq cW:=by rintro ds M R ⟨ps,rs,log,k,q,kvs,rfl,_⟩; rfl
theorem Dx(h:aT ps rs d)(e:bP d=k)(hk:k=Str.ofString "change"\/k=Str.ofString "back"):∃ (t:Int) (z:Str) (k num:Int) (x m:D) (l:List D),d=.tup [.int t,.tup [.str z,.int k],.int num,.tup (x::m::l)]/\St m:=by
 rcases hk with rfl | rfl
 ·obtain⟨t,z,k,num,m,s,rfl,hm⟩:=jo h e
  exact⟨t,z,k,num,_,m,_,rfl,hm⟩
 ·obtain⟨t,z,k,num,m,rfl,hm⟩:=pN h e
  exact⟨t,z,k,num,_,m,_,rfl,hm⟩
def fH:DTS:=bC (dLC 1 [2] (cJ (dCB be (ab (ac 0) (ab (ac 1) ah)))) (au 0) (aA (dCB bF (ab (ac 0) (ab (ac 1) ah)))) (ac 0))
theorem jr:WpT bq 3 fH:=by
 rintro ds M R ⟨ps,rs,log,k,q,kvs,rfl,hd,hl,hk,hq,hv,h⟩
 simp only[fH]
 walk_at "dl"
 refine⟨ps,rs,log,k,rfl,hd,hl,_,aC,fun _=>?_⟩
 have kl:=bB (log:=log) (k:=k)
 refine bv (byW kvs) id (fun S=>∃ a,S=[a,some (.ref q)]) aC _ _ _ ?_ ⟨_,rfl⟩ (by rw[List.length_nil]; exact ap (by lia)) ?_
 ·rintro d hm S ⟨a,rfl⟩
  obtain⟨h1,h2⟩:=aL hm
  obtain⟨t,z,k',num,x,m,l,rfl,hs⟩:=Dx (hd d h1) h2 hk
  refine⟨[some (.tup [.int t,.tup [.str z,.int k'],.int num,.tup (x::m::l)]),some (.ref q)],⟨_,rfl⟩,fun Y Z hYZ=>?_⟩
  walk_at "dl"
  refine⟨t,z,k',num,x,m,l,q,kvs,rfl,hs,ae hq,hv,?_⟩
  cases hb:byW kvs (.tup [.int t,.tup [.str z,.int k'],.int num,.tup (x::m::l)]) with
  | true=>rw[hb] at hYZ; exact bQ hYZ
  | false=>rw[hb] at hYZ; exact bH hYZ
 ·rw[List.nil_append,List.map_id,List.append_assoc]
  exact bx.lst h (by simp) (by simp) (aT.bels (ps:=ps) (rs:=rs) fun d m=>hd d (aL (List.mem_filter.mp m).1).1)
theorem eW(T:Tops P w K mg base):Cal P w K mg base 3 "writers_own" cW bq :=
 Cal.byD (N:=["log","kind","says"]) T.b T.f_writers_own (by walk_at "sc") iZ (by have:=dw T; have:=iU T; walk_at "dv") jr
def bE:DSp:=fun ds M R=>∃ (ps:List (Str×Int)) (rs:List (Str×List Str)) (log:List D) (q:Nat) (kvs:List (D×D)),ds=[.tup log,.ref q]/\(∀ d∈log,aT ps rs d)/\log.length<=1000/\M[q]?=some (.dkt kvs)/\(∀ p∈kvs,NmK p.2)/\∀ n B,M <+: B->B[n]?=some (.dkt (bZ kvs log))->R (.ref n) B
theorem ib:dB bE cG:=by rintro ds M R ⟨ps,rs,log,q,kvs,rfl,_⟩; rfl
theorem tj(ps:List (D×D))(h:p∈dictOf ps):p∈ps:=by
 revert h
 refine cB (P:=fun ps=>p∈dictOf ps->p∈ps) (fun h=>h) (fun ps q ih h=>?_) ps
 rw[dh] at h
 rcases fR h with rfl | h
 ·simp
 ·exact List.mem_append_left _ (ih h)
theorem jn(hd:∀ d∈log,aT ps rs d):∀ p∈bZ kvs log,∃ s,p.2=.str s:=fun p hp=>by
 obtain⟨d,hm,rfl⟩:=List.mem_map.mp (tj _ hp)
 obtain⟨h1,h2⟩:=aL (List.mem_filter.mp hm).1
 obtain⟨t,z,k,num,m,s,rfl,hs⟩:=jo (hd d h1) h2
 exact⟨s,rfl⟩
def eS:DTS:=bC (dCB gB (ab (dLC 1 [] (cJ (dCB bq (ab (ac 0) (ab (dC (.str "change")) (ab (ac 1) ah))))) (au 0) tw (eY (ab (dOp qIx (dOp qIx (ac 0) (dC (.int 3))) (dC (.int 1))) (ab (dOp qIx (dOp qIx (ac 0) (dC (.int 3))) (dC (.int 2))) ah)))) ah))
theorem iu:WpT bE 2 eS:=by
 rintro ds M R ⟨ps,rs,log,q,kvs,rfl,hd,hl,hq,hv,h⟩
 simp only[eS]
 walk_at "dl"
 refine⟨ps,rs,log,_,q,kvs,rfl,hd,hl,.inl rfl,hq,hv,_,aC,fun _=>?_⟩
 have kl:=bB (log:=log) (k:=Str.ofString "change")
 have fl:=List.length_filter_le (byW kvs) (kinds log (Str.ofString "change"))
 have km:∀ d∈(kinds log (Str.ofString "change")).filter (byW kvs),∃ (t:Int) (z:Str) (k num:Int) (m:D) (s:Str),d=.tup [.int t,.tup [.str z,.int k],.int num,.tup [.str (Str.ofString "change"),m,.str s]]/\St m:=fun d m=>by
  obtain⟨h1,h2⟩:=aL (List.mem_filter.mp m).1
  exact jo (hd d h1) h2
 have hc:dictOf (((kinds log (Str.ofString "change")).filter (byW kvs)).map fun d=>(mR d,oo d))=bZ kvs log:=rfl
 generalize (kinds log (Str.ofString "change")).filter (byW kvs)=F at fl km hc
 refine cw (fun d=>.tup [mR d,oo d]) (fun S=>∃ a,S=[a]) aC _ _ _ (fun d hm S hS=>?_) ⟨_,rfl⟩ (by rw[List.length_nil]; exact ap (by lia)) ?_
 ·obtain⟨a,rfl⟩:=hS
  obtain⟨t,z,k,num,m,s,rfl,_⟩:=km d hm
  refine⟨[some (.tup [.int t,.tup [.str z,.int k],.int num,.tup [.str (Str.ofString "change"),m,.str s]])],⟨_,rfl⟩,fun Y hY=>?_⟩
  walk_at "dl"
  have e3:atI [D.int t,.tup [.str z,.int k],.int num,.tup [.str (Str.ofString "change"),m,.str s]] 3=some (.tup [.str (Str.ofString "change"),m,.str s]):=ay (j:=3) rfl
  rw[e3]
  dsimp only
  rw[at1]
  dsimp only
  rw[at2]
  exact⟨ap (by lia),hY⟩
 ·rw[List.nil_append]
  have el:F.map (fun d=>D.tup [mR d,oo d])=(F.map fun d=>(mR d,oo d)).map fun p=>.tup [p.1,p.2]:=by
   rw[List.map_map]; rfl
  rw[el]
  refine⟨F.map fun d=>(mR d,oo d),aC,fun p hm=>?_,by rw[List.length_map]; lia,?_⟩
  ·obtain⟨d,hx,rfl⟩:=List.mem_map.mp hm
   obtain⟨t,z,k,num,m,s,rfl,hs⟩:=km d hx
   obtain⟨ks,e⟩:=hs.tup
   exact⟨hs.key,by show eX m=true; rw[e]; rfl⟩
  ·rw[hc]
   exact .inl (h _ _ ((fS.trans fS).trans fS) af)
theorem iT(T:Tops P w K mg base):Cal P w K mg base 4 "last_changes" cG bE :=
 Cal.byD (N:=["log","says"]) T.b T.f_last_changes (by walk_at "sc") ib (by have:=eW T; walk_at "dv") iu
def aH:DSp:=fun ds M R=>∃ (ps:List (Str×Int)) (rs:List (Str×List Str)) (log:List D) (q:Nat) (kvs:List (D×D)),ds=[.tup log,.ref q]/\(∀ d∈log,aT ps rs d)/\log.length < 64/\M[q]?=some (.dkt kvs)/\(∀ p∈kvs,NmK p.2)/\∀ ys,(∀ x∈ys,St x)->(∀ x,x∈ys↔bG kvs log x)->ys.Nodup->(ys.Pairwise fun a b=>¬ enc eqN b < enc eqN a)->R (.ref M.length) (M++[.lst ys])
theorem dS:dB aH br:=by rintro ds M R ⟨ps,rs,log,q,kvs,rfl,_⟩; rfl
def cj:DTS:=bC (gh (dLC 1 [] (cJ (dCB bq (ab (ac 0) (ab (dC (.str "back")) (ab (ac 1) ah))))) (au 0) tw (dOp qIx (dOp qIx (ac 0) (dC (.int 3))) (dC (.int 1)))))
theorem eL:WpT aH 2 cj:=by
 rintro ds M R ⟨ps,rs,log,q,kvs,rfl,hd,hl,hq,hv,h⟩
 simp only[cj]
 walk_at "dl"
 refine⟨ps,rs,log,_,q,kvs,rfl,hd,by lia,.inr rfl,hq,hv,_,aC,fun _=>?_⟩
 have kl:=bB (log:=log) (k:=Str.ofString "back")
 have fl:=List.length_filter_le (byW kvs) (kinds log (Str.ofString "back"))
 have km:∀ d∈(kinds log (Str.ofString "back")).filter (byW kvs),∃ (t:Int) (z:Str) (k num:Int) (m:D),d=.tup [.int t,.tup [.str z,.int k],.int num,.tup [.str (Str.ofString "back"),m]]/\St m:=fun d m=>by
  obtain⟨h1,h2⟩:=aL (List.mem_filter.mp m).1
  exact pN (hd d h1) h2
 have hb:∀ x,x∈((kinds log (Str.ofString "back")).filter (byW kvs)).map mR↔bG kvs log x:=fun x=>by
  constructor
  ·intro hx
   obtain⟨d,m,rfl⟩:=List.mem_map.mp hx
   exact⟨d,(List.mem_filter.mp m).1,(List.mem_filter.mp m).2,rfl⟩
  ·rintro⟨d,h1,h2,rfl⟩
   exact List.mem_map_of_mem (List.mem_filter.mpr ⟨h1,h2⟩)
 generalize (kinds log (Str.ofString "back")).filter (byW kvs)=F at fl km hb
 refine cw mR (fun S=>∃ a,S=[a]) aC _ _ _ (fun d hm S hS=>?_) ⟨_,rfl⟩ (by rw[List.length_nil]; exact ap (by lia)) ?_
 ·obtain⟨a,rfl⟩:=hS
  obtain⟨t,z,k,num,m,rfl,_⟩:=km d hm
  refine⟨[some (.tup [.int t,.tup [.str z,.int k],.int num,.tup [.str (Str.ofString "back"),m]])],⟨_,rfl⟩,fun Y hY=>?_⟩
  walk_at "dl"
  have e3:atI [D.int t,.tup [.str z,.int k],.int num,.tup [.str (Str.ofString "back"),m]] 3=some (.tup [.str (Str.ofString "back"),m]):=ay (j:=3) rfl
  rw[e3]
  dsimp only
  rw[at1]
  exact hY
 ·rw[List.nil_append]
  have hs:∀ x∈F.map mR,St x:=fun x hx=>by
   obtain⟨d,hm,rfl⟩:=List.mem_map.mp hx
   obtain⟨t,z,k,num,m,rfl,hs⟩:=km d hm
   exact hs
  refine⟨8,_,Nat.le_refl _,.inl ⟨_,rfl,aC⟩,by rw[List.length_map]; lia,fun x hx=>?_,kW hs (by rw[List.length_map]; lia),fun ys nd hy hr=>?_⟩
  ·obtain⟨ks,e⟩:=(hs x hx).tup
   exact⟨(hs x hx).key,by rw[e]; rfl⟩
  ·have hys:∀ x∈ys,St x:=fun x hx=>hs x ((hy x).mp hx)
   rw[List.append_assoc,List.append_assoc]
   have up:ys.Pairwise fun a b=>¬ enc eqN b < enc eqN a:=(List.Pairwise.and_mem.mp hr).imp fun {a b} ⟨ha,hb,q⟩=>by
    have sa:=hys a ha
    have sb:=hys b hb
    have oa:okP eqN a=true:=by obtain⟨t,z,k,e⟩:=sa; rw[e]; rfl
    have ob:okP eqN b=true:=by obtain⟨t,z,k,e⟩:=sb; rw[e]; rfl
    rw[lG ob oa (sb.cm sa)] at q
    exact of_decide_eq_false q
   exact bx.lst (h ys hys (fun x=>(hy x).trans (hb x)) nd up) (by simp) (by simp) (Bels.of fun d m=>bI 2 d (hys d m).pl)
theorem bX(T:Tops P w K mg base):Cal P w K mg base 4 "stamps_taken_back" br aH :=
 Cal.byD (N:=["log","says"]) T.b T.f_stamps_taken_back (by walk_at "sc") dS (by have:=eW T; walk_at "dv") eL
def cb:DSp:=fun ds M R=>∃ (ps:List (Str×Int)) (rs:List (Str×List Str)) (d:D) (q:Nat) (tab:List (D×D)),ds=[d,.ref q]/\aT ps rs d/\bP d=Str.ofString "say"/\M[q]?=some (.dkt tab)/\R (AT tab d) M
theorem jC:dB cb dN:=by rintro ds M R ⟨ps,rs,d,q,tab,rfl,_⟩; rfl
def eP:DTS:=bC (eY (ab (ac 2) (ab (dCB bM (ab (ac 0) ah)) (ab (dCB cx (ab (ac 0) ah)) (ab (dCB bh (ab (ac 0) ah)) (ab (ac 3) (ab (dOp Ai (ac 2) (ac 1)) ah)))))))
def eQ:DTS:=aB (aZ (dMt fQ (ac 1) (ab (ac 2) (ab (dOp qIx (dOp qIx (ac 0) (dC (.int 3))) (dC (.int 3))) ah))) 3) (eP)
def gQ:DTS:=aB (aZ (dCB cy (ab (ac 0) ah)) 2) (eQ)
theorem kM:WpT cb 4 gQ:=by
 rintro ds M R ⟨ps,rs,d,q,tab,rfl,hd,hk,hq,h⟩
 obtain⟨t,z,k,num,r,u,s,rfl,_⟩:=eV hd hk
 simp only[gQ,eQ]
 walk_at "dl"
 refine⟨_,_,_,rfl,⟨_,hq⟩,?_⟩
 have e3:atI [D.int t,.tup [.str z,.int k],.int num,.tup [.str (Str.ofString "say"),.str r,u,.str s]] 3=some (.tup [.str (Str.ofString "say"),.str r,u,.str s]):=ay (j:=3) rfl
 have e4:atI [.str (Str.ofString "say"),.str r,u,.str s] 3=some (.str s):=ay (j:=3) rfl
 rw[e3]
 dsimp only
 rw[e4]
 refine⟨tab,hq,rfl,?_⟩
 simp only[eP]
 walk_at "dl"
 refine⟨_,_,_,_,_,_,rfl,_,_,_,_,_,_,_,rfl,_,_,_,_,rfl,tab,hq,rfl,ap (by lia),bx.now h⟩
theorem lB(T:Tops P w K mg base):Cal P w K mg base 2 "message_of" dN cb :=
 Cal.byD (N:=["say","changes","stamp","saying"]) T.b T.f_message_of (by walk_at "sc") jC (by have:=iS T; have:=dP T; have:=kz T; have:=iR T; walk_at "dv") kM
def ca:DSp:=fun ds M R=>∃ (ps:List (Str×Int)) (rs:List (Str×List Str)) (log:List D),ds=[aF ps rs,.tup log]/\(∀ d∈log,aT ps rs d)/\log.length < 64/\∀ n B,M <+: B->B[n]?=some (.dkt (aK rs log))->R (.ref n) B
theorem jB:dB ca dM:=by rintro ds M R ⟨ps,rs,log,rfl,_⟩; rfl
theorem uB{M:Mem}{l:List D}(h:∀ x∈l,St x):l.all (okD M eqN)=true:=List.all_eq_true.mpr fun x hx=>(h x hx).ok
theorem wg(hx:St x)(h:∀ x∈l,St x):inD M x l=decide (x∈l):=by
 unfold inD
 by_cases hm:x∈l
 ·rw[decide_eq_true hm]
  exact List.any_eq_true.mpr ⟨x,hm,by rw[show eqN=28+2 from rfl,hx.eq hx]; exact decide_eq_true rfl⟩
 ·rw[decide_eq_false hm]
  refine Bool.eq_false_iff.mpr fun z=>?_
  obtain⟨y,hy,e⟩:=List.any_eq_true.mp z
  rw[show eqN=28+2 from rfl,(h y hy).eq hx] at e
  exact hm (of_decide_eq_true e ▸ hy)
def eN:DTS:=bC (dCB gB (ab (dLC 1 [2,3] (rQ (ac 2)) (au 0) (aA (dOp iI (ac 0) (ac 2))) (eY (ab (ac 0) (ab (lT (ac 1) (ac 0)) ah)))) ah))
def eO:DTS:=aB (aZ (dCB aH (ab (ac 1) (ab (ac 2) ah))) 3) (eN)
def gP:DTS:=aB (aZ (dCB aR (ab (ac 0) (ab (ac 1) ah))) 2) (eO)
theorem kL:WpT ca 4 gP:=by
 rintro ds M R ⟨ps,rs,log,rfl,hd,hl,h⟩
 simp only[gP]
 walk_at "dl"
 refine⟨ps,rs,log,rfl,hd,by lia,fun n B pB hB=>?_⟩
 have tb:=bn (rs:=rs) (log:=log)
 have kl:=bB (log:=log) (k:=Str.ofString "say")
 have hv:=ii hd (fun _ q=>q) tb
 have tl:=tb.len
 have nd:=tb.nd
 have en:=tb.en
 have hsh:aK rs log=(aG rs log).filter fun p=>@decide (¬ bG (aG rs log) log p.1) (Classical.propDecidable _):=rfl
 rw[hsh] at h
 clear hsh
 generalize aG rs log=kvs at h tb tl hv nd en hB
 simp only[eO]
 walk_at "dl"
 refine⟨ps,rs,log,n,kvs,rfl,hd,hl,hB,fun p hp=>(hv p hp).1.nm,fun ys hs hy _ _=>?_⟩
 simp only[eN]
 walk_at "dl"
 have hB2:(B++[MO.lst ys])[n]?=some (.dkt kvs):=ae hB
 refine⟨kvs,hB2,fun _=>?_⟩
 have sp:∀ p∈kvs,St p.1:=fun p hp=>by rw[(en p hp).1]; exact(hv p hp).1.st
 refine bv (fun k=>decide (k∉ys)) (fun k=>.tup [k,(bj kvs k).getD .non]) (fun S=>∃ a,S=[a,some (.ref n),some (.ref B.length)]) hB2 _ _ _ ?_ ⟨_,rfl⟩ (by rw[List.length_nil,List.length_map]; exact ap (by lia)) ?_
 ·rintro x hm S ⟨a,rfl⟩
  obtain⟨p,hp,rfl⟩:=List.mem_map.mp hm
  have sx:=sp p hp
  have hg:=iX nd hp
  refine⟨[some p.1,some (.ref n),some (.ref B.length)],⟨_,rfl⟩,fun Y Z hYZ=>?_⟩
  rw[hg] at hYZ
  obtain⟨ks,e⟩:=sx.tup
  have hk:=sx.key
  rw[e] at hYZ hg hk sx ⊢
  walk_at "dl"
  refine⟨ys,aC,⟨sx.ok,uB hs⟩,?_⟩
  rw[wg sx hs]
  by_cases hx:D.tup ks∈ys
  ·rw[decide_eq_true hx]
   rw[decide_eq_false (fun z=>z hx)] at hYZ
   exact bH hYZ
  ·rw[decide_eq_false hx]
   rw[decide_eq_true hx,if_pos rfl] at hYZ
   exact bQ ⟨kvs,_,hB2,hk,hg,ap (by lia),hYZ⟩
 ·rw[List.nil_append]
  have el:((kvs.map (·.1)).filter fun k=>decide (k∉ys)).map (fun k=>D.tup [k,(bj kvs k).getD .non])=(kvs.filter fun p=>decide (p.1∉ys)).map fun p=>.tup [p.1,p.2]:=by
   rw[List.filter_map,List.map_map]
   refine List.map_congr_left fun p hp=>?_
   show D.tup [p.1,(bj kvs p.1).getD .non]=_
   rw[iX nd (List.mem_filter.mp hp).1]; rfl
  rw[el]
  have nd2:((kvs.filter fun p=>decide (p.1∉ys)).map (·.1)).Nodup:=(List.filter_sublist.map _).nodup nd
  refine⟨_,aC,fun p hp=>?_,?_,?_⟩
  ·have sx:=sp p (List.mem_filter.mp hp).1
   obtain⟨ks,e⟩:=sx.tup
   exact⟨sx.key,by rw[e]; rfl⟩
  ·have:=List.length_filter_le (fun p:D×D=>decide (p.1∉ys)) kvs
   lia
  ·rw[wA _ nd2]
   refine .inl (h _ _ (((pB.trans fS).trans fS).trans fS) ?_)
   have ef:(kvs.filter fun p=>decide (p.1∉ys))=kvs.filter fun p=>@decide (¬ bG kvs log p.1) (Classical.propDecidable _):=List.filter_congr fun p _=>by
    by_cases hb:bG kvs log p.1
    ·rw[decide_eq_false (show ¬ ¬ p.1∈ys from fun z=>z ((hy _).mpr hb)),@decide_eq_false _ (Classical.propDecidable _) (fun z=>z hb)]
    ·rw[decide_eq_true (show ¬ p.1∈ys from fun z=>hb ((hy _).mp z)),@decide_eq_true _ (Classical.propDecidable _) hb]
   rw[← ef]
   exact af
theorem lA(T:Tops P w K mg base):Cal P w K mg base 5 "says_shown" dM ca :=
 Cal.byD (N:=["house","log","says","backs"]) T.b T.f_says_shown (by walk_at "sc") jB (by have:=cC T; have:=bX T; walk_at "dv") kL
def bf:DSp:=fun ds M R=>∃ (ps:List (Str×Int)) (rs:List (Str×List Str)) (log:List D),ds=[aF ps rs,.tup log]/\(∀ d∈log,aT ps rs d)/\log.length < 64/\R (.ref M.length) (M++[.lst (aE rs log)])
theorem ja:dB bf cX:=by rintro ds M R ⟨ps,rs,log,rfl,_⟩; rfl
theorem eE(hd:∀ d∈log,aT ps rs d):∀ p∈aK rs log,p.1=stD p.2/\aT ps rs p.2/\bP p.2=Str.ofString "say":=fun p hp=>by
 have h1:=(iF.mp hp).1
 have tb:=bn (rs:=rs) (log:=log)
 exact⟨(tb.en p h1).1,ii hd (fun _ q=>q) tb p h1⟩
theorem xM(hc:∀ p∈ch,∃ s,p.2=.str s)(hd:aT ps rs d)(hk:bP d=Str.ofString "say"):Bel n (AT ch d):=by
 obtain⟨t,z,k,num,r,u,s,rfl,_,_,_,hu⟩:=eV hd hk
 have hub:Bel n u:=by
  rcases hu with rfl | hu
  ·exact .non
  ·exact bI 2 u hu.pl
 refine .tup (.cons (bI 2 _ (St.pl (n:=0) ⟨t,z,k,rfl⟩)) (.cons (.str _) (.cons hub (.cons (.str _) (.cons ?_ (.cons (.bl _) .nil))))))
 cases e:bj ch (stD (.tup [.int t,.tup [.str z,.int k],.int num,.tup [.str (Str.ofString "say"),.str r,u,.str s]])) with
 | none=>exact .str _
 | some v =>
  obtain⟨s',e'⟩:=hc _ (bK e)
  dsimp only at e'
  rw[e']
  exact .str _
def dD:DTS:=bC (dLC 1 [3] (rO (ac 2)) (au 0) tw (dCB cb (ab (ac 0) (ab (ac 1) ah))))
def dE:DTS:=aB (aZ (dCB bE (ab (ac 1) (ab (ac 2) ah))) 3) (dD)
def fI:DTS:=aB (aZ (dCB ca (ab (ac 0) (ab (ac 1) ah))) 2) (dE)
theorem jt:WpT bf 4 fI:=by
 rintro ds M R ⟨ps,rs,log,rfl,hd,hl,h⟩
 simp only[fI]
 walk_at "dl"
 refine⟨ps,rs,log,rfl,hd,hl,fun n B pB hB=>?_⟩
 have sv:=eE (rs:=rs) hd
 have sl:(aK rs log).length<=1000:=by
  have h1:=(bn (rs:=rs) (log:=log)).len
  have h2:=bB (log:=log) (k:=Str.ofString "say")
  have h3:(aK rs log).length<=(aG rs log).length:=List.length_filter_le _ _
  lia
 have hm:aE rs log=(aK rs log).map fun p=>AT (bZ (aK rs log) log) p.2:=rfl
 have hc:=jn (kvs:=aK rs log) hd
 simp only[dE]
 walk_at "dl"
 refine⟨ps,rs,log,n,aK rs log,rfl,hd,by lia,hB,fun p hp=>(sv p hp).2.1.nm,fun n2 B2 pB2 hB2=>?_⟩
 rw[hm] at h
 generalize aK rs log=T at sv sl hB hB2 h hc
 generalize bZ T log=ch at hB2 h hc
 have hBT:=cI pB2 hB
 have pM:=pB.trans pB2
 simp only[dD]
 walk_at "dl"
 refine⟨T,hBT,fun _=>?_⟩
 refine cw (AT ch) (fun S=>∃ a,S=[a,some (.ref n2)]) hBT _ _ _ (fun d hm S hS=>?_) ⟨_,rfl⟩ (by rw[List.length_nil,List.length_map]; exact ap (by lia)) ?_
 ·obtain⟨a,rfl⟩:=hS
  obtain⟨p,hp,rfl⟩:=List.mem_map.mp hm
  refine⟨[some p.2,some (.ref n2)],⟨_,rfl⟩,fun Y hY=>?_⟩
  walk_at "dl"
  exact⟨ps,rs,p.2,n2,ch,rfl,(sv p hp).2.1,(sv p hp).2.2,hB2,hY⟩
 ·rw[List.nil_append,List.map_map]
  obtain⟨L,rfl⟩:=pM
  rw[List.append_assoc]
  refine bx.lst h (by simp) (by simp) (Bels.of fun d hd'=>?_)
  obtain⟨p,hp,rfl⟩:=List.mem_map.mp hd'
  exact xM hc (sv p hp).2.1 (sv p hp).2.2
theorem jx(T:Tops P w K mg base):Cal P w K mg base 6 "messages_of" cX bf :=
 Cal.byD (N:=["house","log","says","changes"]) T.b T.f_messages_of (by walk_at "sc") ja (by have:=iT T; have:=lB T; have:=lA T; walk_at "dv") jt
def aQ:DSp:=fun ds M R=>∃ (ps:List (Str×Int)) (rs:List (Str×List Str)) (log:List D),ds=[aF ps rs,.tup log]/\(∀ d∈log,aT ps rs d)/\log.length < 64/\∀ ys,BackL rs log ys->R (.ref M.length) (M++[.lst ys])
theorem jA:dB aQ dL:=by rintro ds M R ⟨ps,rs,log,rfl,_⟩; rfl
def gO:DTS:=bC (dCB aH (ab (ac 1) (ab (dCB aR (ab (ac 0) (ab (ac 1) ah))) ah)))
theorem kK:WpT aQ 2 gO:=by
 rintro ds M R ⟨ps,rs,log,rfl,hd,hl,h⟩
 simp only[gO]
 walk_at "dl"
 refine⟨ps,rs,log,rfl,hd,by lia,fun n B pB hB=>?_⟩
 have tb:=bn (rs:=rs) (log:=log)
 have hv:=ii hd (fun _ q=>q) tb
 refine⟨ps,rs,log,n,aG rs log,rfl,hd,hl,hB,fun p hp=>(hv p hp).1.nm,fun ys hs hy nd r=>?_⟩
 obtain⟨L,rfl⟩:=pB
 rw[List.append_assoc]
 exact bx.lst (h ys ⟨hs,hy,nd,r⟩) (by simp) (by simp) (Bels.of fun d m=>bI 2 d (hs d m).pl)
theorem lz(T:Tops P w K mg base):Cal P w K mg base 5 "taken_back" dL aQ :=
 Cal.byD (N:=["house","log"]) T.b T.f_taken_back (by walk_at "sc") jA (by have:=cC T; have:=bX T; walk_at "dv") kK
def rS(ns:List Int)(k:Nat):Int:=ns.getD k 0
def cg:DSp:=fun ds M R=>∃ (n:Nat) (ns:List Int) (k:Nat),ds=[.ref n,.int k]/\ao M n (ns.map D.int)/\R (.int (rS ns k)) M
theorem pf:dB cg iO:=by rintro ds M R ⟨n,ns,k,rfl,_⟩; rfl
def iB:DTS:=bC (dC (.int 0))
def mF:DTS:=aB (dIf (aA (dOp qLt (ac 1) (dCB kr (ab (ac 0) ah)))) (bC (dOp qIx (ac 0) (ac 1))) bg) (iB)
theorem rZ:WpT cg 2 mF:=by
 rintro ds M R ⟨n,ns,k,rfl,hL,h⟩
 simp only[mF,iB]
 walk_at "dl"
 refine⟨_,hL,?_⟩
 unfold rS at h
 by_cases hk:k < ns.length
 ·rw[decide_eq_true (by simpa using hk)]
  refine bQ ⟨_,hL,?_⟩
  rw[ay (v:=.int ns[k]) (by rw[List.getElem?_map,List.getElem?_eq_getElem hk]; rfl)]
  rw[List.getD_eq_getElem?_getD,List.getElem?_eq_getElem hk] at h
  exact bx.now h
 ·rw[decide_eq_false (by simpa using hk)]
  rw[List.getD_eq_getElem?_getD,List.getElem?_eq_none (by lia)] at h
  exact bH (bx.now h)
theorem sH(T:Tops P w K mg base):Cal P w K mg base 1 "_law_cell_at" iO cg :=
 Cal.byD (N:=["_law_script","_law_k"]) T.b T.f_cell_at (by walk_at "sc") pf (by walk_at "dv") rZ
def cQ:DSp:=fun ds M R=>∃ (c:Int),ds=[.int c]/\∀ n:Int,R (.ref M.length) (M++[.lst [.int n]])
theorem sR:dB cQ lu:=by rintro ds M R ⟨c,rfl,_⟩; rfl
def ka:DTS:=bC (ji (ab (ac 3) ah))
def kb:DTS:=aZ (dOp bc (dOp kZ (ac 3) (dC (.int 2147483587))) (dOp sD (dOp kZ (ac 5) (dC (.int 69621))) (dC (.int 2147483587)))) 3
def kg:DTS:=aB (aZ (dOp sD (dOp kZ (ac 2) (ac 2)) (dC (.int 2147483629))) 5) (kb)
def kh:DTS:=aB (nR (dm (ab (dC (.int 16)) ah)) (au 4) (aB (aZ (dOp sD (dOp bc (dOp bc (dOp kZ (ac 2) (dC (.int 48271))) (dOp kZ (dC (.int 7919)) (ac 4))) (dC (.int 11))) (dC (.int 2147483647))) 2) (kg))) (ka)
def ki:DTS:=aB (aZ (dC (.int 0)) 3) (kh)
def kj:DTS:=aB (aZ (dOp sD (ac 1) (dC (.int 2147483647))) 2) (ki)
def kn:DTS:=aB (dIf (aA (dOp qEq (dOp sD (ac 0) (dC (.int 2))) (dC (.int 0)))) (bC (ji (ab (ac 1) ah))) bg) (kj)
def qC:DTS:=aB (aZ (dOp oO (ac 0) (dC (.int 2))) 1) (kn)
theorem tQ:WpT cQ 6 qC:=by
 rintro ds M R ⟨c,rfl,h⟩
 simp only[qC,kn]
 walk_at "dl"
 refine⟨⟨by decide,by decide⟩,by decide,⟨rfl,rfl⟩,?_⟩
 generalize hb:eqD M eqN (.int (c % 2)) (.int 0)=b
 cases b with
 | true=>exact bQ ⟨ap (by lia),.inl (h _)⟩
 | false =>
  refine bH ?_
  simp only[kj,ki,kh]
  walk_at "dl"
  have r0:=qS (a:=c / 2) (b:=2147483647) (by decide)
  have r1:=qT (a:=c / 2) (b:=2147483647) (by decide)
  refine⟨by decide,⟨by decide,by decide⟩,?_⟩
  refine bD (fun i S M'=>M'=M/\∃ (nu to:Int) (a b:Option D),0<=nu/\nu < 2147483647/\S=[some (.int c),some (.int (c / 2)),some (.int nu),some (.int to),a,b]) ?_ ?_ ⟨rfl,_,_,_,_,r0,r1,rfl⟩
  ·rintro S M' ⟨rfl,nu,to,a,b,_,_,rfl⟩
   refine⟨trivial,?_⟩
   simp only[ka]
   walk_at "dl"
   exact⟨ap (by lia),.inl (h _)⟩
  ·rintro i y S M' hy ⟨rfl,nu,to,a,b,n0,n1,rfl⟩ G hG
   obtain⟨hi,rfl⟩:=eI.mp hy
   refine⟨trivial,?_⟩
   walk_at "dl"
   refine⟨.inr ⟨by decide,by decide⟩,.inl ⟨by decide,by decide⟩,by decide,?_⟩
   have a0:=qS (a:=nu*48271+7919*(0+(i:Int))+11) (b:=2147483647) (by decide)
   have a1:=qT (a:=nu*48271+7919*(0+(i:Int))+11) (b:=2147483647) (by decide)
   generalize (nu*48271+7919*(0+(i:Int))+11) % 2147483647=nv at a0 a1
   simp only[kg,kb]
   walk_at "dl"
   refine⟨.inl ⟨by lia,by lia⟩,by decide,.inr ⟨by decide,by decide⟩,.inr ⟨by decide,by decide⟩,by decide,?_⟩
   exact Fgt.now (hG _ _ ⟨rfl,_,_,_,_,a0,a1,rfl⟩)
theorem mO(T:Tops P w K mg base):Cal P w K mg base 1 "_law_digits" lu cQ :=
 Cal.byD (N:=["_law_cell","_law_rest","_law_number","_law_total","_law_k","_law_other"]) T.b T.f_digits (by walk_at "sc") sR (by walk_at "dv") tQ
def aq:DSp:=fun ds M R=>∃ (q:Nat) (m:Int),ds=[.ref q,.int m]/\HdP M q/\0 < m/\m < 100000000000/\∀ i n:Int,0<=i->i < m->R (.int i) (M.set q (.lst [.int n]))
theorem xR:dB aq uW:=by rintro ds M R ⟨q,m,rfl,_⟩; rfl
def qa:DTS:=bC (ac 2)
def qb:DTS:=aB (dAsg (dOp oO (dOp qIx (ac 0) (dC (.int 0))) (ac 1)) (yz (ac 0) (dC (.int 0)))) (qa)
def yO:DTS:=aB (aZ (dOp sD (dOp qIx (ac 0) (dC (.int 0))) (ac 1)) 2) (qb)
theorem zQ:WpT aq 3 yO:=by
 rintro ds M R ⟨q,m,rfl,⟨n,hq⟩,m0,m1,h⟩
 simp only[yO,qb,qa]
 walk_at "dl"
 refine⟨_,.inl hq,?_⟩
 rw[at0]
 refine⟨m0,_,.inl hq,?_⟩
 rw[at0]
 exact⟨⟨m0,by lia⟩,_,0,hq,rfl,.inl (h _ _ (qS m0) (qT m0))⟩
theorem cY(T:Tops P w K mg base):Cal P w K mg base 1 "_law_take" uW aq :=
 Cal.byD (N:=["_law_held","_law_many","_law_digit"]) T.b T.f_take (by walk_at "sc") xR (by walk_at "dv") zQ
def gM:DSp:=fun ds M R=>∃ (q:Nat),ds=[.ref q]/\HdP M q/\∀ (z:Str) (n:Int),z.length<=8->R (.str z) (M.set q (.lst [.int n]))
theorem xU:dB gM uZ:=by rintro ds M R ⟨q,rfl,_⟩; rfl
def qk:DTS:=bC (ac 2)
def qm:DTS:=aB (nR (dm (ab (dOp bc (dC (.int 1)) (dCB aq (ab (ac 0) (ab (dC (.int 8)) ah)))) ah)) (au 3) (aZ (dOp bc (ac 2) (dOp qIx (ac 1) (dCB aq (ab (ac 0) (ab (dC (.int 26)) ah))))) 2)) (qk)
def qo:DTS:=aB (aZ (dC (.str "")) 2) (qm)
def yR:DTS:=aB (aZ (dC (.str "abcdefghijklmnopqrstuvwxyz")) 1) (qo)
theorem zT:WpT gM 4 yR:=by
 rintro ds M R ⟨q,rfl,hq,h⟩
 have ql:=hq.lt
 simp only[yR,qo,qm]
 walk_at "dl"
 refine⟨q,8,rfl,hq,by decide,by decide,fun i n i0 i1=>?_⟩
 have g0:=hq.start.set (n:=n) ql
 generalize M.set q (.lst [.int n])=B0 at g0
 walk_at "dl"
 refine⟨⟨by lia,by lia⟩,?_⟩
 refine bD (fun j S M'=>Hl M M' q/\∃ (z:Str) (a:Option D),z.length=j/\S=[some (.ref q),some (.str (Str.ofString "abcdefghijklmnopqrstuvwxyz")),some (.str z),a]) ?_ ?_ ⟨g0,Str.ofString "",_,by decide +kernel,rfl⟩
 ·rintro S M' ⟨g,z,a,zl,rfl⟩
  refine⟨trivial,?_⟩
  simp only[qk]
  walk_at "dl"
  rw[fN] at zl
  exact g.fin (.str _) fun n=>h z n (by lia)
 ·rintro j y S M' hy ⟨g,z,a,zl,rfl⟩ G hG
  have hj:=(eI.mp hy).1
  refine⟨trivial,?_⟩
  walk_at "dl"
  refine⟨q,26,rfl,g.hd ql,by decide,by decide,fun k n k0 k1=>?_⟩
  have g1:=g.set (n:=n) ql
  generalize M'.set q (.lst [.int n])=B1 at g1
  walk_at "dl"
  have hl:(Str.ofString "abcdefghijklmnopqrstuvwxyz").cps.toList.length=26:=by decide +kernel
  have hz:(Str.ofString "abcdefghijklmnopqrstuvwxyz").length=26:=by decide +kernel
  obtain⟨j',hj',ej,_⟩:=fe (xs:=(Str.ofString "abcdefghijklmnopqrstuvwxyz").cps.toList) k0 (by rw[hl]; exact k1)
  refine⟨by rw[hz]; exact ap (by lia),?_⟩
  rw[ej]
  have o1:∀ c:Nat,(⟨#[c]⟩:Str).length=1:=fun _=>rfl
  refine⟨by rw[o1]; exact ap (by lia),Fgt.now (hG _ _ ⟨g1,_,_,?_,rfl⟩)⟩
  rw[bL,o1,zl]
theorem vm(T:Tops P w K mg base):Cal P w K mg base 2 "_law_name" uZ gM :=
 Cal.byD (N:=["_law_held","_law_letters","_law_name_here","_law_k"]) T.b T.f_name (by walk_at "sc") xU (by have:=cY T; walk_at "dv") zT
def gq:DSp:=fun ds M R=>∃ (q:Nat) (m:Int),ds=[.ref q,.int m]/\HdP M q/\1<=m/\m<=4/\∀ (xs:List Str) (n:Int),xs.Nodup->1<=xs.length->xs.length<=4->(∀ x∈xs,x.length<=8)->R (.ref M.length) (M.set q (.lst [.int n])++[.lst (xs.map .str)])
theorem vH:dB gq oQ:=by rintro ds M R ⟨q,m,rfl,_⟩; rfl
def iy:DTS:=bC (dCB fg (ab (ac 4) ah))
def iz:DTS:=dIf (aA (dOp iI (ac 6) (ac 4))) (jk (dMl cr (ac 4) (ab (ac 6) ah))) bg
def mq:DTS:=aB (dIf (aA (ac 2)) (aZ (dSl (dSl (dOp bc (dSl (ac 3) dY (jE (dC (.int 7)))) (ac 6)) dY (jE (dOp bc (dCB kr (ab (ac 3) ah)) (ac 5)))) dY (jE (dC (.int 8)))) 6) bg) (iz)
def mr:DTS:=aB (nR (lU (ab (dC (.int 1)) (ab (ac 1) ah))) (au 5) (aB (aZ (dCB gM (ab (ac 0) ah)) 6) (mq))) (iy)
def ms:DTS:=aB (aZ (ji (ab (ac 3) ah)) 4) (mr)
def mt:DTS:=aB (aZ (dCB gM (ab (ac 0) ah)) 3) (ms)
def tU:DTS:=aB (aZ (dOp qEq (dCB aq (ab (ac 0) (ab (dC (.int 2)) ah))) (dC (.int 1))) 2) (mt)
theorem wW:WpT gq 7 tU:=by
 rintro ds M R ⟨q,m,rfl,hq,m1,m4,h⟩
 have ql:=hq.lt
 simp only[tU]
 walk_at "dl"
 refine⟨q,2,rfl,hq,by decide,by decide,fun i n _ _=>?_⟩
 have g0:=hq.start.set (n:=n) ql
 generalize M.set q (.lst [.int n])=B0 at g0
 refine⟨⟨rfl,rfl⟩,?_⟩
 generalize eqD B0 eqN (.int i) (.int 1)=al
 simp only[mt]
 walk_at "dl"
 refine⟨q,rfl,g0.hd ql,fun z n zl=>?_⟩
 have g1:=g0.set (n:=n) ql
 generalize B0.set q (.lst [.int n])=B1 at g1
 simp only[ms]
 walk_at "dl"
 refine⟨ap (by lia),?_⟩
 have g2:Hl M (B1++[MO.lst [D.str z]]) q:=g1.more
 have gp:(B1++[MO.lst [D.str z]])[B1.length]?=some (.lst ([z].map D.str)):=af
 have pM:=g1.len
 generalize B1++[MO.lst [D.str z]]=B2 at g2 gp
 generalize B1.length=p at gp pM
 simp only[mr]
 walk_at "dl"
 refine⟨⟨by decide,by decide,by lia,by lia⟩,?_⟩
 refine bD (fun j S M'=>Hl M M' q/\∃ (xs:List Str) (a b:Option D),xs.Nodup/\1<=xs.length/\xs.length<=1+j/\(∀ x∈xs,x.length<=8)/\M'[p]?=some (.lst (xs.map .str))/\S=[some (.ref q),some (.int m),some (.bl al),some (.str z),some (.ref p),a,b]) ?_ ?_ ⟨g2,[z],_,_,by simp,by simp,by simp,by simpa using zl,gp,rfl⟩
 ·rintro S M' ⟨g,xs,a,b,nd,x1,xl,x8,gp,rfl⟩
  rw[fN] at xl
  refine⟨trivial,?_⟩
  simp only[iy]
  walk_at "dl"
  refine⟨_,.inl gp,(xg (by lia)).g,fun ys hy _=>?_⟩
  obtain⟨zs,rfl,hp⟩:=mN hy
  have hl:=hp.length_eq
  exact(g.more (L:=[.lst (zs.map .str)])).finL g.len af (qH _) fun n=>h zs n (hp.nodup_iff.mpr nd) (by lia) (by lia) fun x hx=>x8 x (hp.mem_iff.mp hx)
 ·rintro j y S M' hy ⟨g,xs,a,b,nd,x1,xl,x8,gp,rfl⟩ G hG
  obtain⟨hj,rfl⟩:=eI.mp hy
  refine⟨trivial,?_⟩
  walk_at "dl"
  refine⟨q,rfl,g.hd ql,fun y n yl=>?_⟩
  have g3:=g.set (n:=n) ql
  have gp3:(M'.set q (.lst [.int n]))[p]?=some (.lst (xs.map .str)):=ax (by lia) gp
  generalize M'.set q (.lst [.int n])=B3 at g3 gp3
  have fin:∀ y:Str,y.length<=8->iz ⟨Fgt B2 G,bx M R,fun S' M'=>iy (EE M R) S' M',Fgt B2 G⟩ [some (.ref q),some (.int m),some (.bl al),some (.str z),some (.ref p),some (.int (1+(j:Int))),some (.str y)] B3:=fun y yl=>by
   simp only[iz]
   walk_at "dl"
   refine⟨_,.inl gp3,⟨az,oJ⟩,?_⟩
   rw[pC]
   by_cases hm:y∈xs
   ·rw[decide_eq_true hm]
    exact bH (Fgt.now (hG _ _ ⟨g3,xs,_,_,nd,x1,by lia,x8,gp3,rfl⟩))
   ·rw[decide_eq_false hm]
    refine bQ ⟨⟨_,.inl gp3⟩,_,gp3,aO (by rw[List.length_map]; lia),?_⟩
    refine Fgt.now (hG _ _ ⟨g3.setO pM,xs++[y],_,_,?_,?_,?_,fun x hx=>?_,?_,rfl⟩)
    ·exact List.nodup_append.mpr ⟨nd,by simp,fun a ha b hb e=>hm (by rw[show b=y by simpa using hb] at e; exact e ▸ ha)⟩
    ·rw[List.length_append]; lia
    ·rw[List.length_append,List.length_singleton]; lia
    ·rcases List.mem_append.mp hx with hx | hx
     ·exact x8 x hx
     ·rw[show x=y by simpa using hx]; exact yl
    ·rw[List.map_append]; exact dU gp3
  simp only[mq]
  walk_at "dl"
  cases al with
  | false=>exact bH (fin y yl)
  | true =>
   have s1:=Txt.slice_le z none (some 7)
   have s2:=Txt.slice_le (Txt.slice z none (some 7)++y) none (some ((z.length:Int)+(1+(j:Int))))
   rw[bL] at s2
   refine bQ ⟨ap (by lia),ap (by lia),ap (by lia),by rw[bL]; exact ap (by lia),ap (by lia),?_⟩
   exact fin _ (xi _ 8)
theorem xE(T:Tops P w K mg base):Cal P w K mg base 3 "_law_names" oQ gq :=
 Cal.byD (N:=["_law_held","_law_many","_law_alike","_law_base","_law_names_here","_law_k","_law_name_here"]) T.b T.f_names (by walk_at "sc") vH (by have:=cY T; have:=vm T; walk_at "dv") wW
def ir:DSp:=fun ds M R=>∃ (c:Int),ds=[.int c]/\∀ ps rs,HouseF ps rs->R (aF ps rs) M
theorem vI:dB ir oR:=by rintro ds M R ⟨c,rfl,_⟩; rfl
structure HsD(M B:Mem)(q p:Nat)(ns:List Str):Prop where
 pre:M <+: B
 qM:M.length<=q
 hd:HdP B q
 ne:p≠q
 nm:B[p]?=some (.lst (ns.map .str))
section
variable{M B:Mem}{q p m:Nat}{ns:List Str}{n:Int}{x:MO}
theorem HsD.set(g:HsD M B q p ns):HsD M (B.set q (.lst [.int n])) q p ns:=⟨dH g.pre g.qM,g.qM,⟨n,List.getElem?_set_self g.hd.lt⟩,g.ne,ax g.ne g.nm⟩
theorem HsD.more(g:HsD M B q p ns):HsD M (B++L) q p ns:=⟨g.pre.trans (List.prefix_append _ _),g.qM,by obtain⟨n,h⟩:=g.hd; exact⟨n,cI (List.prefix_append _ _) h⟩,g.ne,cI (List.prefix_append _ _) g.nm⟩
theorem HsD.setO(g:HsD M B q p ns)(h1:M.length<=m)(h2:q≠m)(h3:p≠m):HsD M (B.set m x) q p ns:=⟨dH g.pre h1,g.qM,by obtain⟨n,h⟩:=g.hd; exact⟨n,ax h2 h⟩,g.ne,ax h3 g.nm⟩
end
def mv:DTS:=bC (eY (ab (ac 3) (ab (dCB fP (ab (ac 4) ah)) ah)))
def mw:DTS:=jk (dMl cr (ac 4) (ab (eY (ab (ac 5) (ab (dCB fP (ab (ac 7) ah)) ah))) ah))
def my:DTS:=aB (kI 1 [2,6] (dm (ab (dCB kr (ab (ac 2) ah)) ah)) (au 0) (aA (dOp qEq (dOp sD (dOp oO (ac 2) (dOp BW (dC (.int 1)) (ac 0))) (dC (.int 2))) (dC (.int 1)))) (dOp qIx (ac 1) (ac 0)) 7) (mw)
def iA:DTS:=aB (nR (cJ (dCB gq (ab (ac 1) (ab (dOp bc (dC (.int 1)) (dCB aq (ab (ac 1) (ab (dC (.int 4)) ah)))) ah)))) (au 5) (aB (aZ (dOp bc (dC (.int 1)) (dCB aq (ab (ac 1) (ab (dOp CC (dOp BW (dC (.int 1)) (dCB kr (ab (ac 2) ah))) (dC (.int 1))) ah)))) 6) (my))) (mv)
def mz:DTS:=aB (aZ (ji ah) 4) (iA)
def mB:DTS:=aB (aZ (dCB fP (ab (dLC 1 [1] (cJ (ac 2)) (au 0) tw (eY (ab (ac 0) (ab (dOp bc (dC (.int 1)) (dCB aq (ab (ac 1) (ab (dC (.int 3)) ah)))) ah)))) ah)) 3) (mz)
def mC:DTS:=aB (aZ (dCB gq (ab (ac 1) (ab (dOp bc (dC (.int 1)) (dCB aq (ab (ac 1) (ab (dC (.int 4)) ah)))) ah))) 2) (mB)
def ul:DTS:=aB (aZ (dCB cQ (ab (ac 0) ah)) 1) (mC)
theorem Bm(g:HsD M B q p ns)(n1:1<=ns.length)(n4:ns.length<=4)(rM:M.length<=r)(rq:r≠q)(rp:r≠p)(gr:B[r]?=some (.lst []))
  (h:∀ rs:List (Str×List Str),1<=rs.length/\rs.length<=4->(rs.map (·.1)).Nodup->(∀ r∈rs,r.2.length<=4)->R (aF ps rs) M) :
  iA (EE M R) [y0,some (.ref q),some (.ref p),some (.tup (ps.map fV)),some (.ref r),y5,y6,y7] B:=by
 simp only[iA]
 walk_at "dl"
 refine⟨q,4,rfl,g.hd,by decide,by decide,fun i n i0 i1=>?_⟩
 have g0:=g.set (n:=n)
 have gr0:(B.set q (.lst [.int n]))[r]?=some (.lst []):=ax rq gr
 generalize B.set q (.lst [.int n])=B0 at g0 gr0
 refine⟨q,1+i,rfl,g0.hd,by lia,by lia,fun ws n wn w1 w4 w8=>?_⟩
 have g1:=g0.set (n:=n)
 have gr1:(B0.set q (.lst [.int n]))[r]?=some (.lst []):=ax rq gr0
 have bl:(B0.set q (.lst [.int n])).length=B0.length:=List.length_set ..
 have g2:=g1.more (L:=[.lst (ws.map .str)])
 have gr2:=ae (a:=.lst (ws.map .str)) gr1
 have gw:(B0.set q (.lst [.int n])++[.lst (ws.map .str)])[B0.length]?=some (.lst (ws.map .str)):=by rw[← bl]; exact af
 have wM:M.length<=B0.length:=g0.pre.length_le
 have wq:B0.length≠q:=by have:=g0.hd.lt; lia
 have wp:B0.length≠p:=by have:=aW g0.nm; lia
 have wr:B0.length≠r:=by have:=aW gr0; lia
 generalize B0.set q (.lst [.int n])++[.lst (ws.map .str)]=B2 at g2 gr2 gw
 generalize B0.length=w at gw wM wq wp wr
 refine⟨_,.inl gw,fun _=>?_⟩
 refine bD (fun j S M'=>∃ (rs:List (Str×List Str)) (a b c:Option D),HsD M M' q p ns/\M'[r]?=some (.lst (rs.map jw))/\M'[w]?=some (.lst (ws.map .str))/\rs.map (·.1)=ws.take j/\rs.length=j/\(∀ x∈rs,x.2.length<=4)/\S=[y0,some (.ref q),some (.ref p),some (.tup (ps.map fV)),some (.ref r),a,b,c]) ?_ ?_ ⟨[],_,_,_,g2,gr2,gw,rfl,rfl,(fun _ z=>nomatch z),rfl⟩
 ·rintro S M' ⟨rs,a,b,c,g,gr,gw,hn,hl,hm,rfl⟩
  rw[List.length_map] at hn hl
  rw[List.take_length] at hn
  refine⟨.inl gw,?_⟩
  simp only[mv]
  walk_at "dl"
  refine⟨_,.inl gr,ap (by lia),?_⟩
  refine bx.keep (h rs ⟨by lia,by lia⟩ (by rw[hn]; exact wn) hm) ?_ g.pre
  refine .tup (.cons (.tup (Bels.of fun d hd=>?_)) (.cons (.tup (Bels.of fun d hd=>?_)) .nil))
  ·obtain⟨x,_,rfl⟩:=List.mem_map.mp hd
   exact .tup (.cons (.str _) (.cons (.int _) .nil))
  ·obtain⟨x,_,rfl⟩:=List.mem_map.mp hd
   exact .tup (.cons (.str _) (.cons (.tup (qH _)) .nil))
 ·rintro j y S M' hy ⟨rs,a,b,c,g,gr,gw,hn,hl,hm,rfl⟩ G hG
  rw[List.getElem?_map] at hy
  obtain⟨s,hs,rfl⟩:=Option.map_eq_some_iff.mp hy
  have hj:=(List.getElem?_eq_some_iff.mp hs).1
  have et:ws.take (j+1)=ws.take j++[s]:=by rw[List.take_add_one,hs]; rfl
  refine⟨.inl gw,?_⟩
  walk_at "dl"
  have pw:0 < (1:Int)*2 ^ ns.length-1/\(1:Int)*2 ^ ns.length-1 < 100:=by
   have:ns.length=1\/ns.length=2\/ns.length=3\/ns.length=4:=by lia
   rcases this with e | e | e | e <;> rw[e] <;> decide
  refine⟨_,.inl g.nm,⟨by lia,by rw[List.length_map]; lia,by decide⟩,?_⟩
  rw[List.length_map,Int.toNat_natCast]
  refine⟨q,_,rfl,g.hd,pw.1,by lia,fun i n i0 i1=>?_⟩
  have g3:=g.set (n:=n)
  have gr3:(M'.set q (.lst [.int n]))[r]?=some (.lst (rs.map jw)):=ax rq gr
  have gw3:(M'.set q (.lst [.int n]))[w]?=some (.lst (ws.map .str)):=ax wq gw
  generalize M'.set q (.lst [.int n])=B3 at g3 gr3 gw3
  simp only[my]
  walk_at "dl"
  refine⟨_,.inl g3.nm,⟨by lia,by rw[List.length_map]; lia⟩,?_⟩
  rw[List.length_map,Int.toNat_natCast]
  refine lV (fun ys acc S M2=>∃ (xs:List Str) (a2:Option D),acc=xs.map D.str/\xs.length+ys.length<=4/\(∀ y∈ys,∃ j:Nat,y=.int (0+(j:Int))/\j < ns.length)/\M2=B3/\S=[a2,some (.ref p),some (.int (1+i))]) ?_ ?_ _ _ _ _ ⟨[],_,rfl,by rw[List.length_nil,fN]; lia,fun y' hy'=>?_,rfl,rfl⟩
  ·rintro acc S M2 ⟨xs,a2,rfl,xl4,_,rfl,rfl⟩
   rw[List.length_nil,Nat.add_zero] at xl4
   refine⟨trivial,?_⟩
   simp only[mw]
   walk_at "dl"
   have g4:=g3.more (L:=[.lst (xs.map .str)])
   have gr4:=ae (a:=.lst (xs.map .str)) gr3
   have gw4:=ae (a:=.lst (xs.map .str)) gw3
   refine⟨⟨_,.inl gr4⟩,_,aC,ap (by lia),_,gr4,aO (by rw[List.length_map]; lia),?_⟩
   refine Fgt.now (hG _ _ ⟨rs++[(s,xs)],_,_,_,g4.setO rM (Ne.symm rq) (Ne.symm rp),?_,ax wr gw4,?_,?_,fun x hx=>?_,rfl⟩)
   ·rw[List.map_append]; exact dU gr4
   ·rw[List.map_append,hn,et]; rfl
   ·rw[List.length_append,hl]; rfl
   ·rcases List.mem_append.mp hx with hx | hx
    ·exact hm x hx
    ·rw[show x=(s,xs) by simpa using hx]; exact xl4
  ·rintro y' ys acc S M2 ⟨xs,a2,rfl,xl,hy',rfl,rfl⟩ K hK
   obtain⟨j,rfl,hj⟩:=hy' y' (by simp)
   rw[List.length_cons] at xl
   refine⟨trivial,?_⟩
   walk_at "dl"
   have e3:atI (ns.map D.str) (0+(j:Int))=some (.str (ns[j]'(by lia))):=by
    rw[Int.zero_add]
    exact ay (by rw[List.getElem?_map,List.getElem?_eq_getElem (by lia)]; rfl)
   have pw:BU (1+i) (1*2 ^ (0+(j:Int)).toNat):=by
    rw[Int.zero_add,Int.toNat_natCast]
    have:j=0\/j=1\/j=2\/j=3:=by lia
    rcases this with rfl | rfl | rfl | rfl <;> exact⟨by decide,by decide⟩
   refine⟨⟨by lia,by lia,by decide⟩,pw,by decide,⟨lE,lE⟩,?_⟩
   split
   ·refine⟨_,.inl g3.nm,?_⟩
    rw[e3]
    exact⟨by rw[List.length_map]; exact aO (by lia),hK _ _ _ ⟨xs++[_],_,by simp; rfl,by rw[List.length_append,List.length_singleton]; lia,fun z hz'=>hy' z (List.mem_cons_of_mem _ hz'),rfl,rfl⟩⟩
   ·exact hK _ _ _ ⟨xs,_,rfl,by lia,fun z hz'=>hy' z (List.mem_cons_of_mem _ hz'),rfl,rfl⟩
  ·obtain⟨j,hj⟩:=List.getElem?_of_mem hy'
   obtain⟨hlt,rfl⟩:=eI.mp hj
   exact⟨j,rfl,hlt⟩
theorem wX:WpT ir 8 ul:=by
 rintro ds M R ⟨c,rfl,h⟩
 simp only[ul]
 walk_at "dl"
 refine⟨c,rfl,fun n=>?_⟩
 simp only[mC]
 walk_at "dl"
 refine⟨M.length,4,rfl,⟨n,af⟩,by decide,by decide,fun i n' i0 i1=>?_⟩
 rw[iG]
 refine⟨M.length,1+i,rfl,⟨n',af⟩,by lia,by lia,fun ns n' nd n1 n4 n8=>?_⟩
 rw[iG]
 have e1:(M++[MO.lst [D.int n']]).length=M.length+1:=by simp
 have g:HsD M (M++[MO.lst [D.int n']]++[MO.lst (ns.map .str)]) M.length (M.length+1) ns:=⟨fS.trans fS,Nat.le_refl _,⟨n',ae af⟩,by lia,by rw[← e1]; exact af⟩
 have e2:∀ n:Int,(M++[MO.lst [D.int n]]).length=M.length+1:=fun n=>by simp
 rw[e2]
 generalize M++[MO.lst [D.int n']]++[MO.lst (ns.map .str)]=B at g
 generalize hq:M.length=q at g
 generalize q+1=p at g
 simp only[mB]
 walk_at "dl"
 refine⟨_,.inl g.nm,fun _=>?_⟩
 refine lV (fun ys acc S M1=>∃ (ps:List (Str×Int)) (a:Option D) (i:Nat),HsD M M1 q p ns/\acc=ps.map fV/\ps.length=i/\ps.map (·.1)=ns.take i/\(∀ x∈ps,(1<=x.2/\x.2<=3)/\x.1.length<=8)/\ys=(ns.map D.str).drop i/\i<=ns.length/\S=[a,some (.ref q)]) ?_ ?_ _ _ _ _ ⟨[],_,0,g,rfl,rfl,rfl,(fun _ z=>nomatch z),by simp,Nat.zero_le _,rfl⟩
 ·rintro acc S M1 ⟨ps,a,i,g,rfl,pi,pn,hp,hd,im,rfl⟩
  have hi:i=ns.length:=by
   have:=congrArg List.length hd
   rw[List.length_nil,List.length_drop,List.length_map] at this
   lia
  refine⟨.inl g.nm,_,aC,?_⟩
  simp only[mz]
  walk_at "dl"
  refine⟨Nat.zero_le _,?_⟩
  have g2:=(g.more (L:=[.lst (ps.map fV)])).more (L:=[.lst []])
  have pl:=g.pre.length_le
  have ql:=g.hd.lt
  have pl2:=aW g.nm
  have el:(M1++[MO.lst (ps.map fV)]).length=M1.length+1:=by simp
  refine Bm g2 n1 n4 (by rw[el]; lia) (by rw[el]; lia) (by rw[el]; lia) af fun rs r1 rn r4=>h ps rs ⟨⟨by lia,by lia⟩,fun x hx=>(hp x hx).1,fun x hx=>(hp x hx).2,r1,by rw[pn]; exact nd.sublist (List.take_sublist _ _),rn,r4⟩
 ·rintro y ys acc S M1 ⟨ps,a,i,g,rfl,pi,pn,hp,hd,im,rfl⟩ K hK
  have hi:i < ns.length:=by
   have:=congrArg List.length hd
   rw[List.length_cons,List.length_drop,List.length_map] at this
   lia
  have hlt:i < (ns.map D.str).length:=by rw[List.length_map]; exact hi
  rw[List.drop_eq_getElem_cons hlt] at hd
  injection hd with h1 h2
  rw[List.getElem_map] at h1
  subst h1
  refine⟨.inl g.nm,?_⟩
  walk_at "dl"
  refine⟨q,3,rfl,g.hd,by decide,by decide,fun k n' k0 k1=>?_⟩
  refine⟨ap (by lia),by rw[List.length_map]; exact aO (by lia),hK _ _ _ ⟨ps++[(ns[i],1+k)],_,i+1,g.set,by rw[List.map_append]; rfl,by rw[List.length_append,pi]; rfl,?_,fun x hx=>?_,h2,by lia,rfl⟩⟩
  ·rw[List.map_append,pn,List.take_add_one,List.getElem?_eq_getElem hi]; rfl
  ·rcases List.mem_append.mp hx with hx | hx
   ·exact hp x hx
   ·rw[show x=(ns[i],1+k) by simpa using hx]
    exact⟨⟨by show 1<=1+k; lia,by show 1+k<=3; lia⟩,n8 _ (List.getElem_mem hi)⟩
theorem xF(T:Tops P w K mg base):Cal P w K mg base 4 "_law_house" oR ir :=
 Cal.byD (N:=["_law_cell","_law_held","_law_names_here","_law_people","_law_rooms","_law_room","_law_bits","_law_members"]) T.b T.f_house (by walk_at "sc") vI (by have:=mO T; have:=cY T; have:=xE T; walk_at "dv") wX
def eA:DSp:=fun ds M R=>∃ (q p:Nat) (xs:List Str),ds=[.ref q,.ref p]/\HdP M q/\p≠q/\ao M p (xs.map .str)/\1<=xs.length/\xs.length<=1000/\(∀ x∈xs,x.length<=8)/\∀ (x:Str) (n:Int),R (.str x) (M.set q (.lst [.int n]))
theorem sQ:dB eA lr:=by rintro ds M R ⟨q,p,xs,rfl,_⟩; rfl
def jT:DTS:=bC (dSl (ac 3) dY (jE (dC (.int 60))))
def jU:DTS:=aZ (dOp bc (ac 3) (dOp qIx (ac 6) (dCB aq (ab (ac 0) (ab (dC (.int 7)) ah))))) 3
def jV:DTS:=aB (aZ (ji (ab (dOp bc (dC (.str "@")) (ac 5)) (ab (dOp bc (dOp bc (dC (.str "@")) (ac 5)) (dC (.str " "))) (ab (dOp bc (dOp bc (dC (.str "@")) (ac 5)) (dC (.str "x"))) (ab (ac 5) (ab (dC (.str "hi ")) (ab (dC (.str "@")) (ab (dOp bc (dC (.str "@")) (ac 5)) ah)))))))) 6) (jU)
def jW:DTS:=aB (nR (dm (ab (dOp bc (dC (.int 1)) (dCB aq (ab (ac 0) (ab (dC (.int 4)) ah)))) ah)) (au 4) (aB (aZ (dOp qIx (ac 1) (dCB aq (ab (ac 0) (ab (dCB kr (ab (ac 1) ah)) ah)))) 5) (jV))) (jT)
def jX:DTS:=bC (ac 3)
def jY:DTS:=aB (dIf (aA (dOp qEq (dCB aq (ab (ac 0) (ab (dC (.int 3)) ah))) (dC (.int 0)))) (aB (nR (dm (ab (dOp bc (dC (.int 1)) (dCB aq (ab (ac 0) (ab (dC (.int 60)) ah)))) ah)) (au 4) (aZ (dOp bc (ac 3) (dOp qIx (ac 2) (dCB aq (ab (ac 0) (ab (dC (.int 94)) ah))))) 3)) (jX)) bg) (jW)
def jZ:DTS:=aB (aZ (dC (.str "")) 3) (jY)
def qd:DTS:=aB (aZ (dC (.str " !\"#$&'()*+,-./0123456789:;<=>?@ABCDEFGHIJKLMNOPQRSTUVWXYZ[\\]^_`abcdefghijklmnopqrstuvwxyz{|}~")) 2) (jZ)
theorem tP:WpT eA 7 qd:=by
 rintro ds M R ⟨q,p,xs,rfl,hq,pq,hL,x1,xl,x8,h⟩
 have ql:=hq.lt
 have hl:(Str.ofString " !\"#$&'()*+,-./0123456789:;<=>?@ABCDEFGHIJKLMNOPQRSTUVWXYZ[\\]^_`abcdefghijklmnopqrstuvwxyz{|}~").cps.toList.length=94:=by decide +kernel
 have hz:(Str.ofString " !\"#$&'()*+,-./0123456789:;<=>?@ABCDEFGHIJKLMNOPQRSTUVWXYZ[\\]^_`abcdefghijklmnopqrstuvwxyz{|}~").length=94:=by decide +kernel
 simp only[qd,jZ,jY]
 generalize Str.ofString " !\"#$&'()*+,-./0123456789:;<=>?@ABCDEFGHIJKLMNOPQRSTUVWXYZ[\\]^_`abcdefghijklmnopqrstuvwxyz{|}~" = sg at hl hz
 walk_at "dl"
 refine⟨q,3,rfl,hq,by decide,by decide,fun i n _ _=>?_⟩
 have g0:=hq.start.set (n:=n) ql
 generalize M.set q (.lst [.int n])=B0 at g0
 refine⟨⟨rfl,rfl⟩,?_⟩
 generalize eqD B0 eqN (.int i) (.int 0)=b
 have o1:∀ c:Nat,(⟨#[c]⟩:Str).length=1:=fun _=>rfl
 cases b with
 | true =>
  refine bQ ⟨q,60,rfl,g0.hd ql,by decide,by decide,fun i n i0 i1=>?_⟩
  have g1:=g0.set (n:=n) ql
  generalize B0.set q (.lst [.int n])=B1 at g1
  walk_at "dl"
  refine⟨⟨by lia,by lia⟩,?_⟩
  refine bD (fun j S M'=>Hl M M' q/\∃ (z:Str) (a:Option D),z.length=j/\S=[some (.ref q),some (.ref p),some (.str sg),some (.str z),a,none,none]) ?_ ?_ ⟨g1,Str.ofString "",_,by decide +kernel,rfl⟩
  ·rintro S M' ⟨g,z,a,zl,rfl⟩
   refine⟨trivial,?_⟩
   simp only[jX]
   walk_at "dl"
   exact g.fin (.str _) fun n=>h z n
  ·rintro j y S M' hy ⟨g,z,a,zl,rfl⟩ G hG
   have hj:=(eI.mp hy).1
   refine⟨trivial,?_⟩
   walk_at "dl"
   refine⟨q,94,rfl,g.hd ql,by decide,by decide,fun k n k0 k1=>?_⟩
   have g2:=g.set (n:=n) ql
   generalize M'.set q (.lst [.int n])=B2 at g2
   obtain⟨j',hj',ej,_⟩:=fe (xs:=sg.cps.toList) k0 (by rw[hl]; exact k1)
   refine⟨by rw[hz]; exact ap (by lia),?_⟩
   rw[ej]
   refine⟨by rw[o1]; exact ap (by lia),Fgt.now (hG _ _ ⟨g2,_,_,?_,rfl⟩)⟩
   rw[bL,o1,zl]
 | false =>
  refine bH ?_
  simp only[jW]
  walk_at "dl"
  refine⟨q,4,rfl,g0.hd ql,by decide,by decide,fun i n i0 i1=>?_⟩
  have g1:=g0.set (n:=n) ql
  generalize B0.set q (.lst [.int n])=B1 at g1
  walk_at "dl"
  refine⟨⟨by lia,by lia⟩,?_⟩
  refine bD (fun j S M'=>Hl M M' q/\∃ (z:Str) (a b c:Option D),z.length<=20*j/\S=[some (.ref q),some (.ref p),some (.str sg),some (.str z),a,b,c]) ?_ ?_ ⟨g1,Str.ofString "",_,_,_,by decide +kernel,rfl⟩
  ·rintro S M' ⟨g,z,a,b,c,zl,rfl⟩
   rw[fN] at zl
   refine⟨trivial,?_⟩
   simp only[jT]
   walk_at "dl"
   exact⟨ap (by lia),g.fin (.str _) fun n=>h _ n⟩
  ·rintro j y S M' hy ⟨g,z,a,b,c,zl,rfl⟩ G hG
   have hj:=(eI.mp hy).1
   have hL':=g.oldL pq hL
   refine⟨trivial,?_⟩
   walk_at "dl"
   refine⟨_,hL',q,_,rfl,g.hd ql,by rw[List.length_map]; lia,by rw[List.length_map]; lia,fun k n k0 k1=>?_⟩
   have g2:=g.set (n:=n) ql
   have hL2:=g2.oldL pq hL
   generalize M'.set q (.lst [.int n])=B2 at g2 hL2
   obtain⟨j',hj',ej,_⟩:=fe (xs:=xs.map D.str) k0 k1
   rw[List.getElem_map] at ej
   have w8:=x8 _ (List.getElem_mem (by rw[List.length_map] at hj'; exact hj'))
   refine⟨_,hL2,?_⟩
   rw[ej]
   generalize xs[j']'(by rw[List.length_map] at hj'; exact hj')=w at w8
   have sa:(Str.ofString "@").length=1:=by decide +kernel
   have sb:(Str.ofString " ").length=1:=by decide +kernel
   have sx:(Str.ofString "x").length=1:=by decide +kernel
   have sh:(Str.ofString "hi ").length=3:=by decide +kernel
   simp only[jV]
   walk_at "dl"
   refine⟨by rw[sa]; exact ap (by lia),by rw[sa]; exact ap (by lia),by rw[bL,sa,sb]; exact ap (by lia),by rw[sa]; exact ap (by lia),by rw[bL,sa,sx]; exact ap (by lia),by rw[sa]; exact ap (by lia),ap (by lia),?_⟩
   simp only[jU]
   walk_at "dl"
   refine⟨q,7,rfl,(g2.more).hd ql,by decide,by decide,fun k n k0 k1=>?_⟩
   have g3:=(g2.more (L:=[.lst [.str (Str.ofString "@" ++ w),.str (Str.ofString "@" ++ w++Str.ofString " "),.str (Str.ofString "@" ++ w++Str.ofString "x"),.str w,.str (Str.ofString "hi "),.str (Str.ofString "@"),.str (Str.ofString "@" ++ w)]])).set (n:=n) ql
   have gl:((B2++[MO.lst [.str (Str.ofString "@" ++ w),.str (Str.ofString "@" ++ w++Str.ofString " "),.str (Str.ofString "@" ++ w++Str.ofString "x"),.str w,.str (Str.ofString "hi "),.str (Str.ofString "@"),.str (Str.ofString "@" ++ w)]]).set q (.lst [.int n]))[B2.length]?=some (.lst [.str (Str.ofString "@" ++ w),.str (Str.ofString "@" ++ w++Str.ofString " "),.str (Str.ofString "@" ++ w++Str.ofString "x"),.str w,.str (Str.ofString "hi "),.str (Str.ofString "@"),.str (Str.ofString "@" ++ w)]):=ax (by have:=g2.len; lia) af
   have ex:∃ s:Str,atI [D.str (Str.ofString "@" ++ w),.str (Str.ofString "@" ++ w++Str.ofString " "),.str (Str.ofString "@" ++ w++Str.ofString "x"),.str w,.str (Str.ofString "hi "),.str (Str.ofString "@"),.str (Str.ofString "@" ++ w)] k=some (.str s)/\s.length<=20:=by
    have:k=0\/k=1\/k=2\/k=3\/k=4\/k=5\/k=6:=by lia
    rcases this with rfl | rfl | rfl | rfl | rfl | rfl | rfl
    ·exact⟨_,ay (j:=0) rfl,by rw[bL,sa]; lia⟩
    ·exact⟨_,ay (j:=1) rfl,by rw[bL,bL,sa,sb]; lia⟩
    ·exact⟨_,ay (j:=2) rfl,by rw[bL,bL,sa,sx]; lia⟩
    ·exact⟨_,ay (j:=3) rfl,by lia⟩
    ·exact⟨_,ay (j:=4) rfl,by rw[sh]; lia⟩
    ·exact⟨_,ay (j:=5) rfl,by rw[sa]; lia⟩
    ·exact⟨_,ay (j:=6) rfl,by rw[bL,sa]; lia⟩
   obtain⟨s,es,sl⟩:=ex
   refine⟨_,.inl gl,?_⟩
   rw[es]
   refine⟨ap (by lia),Fgt.now (hG _ _ ⟨g3,_,_,_,_,?_,rfl⟩)⟩
   rw[bL]; lia
theorem vh(T:Tops P w K mg base):Cal P w K mg base 2 "_law_saying" lr eA :=
 Cal.byD (N:=["_law_held","_law_names_here","_law_signs","_law_saying_here","_law_k","_law_name_here","_law_pieces"]) T.b T.f_saying (by walk_at "sc") sQ (by have:=cY T; walk_at "dv") tP
def cA:DSp:=fun ds M R=>∃ (q p s:Nat) (hs sts:List D),ds=[.ref q,.ref p,.ref s]/\HdP M q/\p≠q/\s≠q/\ao M p hs/\(∀ x∈hs,Hd x)/\1<=hs.length/\hs.length<=12/\ao M s sts/\(∀ x∈sts,St x)/\sts.length<=1000/\∀ (d:D) (n:Int),St d->R d (M.set q (.lst [.int n]))
theorem xT:dB cA uY:=by rintro ds M R ⟨q,p,s,hs,sts,rfl,_⟩; rfl
theorem St.bel(h:St d):Bel k d:=bI 2 d h.pl
def qh:DTS:=bC (dOp qIx (ac 2) (dCB aq (ab (ac 0) (ab (dCB kr (ab (ac 2) ah)) ah))))
def qi:DTS:=aB (dIf (aA (dOp qEq (ac 3) (dC (.int 1)))) (bC (eY (ab (dOp bc (dC (.int 1)) (dCB aq (ab (ac 0) (ab (dOp Ah (dC (.int 10)) (dC (.int 9))) ah)))) (ab (dOp qIx (ac 1) (dCB aq (ab (ac 0) (ab (dCB kr (ab (ac 1) ah)) ah)))) ah)))) bg) (qh)
def qj:DTS:=aB (dIf (dOr (aA (dOp qEq (ac 3) (dC (.int 0)))) (aA (dOp qEq (ac 2) (ji ah)))) (bC (eY (ab (dOp bc (dC (.int 1)) (dCB aq (ab (ac 0) (ab (dC (.int 70)) ah)))) (ab (dOp qIx (ac 1) (dCB aq (ab (ac 0) (ab (dCB kr (ab (ac 1) ah)) ah)))) ah)))) bg) (qi)
def yQ:DTS:=aB (aZ (dCB aq (ab (ac 0) (ab (dC (.int 8)) ah))) 3) (qj)
theorem lh(ql:q < M.length)(pq:p≠q)(hp:ao M p hs)(hh:∀ x∈hs,Hd x)(h1:1<=hs.length)(h12:hs.length<=12)(h:∀ (d:D) (n:Int),St d->R d (M.set q (.lst [.int n])))(g:Hl M B q)(ht:∀ S B Q,Q (.int m) B->tm S B Q)(m0:0 < m)(m1:m < 100000000000) :
  (bC (eY (ab (dOp bc (dC (.int 1)) (dCB aq (ab (ac 0) (ab tm ah)))) (ab (dOp qIx (ac 1) (dCB aq (ab (ac 0) (ab (dCB kr (ab (ac 1) ah)) ah)))) ah)))) (EE M R) [some (.ref q),some (.ref p),y2,y3] B:=by
 walk_at "dl"
 refine ht _ _ _ ?_
 refine⟨q,m,rfl,g.hd ql,m0,m1,fun i n i0 i1=>?_⟩
 have g1:=g.set (n:=n) ql
 generalize B.set q (.lst [.int n])=B1 at g1
 refine⟨hs,g1.oldL pq hp,q,_,rfl,g1.hd ql,by lia,by lia,fun k n k0 k1=>?_⟩
 have g2:=g1.set (n:=n) ql
 generalize B1.set q (.lst [.int n])=B2 at g2
 obtain⟨j,hj,ej,_⟩:=fe (xs:=hs) k0 k1
 obtain⟨z,k2,ez⟩:=hh _ (List.getElem_mem hj)
 refine⟨hs,g2.oldL pq hp,?_⟩
 rw[ej]
 have:St (.tup [.int (1+i),hs[j]]):=⟨1+i,z,k2,by rw[ez]⟩
 exact⟨ap (by lia),g2.fin this.bel fun n=>h _ n this⟩
theorem zS:WpT cA 4 yQ:=by
 rintro ds M R ⟨q,p,s,hs,sts,rfl,hq,pq,sq,hp,hh,h1,h12,hs',hst,sl,h⟩
 have ql:=hq.lt
 have ok29:∀ {B:Mem},∀ x∈sts,okD B 29 x=true:=fun {B} x hx=>by obtain⟨t,z,k,rfl⟩:=hst x hx; rfl
 simp only[yQ]
 walk_at "dl"
 refine⟨q,8,rfl,hq,by decide,by decide,fun i n _ _=>?_⟩
 have g0:=hq.start.set (n:=n) ql
 generalize M.set q (.lst [.int n])=B0 at g0
 simp only[qj]
 walk_at "dl"
 refine⟨⟨rfl,rfl⟩,?_⟩
 generalize eqD B0 eqN (.int i) (.int 0)=b0
 cases b0 with
 | true=>exact bQ (lh (m:=70) (tm:=dC (.int 70)) (y2:=some (.ref s)) (y3:=some (.int i)) ql pq hp hh h1 h12 h g0 (fun _ _ _ q=>q) (by decide) (by decide))
 | false =>
  refine bH ?_
  obtain⟨okk,ee⟩:=fW (g0.oldL sq hs') ok29
  refine⟨Nat.zero_le _,okk,?_⟩
  rw[ee]
  have g1:=g0.more (L:=[.lst []])
  generalize B0++[MO.lst []]=B1 at g1
  cases he:sts.isEmpty with
  | true=>exact bQ (lh (m:=70) (tm:=dC (.int 70)) (y2:=some (.ref s)) (y3:=some (.int i)) ql pq hp hh h1 h12 h g1 (fun _ _ _ q=>q) (by decide) (by decide))
  | false =>
   refine bH ?_
   simp only[qi]
   walk_at "dl"
   refine⟨⟨rfl,rfl⟩,?_⟩
   generalize eqD B1 eqN (.int i) (.int 1)=b1
   cases b1 with
   | true=>exact bQ (lh (m:=10 ^ Int.toNat 9) (tm:=dOp Ah (dC (.int 10)) (dC (.int 9))) (y2:=some (.ref s)) (y3:=some (.int i)) ql pq hp hh h1 h12 h g1 (fun _ _ _ q=>⟨⟨by decide,by decide,by decide⟩,q⟩) (by decide) (by decide))
   | false =>
    refine bH ?_
    simp only[qh]
    walk_at "dl"
    have s1:1<=sts.length:=by
     cases sts with
     | nil=>cases he
     | cons x xs=>simp
    refine⟨sts,g1.oldL sq hs',q,_,rfl,g1.hd ql,by lia,by lia,fun k n k0 k1=>?_⟩
    have g2:=g1.set (n:=n) ql
    generalize B1.set q (.lst [.int n])=B2 at g2
    obtain⟨j,hj,ej,_⟩:=fe (xs:=sts) k0 k1
    refine⟨sts,g2.oldL sq hs',?_⟩
    rw[ej]
    have hx:=hst _ (List.getElem_mem hj)
    exact g2.fin hx.bel fun n=>h _ n hx
theorem vj(T:Tops P w K mg base):Cal P w K mg base 2 "_law_pick" uY cA :=
 Cal.byD (N:=["_law_held","_law_hands_here","_law_says","_law_way"]) T.b T.f_pick (by walk_at "sc") xT (by have:=cY T; walk_at "dv") zS
def gj:DSp:=fun ds M R=>∃ (q p t:Nat) (hs:List D) (kvs:List (D×D)),ds=[.ref q,.ref p,.ref t]/\HdP M q/\p≠q/\t≠q/\ao M p hs/\(∀ x∈hs,Hd x)/\hs.length<=12/\M[t]?=some (.dkt kvs)/\(∀ x∈kvs,∃ v:Int,x.2=.int v/\0<=v/\v<=1000)/\∀ (vs:List D) (n:Int),jG 3 vs->R (.tup vs) (M.set q (.lst [.int n]))
theorem sO:dB gj lp:=by rintro ds M R ⟨q,p,t,hs,kvs,rfl,_⟩; rfl
theorem jG.snoc(h:jG n ds)(t:Pln n d):jG n (ds++[d]):=by
 unfold jG at h ⊢
 rw[List.all_append,h]
 simpa [Pln] using t
def jJ:DTS:=bC (dCB fP (ab (ac 3) ah))
def jK:DTS:=dIf (aA (dOp qGt (ac 5) (dC (.int 0)))) (jk (dMl cr (ac 3) (ab (eY (ab (ac 4) (ab (ac 5) ah))) ah))) bg
def jL:DTS:=aB (nR (cJ (ac 1)) (au 4) (aB (aZ (dCB aq (ab (ac 0) (ab (dOp bc (dMt fQ (ac 2) (ab (ac 4) (ab (dC (.int 0)) ah))) (dC (.int 3))) ah))) 5) (jK))) (jJ)
def pZ:DTS:=aB (aZ (ji ah) 3) (jL)
theorem tN:WpT gj 6 pZ:=by
 rintro ds M R ⟨q,p,t,hs,kvs,rfl,hq,pq,tq,hp,hh,h12,ht,hv,h⟩
 have ql:=hq.lt
 simp only[pZ,jL]
 walk_at "dl"
 refine⟨Nat.zero_le _,_,hp.more _,fun _=>?_⟩
 have g0:Hl M (M++[MO.lst []]) q:=hq.start.more
 refine bD (fun i S M'=>∃ (vs:List D) (a b:Option D),Hl M M' q/\M'[M.length]?=some (.lst vs)/\jG 3 vs/\vs.length<=i/\S=[some (.ref q),some (.ref p),some (.ref t),some (.ref M.length),a,b]) ?_ ?_ ⟨[],_,_,g0,af,.nil,Nat.le_refl _,rfl⟩
 ·rintro S M' ⟨vs,a,b,g,gv,pv,vl,rfl⟩
  refine⟨g.oldL pq hp,?_⟩
  simp only[jJ]
  walk_at "dl"
  exact⟨_,.inl gv,g.fin (bI 4 _ (.tup pv)) fun n=>h vs n pv⟩
 ·rintro i y S M' hy ⟨vs,a,b,g,gv,pv,vl,rfl⟩ G hG
  have hi:=(List.getElem?_eq_some_iff.mp hy).1
  obtain⟨z,k,rfl⟩:=hh y (List.mem_of_getElem? hy)
  refine⟨g.oldL pq hp,?_⟩
  walk_at "dl"
  have gt:=g.old tq ht
  refine⟨⟨_,gt⟩,_,gt,rfl,?_⟩
  have hg:∃ v:Int,(bj kvs (.tup [.str z,.int k])).getD (.int 0)=.int v/\0<=v/\v<=1000:=by
   cases e:bj kvs (.tup [.str z,.int k]) with
   | none=>exact⟨0,rfl,by decide,by decide⟩
   | some d=>exact hv _ (bK e)
  obtain⟨v,ev,v0,v1⟩:=hg
  rw[ev]
  refine⟨q,v+3,rfl,g.hd ql,by lia,by lia,fun c n c0 c1=>?_⟩
  have g1:=g.set (n:=n) ql
  have gv1:(M'.set q (.lst [.int n]))[M.length]?=some (.lst vs):=ax (by lia) gv
  generalize M'.set q (.lst [.int n])=B1 at g1 gv1
  simp only[jK]
  walk_at "dl"
  by_cases hc:c > 0
  ·rw[decide_eq_true hc]
   refine bQ ⟨⟨_,.inl gv1⟩,ap (by lia),_,gv1,aO (by lia),?_⟩
   exact Fgt.now (hG _ _ ⟨_,_,_,g1.setO (Nat.le_refl _),dU gv1,pv.snoc (.tup (.cons (yj ⟨_,_,rfl⟩) (.cons (.int _) .nil))),by rw[List.length_append,List.length_singleton]; lia,rfl⟩)
  ·rw[decide_eq_false hc]
   exact bH (Fgt.now (hG _ _ ⟨vs,_,_,g1,gv1,pv,by lia,rfl⟩))
theorem vb(T:Tops P w K mg base):Cal P w K mg base 2 "_law_vector" lp gj :=
 Cal.byD (N:=["_law_held","_law_hands_here","_law_done","_law_found","_law_hand","_law_count"]) T.b T.f_vector (by walk_at "sc") sO (by have:=cY T; walk_at "dv") tN
def lY:DSp:=fun ds M R=>∃ (q p s:Nat) (ps:List (Str×Int)) (rs:List (Str×List Str)) (hs sts:List D),ds=[.ref q,aF ps rs,.ref p,.ref s]/\HdP M q/\HouseF ps rs/\p≠q/\s≠q/\ao M p hs/\(∀ x∈hs,Hd x)/\1<=hs.length/\hs.length<=12/\ao M s sts/\(∀ x∈sts,St x)/\sts.length<=1000/\∀ (d:D) (n:Int),Pln 4 d->R d (M.set q (.lst [.int n]))
theorem xQ:dB lY uV:=by rintro ds M R ⟨q,p,s,ps,rs,hs,sts,rfl,_⟩; rfl
def pW:DTS:=bC (eY (ab (dC (.str "under")) (ab (dCB cA (ab (ac 0) (ab (ac 2) (ab (ac 3) ah)))) ah)))
def pX:DTS:=aB (dIf (aA (dOp qEq (ac 4) (dC (.int 1)))) (bC (eY (ab (dC (.str "person")) (ab (dOp qIx (dOp qIx (dOp qIx (ac 1) (dC (.int 0))) (dCB aq (ab (ac 0) (ab (dCB kr (ab (dOp qIx (ac 1) (dC (.int 0))) ah)) ah)))) (dC (.int 0))) ah)))) bg) (pW)
def pY:DTS:=aB (dIf (aA (dOp qEq (ac 4) (dC (.int 0)))) (bC (eY (ab (dC (.str "room")) (ab (dOp qIx (dOp qIx (dOp qIx (ac 1) (dC (.int 1))) (dCB aq (ab (ac 0) (ab (dCB kr (ab (dOp qIx (ac 1) (dC (.int 1))) ah)) ah)))) (dC (.int 0))) ah)))) bg) (pX)
def yN:DTS:=aB (aZ (dCB aq (ab (ac 0) (ab (dC (.int 3)) ah))) 4) (pY)
theorem zP:WpT lY 5 yN:=by
 rintro ds M R ⟨q,p,s,ps,rs,hs,sts,rfl,hq,hf,pq,sq,hp,hh,h1,h12,hs',hst,sl,h⟩
 have ql:=hq.lt
 have l1:=hf.len
 have l2:=hf.rl
 simp only[yN,aF]
 walk_at "dl"
 refine⟨q,3,rfl,hq,by decide,by decide,fun i n _ _=>?_⟩
 have g0:=hq.start.set (n:=n) ql
 generalize M.set q (.lst [.int n])=B0 at g0
 simp only[pY]
 walk_at "dl"
 refine⟨⟨rfl,rfl⟩,?_⟩
 generalize eqD B0 eqN (.int i) (.int 0)=b0
 cases b0 with
 | true =>
  refine bQ ⟨q,_,rfl,g0.hd ql,by rw[List.length_map]; lia,by rw[List.length_map]; lia,fun k n k0 k1=>?_⟩
  have g1:=g0.set (n:=n) ql
  generalize B0.set q (.lst [.int n])=B1 at g1
  obtain⟨j,hj,ej,_⟩:=fe (xs:=rs.map jw) k0 k1
  rw[List.getElem_map] at ej
  walk_at "dl"
  rw[ej]
  unfold jw
  walk_at "dl"
  refine⟨ap (by lia),g1.fin (.tup (.cons (.str _) (.cons (.str _) .nil))) fun n=>h _ n (.tup (.cons (.str _) (.cons (.str _) .nil)))⟩
 | false =>
  refine bH ?_
  simp only[pX]
  walk_at "dl"
  refine⟨⟨rfl,rfl⟩,?_⟩
  generalize eqD B0 eqN (.int i) (.int 1)=b1
  cases b1 with
  | true =>
   refine bQ ⟨q,_,rfl,g0.hd ql,by rw[List.length_map]; lia,by rw[List.length_map]; lia,fun k n k0 k1=>?_⟩
   have g1:=g0.set (n:=n) ql
   generalize B0.set q (.lst [.int n])=B1 at g1
   obtain⟨j,hj,ej,_⟩:=fe (xs:=ps.map fV) k0 k1
   rw[List.getElem_map] at ej
   walk_at "dl"
   rw[ej]
   unfold fV
   walk_at "dl"
   refine⟨ap (by lia),g1.fin (.tup (.cons (.str _) (.cons (.str _) .nil))) fun n=>h _ n (.tup (.cons (.str _) (.cons (.str _) .nil)))⟩
  | false =>
   refine bH ?_
   simp only[pW]
   walk_at "dl"
   refine⟨q,p,s,hs,sts,rfl,g0.hd ql,pq,sq,g0.oldL pq hp,hh,h1,h12,g0.oldL sq hs',hst,sl,fun d n hd=>?_⟩
   have g1:=g0.set (n:=n) ql
   generalize B0.set q (.lst [.int n])=B1 at g1
   exact⟨ap (by lia),g1.fin (.tup (.cons (.str _) (.cons hd.bel .nil))) fun n=>h _ n (.tup (.cons (.str _) (.cons hd.pl .nil)))⟩
theorem AG(T:Tops P w K mg base):Cal P w K mg base 3 "_law_what" uV lY :=
 Cal.byD (N:=["_law_held","_law_house_here","_law_hands_here","_law_says","_law_way"]) T.b T.f_what (by walk_at "sc") xQ (by have:=cY T; have:=vj T; walk_at "dv") zP
def rX:DSp:=fun ds M R=>∃ (q p s t:Nat) (ps:List (Str×Int)) (rs:List (Str×List Str)) (hs sts:List D) (kvs:List (D×D)),ds=[.ref q,aF ps rs,.ref p,.ref s,.ref t]/\HdP M q/\HouseF ps rs/\(p≠q/\s≠q/\t≠q)/\ao M p hs/\(∀ x∈hs,Hd x)/\1<=hs.length/\hs.length<=12/\ao M s sts/\(∀ x∈sts,St x)/\sts.length<=1000/\M[t]?=some (.dkt kvs)/\(∀ x∈kvs,∃ v:Int,x.2=.int v/\0<=v/\v<=1000)/\∀ (x:Str) (dl:List D) (n:Int),jG 4 dl->ActK rs x dl->R (.tup (.str x::dl)) (M.set q (.lst [.int n]))
theorem AZ:dB rX AD:=by rintro ds M R ⟨q,p,s,t,ps,rs,hs,sts,kvs,rfl,_⟩; rfl
theorem dZ(g:Hl M B q)(h:∀ (x:Str) (dl:List D) (n:Int),jG 4 dl->ActK rs x dl->R (.tup (.str x::dl)) (M.set q (.lst [.int n])))(hp:jG 4 dl)(ha:ActK rs x dl):bx M R (.tup (.str x::dl)) B :=
 g.fin (bI 5 _ (.tup (.cons (.str _) hp))) fun n=>h x dl n hp ha
theorem k_ne:Str.ofString "read"≠Str.ofString "say"/\Str.ofString "read"≠Str.ofString "change"/\Str.ofString "read"≠Str.ofString "back"/\Str.ofString "read"≠Str.ofString "like":=by decide +kernel
theorem k_ne2:Str.ofString "seen"≠Str.ofString "say"/\Str.ofString "seen"≠Str.ofString "change"/\Str.ofString "seen"≠Str.ofString "back"/\Str.ofString "seen"≠Str.ofString "like":=by decide +kernel
theorem k_ne3:Str.ofString "hush"≠Str.ofString "say"/\Str.ofString "hush"≠Str.ofString "change"/\Str.ofString "hush"≠Str.ofString "back"/\Str.ofString "hush"≠Str.ofString "like":=by decide +kernel
theorem k_ne4:Str.ofString "rung"≠Str.ofString "say"/\Str.ofString "rung"≠Str.ofString "change"/\Str.ofString "rung"≠Str.ofString "back"/\Str.ofString "rung"≠Str.ofString "like":=by decide +kernel
def qD:DTS:=bC (eY (ab (dC (.str "rung")) (ab (dCB cA (ab (ac 0) (ab (ac 2) (ab (ac 3) ah)))) ah)))
def qE:DTS:=aB (dIf (aA (dOp qEq (ac 5) (dC (.int 9)))) (bC (eY (ab (dC (.str "hush")) (ab (dCB lY (ab (ac 0) (ab (ac 1) (ab (ac 2) (ab (ac 3) ah))))) (ab (dOp qGt (dCB aq (ab (ac 0) (ab (dC (.int 3)) ah))) (dC (.int 0))) ah))))) bg) (qD)
def qF:DTS:=aB (dIf (aA (dOp qEq (ac 5) (dC (.int 8)))) (bC (eY (ab (dC (.str "seen")) (ab (dCB cA (ab (ac 0) (ab (ac 2) (ab (ac 3) ah)))) ah)))) bg) (qE)
def qG:DTS:=aB (dIf (aA (dOp qEq (ac 5) (dC (.int 7)))) (bC (eY (ab (dC (.str "read")) (ab (ac 7) (ab (dCB gj (ab (ac 0) (ab (ac 2) (ab (ac 4) ah)))) ah))))) bg) (qF)
def uu:DTS:=bC (eY (ab (dC (.str "like")) (ab (dCB cA (ab (ac 0) (ab (ac 2) (ab (ac 3) ah)))) (ab (ac 9) (ab (dOp qGt (dCB aq (ab (ac 0) (ab (dC (.int 3)) ah))) (dC (.int 0))) ah)))))
def uv:DTS:=aB (dIf (aA (dOp qEq (ac 5) (dC (.int 6)))) (aB (aZ (dOp qIx (ji (ab (dC (.str "good")) (ab (dC (.str "no")) (ab (dCB gM (ab (ac 0) ah)) ah)))) (dCB aq (ab (ac 0) (ab (dC (.int 3)) ah)))) 9) (uu)) bg) (qG)
def uw:DTS:=aB (dIf (aA (dOp qEq (ac 5) (dC (.int 5)))) (bC (eY (ab (dC (.str "back")) (ab (dCB cA (ab (ac 0) (ab (ac 2) (ab (ac 3) ah)))) ah)))) bg) (uv)
def kU:DTS:=aB (dIf (aA (dOp qEq (ac 5) (dC (.int 4)))) (bC (eY (ab (dC (.str "change")) (ab (dCB cA (ab (ac 0) (ab (ac 2) (ab (ac 3) ah)))) (ab (dCB eA (ab (ac 0) (ab (ac 6) ah))) ah))))) bg) (uw)
def oF:DTS:=bC (eY (ab (dC (.str "say")) (ab (ac 7) (ab (ac 8) (ab (dCB eA (ab (ac 0) (ab (ac 6) ah))) ah)))))
def oG:DTS:=aB (dIf (yD (aA (dOp qGt (dCB aq (ab (ac 0) (ab (dC (.int 3)) ah))) (dC (.int 0)))) (aA (dOp qNe (ac 3) (ji ah)))) (aZ (dCB cA (ab (ac 0) (ab (ac 2) (ab (ac 3) ah)))) 8) bg) (oF)
def ux:DTS:=aB (dIf (dOr (aA (dOp qLt (ac 5) (dC (.int 4)))) (yD (aA (dOp qEq (ac 3) (ji ah))) (aA (dOp qLt (ac 5) (dC (.int 7)))))) (aB (aZ (dC .non) 8) (oG)) bg) (kU)
def uy:DTS:=aB (aZ (dOp qIx (dOp qIx (dOp qIx (ac 1) (dC (.int 1))) (dCB aq (ab (ac 0) (ab (dCB kr (ab (dOp qIx (ac 1) (dC (.int 1))) ah)) ah)))) (dC (.int 0))) 7) (ux)
def uz:DTS:=aB (kI 2 [] (cJ (dOp qIx (ac 1) (dC (.int 0)))) (nN 2 (bT (au 0) (bT (au 1) nO))) tw (ac 0) 6) (uy)
def Co:DTS:=aB (aZ (dCB aq (ab (ac 0) (ab (dC (.int 11)) ah))) 5) (uz)
section
variable{M B:Mem}{R:DK}{q p s t w:Nat}{ps:List (Str×Int)}{rs:List (Str×List Str)}{hs sts:List D}{kvs:List (D×D)}{kind:Int}{xs:List Str}{room:Str}{y8 y9:Option D}
theorem act_6(ql:q < M.length)(hf:HouseF ps rs)(ne:p≠q/\s≠q/\t≠q)(hp:ao M p hs)(hh:∀ x∈hs,Hd x)(h1:1<=hs.length)(h12:hs.length<=12)(hs':ao M s sts)(hst:∀ x∈sts,St x)(sl:sts.length<=1000)(ht:M[t]?=some (.dkt kvs))(hv:∀ x∈kvs,∃ v:Int,x.2=.int v/\0<=v/\v<=1000)
  (g:Hl M B q) (wM:M.length<=w) (gw:B[w]?=some (.lst (xs.map .str))) (x1:1<=xs.length) (x4:xs.length<=4) (x8:∀ x∈xs,x.length<=8)
  (h:∀ (x:Str) (dl:List D) (n:Int),jG 4 dl->ActK rs x dl->R (.tup (.str x::dl)) (M.set q (.lst [.int n]))) :
  kU (EE M R) [some (.ref q),some (aF ps rs),some (.ref p),some (.ref s),some (.ref t),some (.int kind),some (.ref w),some (.str room),y8,y9] B:=by
 have pk:∀ {B:Mem}{Q:DK},Hl M B q->(∀ (d:D) (B':Mem),St d->Hl M B' q->(∀ j x,M.length<=j->B[j]?=some x->B'[j]?=some x)->Q d B')->cA [.ref q,.ref p,.ref s] B Q:=fun {B Q} g k =>
  ⟨q,p,s,hs,sts,rfl,g.hd ql,ne.1,ne.2.1,g.oldL ne.1 hp,hh,h1,h12,g.oldL ne.2.1 hs',hst,sl,fun d n hd=>k d _ hd (g.set ql) fun j x hj e=>ax (by lia) e⟩
 simp only[kU]
 walk_at "dl"
 refine⟨⟨rfl,rfl⟩,?_⟩
 generalize eqD B eqN (.int kind) (.int 4)=b4
 cases b4 with
 | true =>
  refine bQ (pk g fun d B1 hd g1 kp=>?_)
  refine⟨q,w,xs,rfl,g1.hd ql,by lia,.inl (kp _ _ wM gw),x1,by lia,x8,fun z n=>?_⟩
  exact⟨ap (by lia),dZ (g1.set ql) h (.cons hd.pl (.cons (.str _) .nil)) (.mkChange hd)⟩
 | false =>
 refine bH ?_
 simp only[uw]
 walk_at "dl"
 refine⟨⟨rfl,rfl⟩,?_⟩
 generalize eqD B eqN (.int kind) (.int 5)=b5
 cases b5 with
 | true=>exact bQ (pk g fun d B1 hd g1 kp=>⟨ap (by lia),dZ g1 h (.cons hd.pl .nil) (.mkBack hd)⟩)
 | false =>
 refine bH ?_
 simp only[uv]
 walk_at "dl"
 refine⟨⟨rfl,rfl⟩,?_⟩
 generalize eqD B eqN (.int kind) (.int 6)=b6
 cases b6 with
 | true =>
  refine bQ ⟨q,rfl,g.hd ql,fun z n zl=>?_⟩
  have g1:=g.set (n:=n) ql
  generalize B.set q (.lst [.int n])=B1 at g1
  refine⟨ap (by lia),q,3,rfl,(g1.more).hd ql,by decide,by decide,fun k n k0 k1=>?_⟩
  have g2:=(g1.more (L:=[.lst [.str (Str.ofString "good"),.str (Str.ofString "no"),.str z]])).set (n:=n) ql
  have gl:((B1++[MO.lst [.str (Str.ofString "good"),.str (Str.ofString "no"),.str z]]).set q (.lst [.int n]))[B1.length]?=some (.lst [.str (Str.ofString "good"),.str (Str.ofString "no"),.str z]):=ax (by have:=g1.len; lia) af
  generalize (B1++[MO.lst [.str (Str.ofString "good"),.str (Str.ofString "no"),.str z]]).set q (.lst [.int n])=B2 at g2 gl
  have ex:∃ s:Str,atI [D.str (Str.ofString "good"),.str (Str.ofString "no"),.str z] k=some (.str s):=by
   have:k=0\/k=1\/k=2:=by lia
   rcases this with rfl | rfl | rfl
   ·exact⟨_,ay (j:=0) rfl⟩
   ·exact⟨_,ay (j:=1) rfl⟩
   ·exact⟨_,ay (j:=2) rfl⟩
  obtain⟨so,es⟩:=ex
  refine⟨_,.inl gl,?_⟩
  rw[es]
  simp only[uu]
  walk_at "dl"
  refine pk g2 fun d B3 hd g3 kp=>?_
  refine⟨q,3,rfl,g3.hd ql,by decide,by decide,fun k n k0 k1=>?_⟩
  exact⟨ap (by lia),dZ (g3.set ql) h (.cons hd.pl (.cons (.str _) (.cons (.bl _) .nil))) (.mkLike hd)⟩
 | false =>
 refine bH ?_
 simp only[qG]
 walk_at "dl"
 refine⟨⟨rfl,rfl⟩,?_⟩
 generalize eqD B eqN (.int kind) (.int 7)=b7
 cases b7 with
 | true =>
  refine bQ ⟨q,p,t,hs,kvs,rfl,g.hd ql,ne.1,ne.2.2,g.oldL ne.1 hp,hh,h12,g.old ne.2.2 ht,hv,fun vs n hvs=>?_⟩
  exact⟨ap (by lia),dZ (g.set ql) h (.cons (.str _) (.cons (.tup hvs) .nil)) (.mkNone k_ne)⟩
 | false =>
 refine bH ?_
 simp only[qF]
 walk_at "dl"
 refine⟨⟨rfl,rfl⟩,?_⟩
 generalize eqD B eqN (.int kind) (.int 8)=b8
 cases b8 with
 | true=>exact bQ (pk g fun d B1 hd g1 kp=>⟨ap (by lia),dZ g1 h (.cons hd.pl .nil) (.mkNone k_ne2)⟩)
 | false =>
 refine bH ?_
 simp only[qE]
 walk_at "dl"
 refine⟨⟨rfl,rfl⟩,?_⟩
 generalize eqD B eqN (.int kind) (.int 9)=b9
 cases b9 with
 | true =>
  refine bQ ⟨q,p,s,ps,rs,hs,sts,rfl,g.hd ql,hf,ne.1,ne.2.1,g.oldL ne.1 hp,hh,h1,h12,g.oldL ne.2.1 hs',hst,sl,fun d n hd=>?_⟩
  have g1:=g.set (n:=n) ql
  generalize B.set q (.lst [.int n])=B1 at g1
  refine⟨q,3,rfl,g1.hd ql,by decide,by decide,fun k n k0 k1=>?_⟩
  exact⟨ap (by lia),dZ (g1.set ql) h (.cons hd (.cons (.bl _) .nil)) (.mkNone k_ne3)⟩
 | false =>
 refine bH ?_
 simp only[qD]
 walk_at "dl"
 exact pk g fun d B1 hd g1 kp=>⟨ap (by lia),dZ g1 h (.cons hd.pl .nil) (.mkNone k_ne4)⟩
end
theorem Cf:WpT rX 10 Co:=by
 rintro ds M R ⟨q,p,s,t,ps,rs,hs,sts,kvs,rfl,hq,hf,ne,hp,hh,h1,h12,hs',hst,sl,ht,hv,h⟩
 have ql:=hq.lt
 have l1:=hf.len
 have l2:=hf.rl
 simp only[Co]
 walk_at "dl"
 refine⟨q,11,rfl,hq,by decide,by decide,fun kind n _ _=>?_⟩
 have g0:=hq.start.set (n:=n) ql
 generalize M.set q (.lst [.int n])=B0 at g0
 simp only[uz,aF]
 walk_at "dl"
 intro _
 refine cw (fun d=>(match d with | .tup (x::_)=>x | _=>.non)) (fun S=>∃ a b,S=[a,b]) trivial _ _ _ (fun x hx S hS=>?_) ⟨_,_,rfl⟩ (by rw[List.length_nil,List.length_map]; exact ap (by lia)) ?_
 ·obtain⟨a,b,rfl⟩:=hS
  obtain⟨y,_,rfl⟩:=List.mem_map.mp hx
  refine⟨[some (.str y.1),some (.int y.2)],⟨_,_,rfl⟩,fun Y hY=>?_⟩
  unfold fV
  walk_at "dl"
  exact⟨trivial,hY⟩
 ·rw[List.nil_append]
  have en:(ps.map fV).map (fun d=>(match d with | .tup (x::_)=>x | _=>.non))=(ps.map (·.1)).map D.str:=by
   rw[List.map_map,List.map_map]; rfl
  rw[en]
  have g1:=g0.more (L:=[.lst ((ps.map (·.1)).map D.str)])
  have gw:(B0++[MO.lst ((ps.map (·.1)).map D.str)])[B0.length]?=some (.lst ((ps.map (·.1)).map D.str)):=af
  have wM:=g0.len
  have x8:∀ x∈ps.map (·.1),x.length<=8:=fun x hx=>by
   obtain⟨y,hy,rfl⟩:=List.mem_map.mp hx
   exact hf.nm y hy
  have xl:(ps.map (·.1)).length=ps.length:=List.length_map _
  generalize B0++[MO.lst ((ps.map (·.1)).map D.str)]=B1 at g1 gw
  generalize B0.length=w at gw wM
  generalize ps.map (·.1)=xs at gw x8 xl
  simp only[uy]
  walk_at "dl"
  refine⟨q,_,rfl,g1.hd ql,by rw[List.length_map]; lia,by rw[List.length_map]; lia,fun k n k0 k1=>?_⟩
  have g2:=g1.set (n:=n) ql
  have gw2:(B1.set q (.lst [.int n]))[w]?=some (.lst (xs.map .str)):=ax (by lia) gw
  generalize B1.set q (.lst [.int n])=B2 at g2 gw2
  obtain⟨j,hj,ej,_⟩:=fe (xs:=rs.map jw) k0 k1
  rw[List.getElem_map] at ej
  have hj':j < rs.length:=by rw[List.length_map] at hj; exact hj
  have hr:(rs[j]'hj').1∈rs.map (·.1):=List.mem_map_of_mem (List.getElem_mem hj')
  walk_at "dl"
  rw[ej]
  unfold jw
  walk_at "dl"
  generalize (rs[j]'hj').1=room at hr
  have ok29:∀ {B:Mem},∀ x∈sts,okD B 29 x=true:=fun {B} x hx=>by obtain⟨t,z,k,rfl⟩:=hst x hx; rfl
  have six:∀ {B:Mem}{y8 y9:Option D},Hl M B q->B[w]?=some (.lst (xs.map .str))->kU (EE M R) [some (.ref q),some (aF ps rs),some (.ref p),some (.ref s),some (.ref t),some (.int kind),some (.ref w),some (.str room),y8,y9] B:=fun g gw=>act_6 ql hf ne hp hh h1 h12 hs' hst sl ht hv g wM gw (by lia) (by lia) x8 h
  have four:∀ {E:DEnds}{B:Mem}{y9:Option D},E.rt=bx M R->Hl M B q->B[w]?=some (.lst (xs.map .str))->oG E [some (.ref q),some (aF ps rs),some (.ref p),some (.ref s),some (.ref t),some (.int kind),some (.ref w),some (.str room),some .non,y9] B:=fun {E B y9} eR g gw=>by
   have five:∀ {B:Mem}{u:D},Hl M B q->B[w]?=some (.lst (xs.map .str))->(u=.non\/St u)->oF E [some (.ref q),some (aF ps rs),some (.ref p),some (.ref s),some (.ref t),some (.int kind),some (.ref w),some (.str room),some u,y9] B:=fun {B u} g gw hu=>by
    simp only[oF]
    walk_at "dl"
    refine⟨q,w,xs,rfl,g.hd ql,by lia,.inl gw,by lia,by lia,x8,fun z n=>?_⟩
    have up:Pln 4 u:=by
     rcases hu with rfl | hu
     ·exact .non
     ·exact hu.pl
    refine⟨ap (by lia),?_⟩
    rw[eR]
    exact dZ (g.set ql) h (.cons (.str _) (.cons up (.cons (.str _) .nil))) (.mkSay hr hu)
   simp only[oG]
   walk_at "dl"
   refine⟨q,3,rfl,g.hd ql,by decide,by decide,fun k n k0 k1=>?_⟩
   have g3:=g.set (n:=n) ql
   have gw3:(B.set q (.lst [.int n]))[w]?=some (.lst (xs.map .str)):=ax (by lia) gw
   generalize B.set q (.lst [.int n])=B3 at g3 gw3
   walk_at "dl"
   by_cases hk:k > 0
   ·rw[decide_eq_true hk]
    obtain⟨okk,ee⟩:=fW (g3.oldL ne.2.1 hs') ok29
    refine bQ ⟨Nat.zero_le _,okk,?_⟩
    rw[ee]
    have g4:=g3.more (L:=[.lst []])
    have gw4:=ae (a:=.lst []) gw3
    generalize B3++[MO.lst []]=B4 at g4 gw4
    cases he:sts.isEmpty with
    | true=>exact bH (five g4 gw4 (.inl rfl))
    | false =>
     refine bQ ⟨q,p,s,hs,sts,rfl,g4.hd ql,ne.1,ne.2.1,g4.oldL ne.1 hp,hh,h1,h12,g4.oldL ne.2.1 hs',hst,sl,fun d n hd=>?_⟩
     exact five (g4.set ql) (ax (by lia) gw4) (.inr hd)
   ·rw[decide_eq_false hk]
    exact bH (five g3 gw3 (.inl rfl))
  simp only[ux]
  walk_at "dl"
  by_cases h4:kind < 4
  ·rw[decide_eq_true h4]
   exact bQ (four rfl g2 gw2)
  ·rw[decide_eq_false h4]
   obtain⟨okk,ee⟩:=fW (g2.oldL ne.2.1 hs') ok29
   refine bH ⟨Nat.zero_le _,okk,?_⟩
   rw[ee]
   have g4:=g2.more (L:=[.lst []])
   have gw4:=ae (a:=.lst []) gw2
   generalize B2++[MO.lst []]=B4 at g4 gw4
   cases he:sts.isEmpty with
   | true =>
    refine bQ ?_
    by_cases h7:kind < 7
    ·rw[decide_eq_true h7]
     exact bQ (four rfl g4 gw4)
    ·rw[decide_eq_false h7]
     exact bH (six g4 gw4)
   | false=>exact bH (six g4 gw4)
theorem Dm(T:Tops P w K mg base):Cal P w K mg base 4 "_law_act" AD rX :=
 Cal.byD (N:=["_law_held","_law_house_here","_law_hands_here","_law_says","_law_done","_law_kind","_law_names_here","_law_room","_law_under","_law_sort"]) T.b T.f_act (by walk_at "sc") AZ (by have:=cY T; have:=vm T; have:=vh T; have:=vj T; have:=vb T; have:=AG T; walk_at "dv") Cf
def gs:DSp:=fun ds M R=>∃ (ps:List (Str×Int)) (r:List D),ds=[.tup (.tup (ps.map fV)::r)]/\Few ps/\R (.ref M.length) (M++[.lst (av ps)])
theorem vJ:dB gs oS:=by rintro ds M R ⟨ps,r,rfl,_⟩; rfl
def mD:DTS:=bC (ac 1)
def mE:DTS:=aB (nR (cJ (dOp qIx (ac 0) (dC (.int 0)))) (nN 2 (bT (au 2) (bT (au 3) nO))) (jk (dMl iJ (ac 1) (ab (dLC 1 [2] (dm (ab (ac 3) ah)) (au 0) tw (eY (ab (ac 1) (ab (ac 0) ah)))) ah)))) (mD)
def um:DTS:=aB (aZ (ji ah) 1) (mE)
theorem wY:WpT gs 4 um:=by
 rintro ds M R ⟨ps,r,rfl,⟨h4,h3⟩,h⟩
 simp only[um,mE]
 walk_at "dl"
 refine⟨Nat.zero_le _,fun _=>?_⟩
 have hb:∀ qs:List (Str×Int),(∀ p∈qs,p∈ps)->qs.length<=4->(av qs).length<=12:=fun qs h1 h2=>by
  have:=kE (ps:=qs) fun p hp=>h3 p (h1 p hp)
  lia
 refine iq (fun ys S M'=>∃ qs rs a b L,ps=qs++rs/\ys=rs.map fV/\M'=M++.lst (av qs)::L/\S=[some (.tup (.tup (ps.map fV)::r)),some (.ref M.length),a,b]) ?_ ?_ _ _ _ ⟨[],ps,_,_,[],rfl,rfl,rfl,rfl⟩
 ·rintro S M' ⟨qs,rs,a,b,L,e,hq,rfl,rfl⟩
  have:rs=[]:=by cases rs <;> simp_all
  subst this
  rw[List.append_nil] at e
  subst e
  refine⟨trivial,?_⟩
  simp only[mD]
  walk_at "dl"
  exact bx.lst h (Nat.le_refl _) gJ sW
 ·rintro x xs S M' ⟨qs,rs,a,b,L,e,hq,rfl,rfl⟩ G hG
  cases rs with
  | nil=>cases hq
  | cons p rs =>
   rw[List.map_cons] at hq
   injection hq with e1 e2
   subst e1
   have hp:=h3 p (by rw[e]; simp)
   refine⟨trivial,?_⟩
   unfold fV
   walk_at "dl"
   refine⟨trivial,⟨_,.inl gJ⟩,⟨by lia,by lia⟩,?_⟩
   refine cw (fun k=>.tup [.str p.1,k]) (fun S=>∃ a,S=[a,some (.str p.1)]) trivial _ _ _ (fun k hk S hS=>?_) ⟨_,rfl⟩ ?_ ?_
   ·obtain⟨a,rfl⟩:=hS
    refine⟨[some k,some (.str p.1)],⟨_,rfl⟩,fun Y hY=>?_⟩
    walk_at "dl"
    exact⟨ap (by lia),hY⟩
   ·simp only[List.length_nil,fN]
    exact ap (by lia)
   ·rw[List.nil_append]
    have eh:(oq 0 p.2.toNat).map (fun k=>D.tup [.str p.1,k])=dc p:=rfl
    rw[eh]
    have l1:=hb qs (fun z hz=>by rw[e]; exact List.mem_append_left _ hz) (by have:=congrArg List.length e; rw[List.length_append] at this; lia)
    have l2:(dc p).length<=3:=by rw[fv]; lia
    rw[List.append_assoc,List.cons_append]
    refine⟨_,dc p,gJ,?_,?_,ap (by lia),?_⟩
    ·rw[← List.cons_append,← List.append_assoc]; exact af
    ·rw[List.length_append,List.length_cons]; lia
    ·rw[iG]
     refine Fgt.now (hG _ _ ⟨qs++[p],rs,_,_,L++[.lst (dc p)],by rw[List.append_assoc]; exact e,e2,?_,rfl⟩)
     rw[show av (qs++[p])=av qs++dc p by simp[av]]
theorem qQ(T:Tops P w K mg base):Cal P w K mg base 1 "_law_hands" oS gs :=
 Cal.byD (N:=["_law_house_here","_law_found","_law_name_here","_law_many"]) T.b T.f_hands (by walk_at "sc") vJ (by walk_at "dv") wY
structure LogS(ps:List (Str×Int))(rs:List (Str×List Str))(log:List D):Prop where
 dk:∀ d∈log,aT ps rs d
 up:log.Pairwise fun a b=>enc eqN (stD a) < enc eqN (stD b)
 len:log.length<=60
def rV:DSp:=fun ds M R=>∃ (ps:List (Str×Int)) (rs:List (Str×List Str)) (p tq:Nat) (cs:List Int),ds=[.ref p,aF ps rs]/\HouseF ps rs/\ao M p (cs.map .int)/\p≠tq/\cs.length<=60/\M[tq]?=some (.tb (Str.ofString "_law_log") false)/\∀ log,LogS ps rs log->R (.tup log) (M.set tq (.tb (Str.ofString "_law_log") true))
theorem AW:dB rV AA:=by rintro ds M R ⟨ps,rs,p,tq,cs,rfl,_⟩; rfl
def dA:D->Int
 | .tup (.int t::_)=>t
 | _=>0
def hdO:D->D
 | .tup (_::h::_)=>h
 | _=>.non
theorem jd(hf:HouseF ps rs):Few ps/\1<=(av ps).length/\(av ps).length<=12:=by
 have few:Few ps:=⟨hf.len.2,fun q hq=>⟨by have:=hf.many q hq; lia,(hf.many q hq).2⟩⟩
 have hln:=kE few.2
 refine⟨few,?_,by have:=few.1; lia⟩
 match ps,hf with
 | [],hf=>have:=hf.len.1; simp at this
 | p::ps,hf =>
  have:=(hf.many p (by simp)).1
  rw[av,List.flatMap_cons,List.length_append,fv]
  lia
structure GenD(ps:List (Str×Int))(rs:List (Str×List Str))(deeds sts:List D)(las cnt:List (D×D))(n:Nat):Prop where
 dk:∀ d∈deeds,aT ps rs d
 nd:(deeds.map stD).Nodup
 la:∀ d∈deeds,∃ v:Int,bj las (hdO d)=some (.int v)/\dA d<=v
 lv:∀ x∈las,∃ v:Int,x.2=.int v/\0<=v
 cv:∀ x∈cnt,∃ v:Int,x.2=.int v/\0<=v/\v<=n
 so:∀ x∈sts,St x
 dl:deeds.length<=n
 sl:sts.length<=n
 ll:las.length<=n
 cl:cnt.length<=n
theorem GenD.next{ps:List (Str×Int)}{rs:List (Str×List Str)}{deeds sts sts':List D}{las cnt:List (D×D)}{n:Nat}{t num:Int}{z x:Str}{k c:Int}{dl:List D}(g:GenD ps rs deeds sts las cnt n)(hx:D.tup [.str z,.int k]∈av ps)(t1:1<=t)(tv:∀ v:Int,bj las (.tup [.str z,.int k])=some (.int v)->v < t)(c0:0<=c)(c1:c<=n)(hp:jG 4 dl)(ha:ActK rs x dl)
  (s1:∀ x∈sts',St x) (s2:sts'.length<=n+1) :
  GenD ps rs (deeds++[.tup [.int t,.tup [.str z,.int k],.int num,.tup (.str x::dl)]]) sts' (fh las (.tup [.str z,.int k]) (.int t)) (fh cnt (.tup [.str z,.int k]) (.int (c+1))) (n+1):=by
 have h1:=g.dl
 have h2:=g.ll
 have h3:=g.cl
 refine⟨fun d hd=>?_,?_,fun d hd=>?_,fun y hy=>?_,fun y hy=>?_,s1,by rw[List.length_append,List.length_singleton]; lia,s2,?_,?_⟩
 ·rcases List.mem_append.mp hd with hd | hd
  ·exact g.dk d hd
  ·rw[show d=_ from by simpa using hd]
   exact⟨_,_,_,_,_,_,rfl,t1,hx,hp,ha⟩
 ·rw[List.map_append]
  refine List.nodup_append.mpr ⟨g.nd,by simp,fun a ha b hb e=>?_⟩
  obtain⟨d,hd,rfl⟩:=List.mem_map.mp ha
  rw[show b=_ from by simpa using hb] at e
  obtain⟨t',z',k',num',x',ds',rfl,_⟩:=g.dk d hd
  obtain⟨v,e1,e2⟩:=g.la _ hd
  simp only[stD,D.tup.injEq,List.cons.injEq,D.int.injEq,D.str.injEq,and_true] at e
  obtain⟨rfl,rfl,rfl⟩:=e
  have:=tv v e1
  simp only[dA] at e2
  lia
 ·rcases List.mem_append.mp hd with hd | hd
  ·obtain⟨v,e1,e2⟩:=g.la d hd
   by_cases e:hdO d=.tup [.str z,.int k]
   ·rw[e] at e1 ⊢
    exact⟨t,il,by have:=tv v e1; lia⟩
   ·exact⟨v,by rw[je e]; exact e1,e2⟩
  ·rw[show d=_ from by simpa using hd]
   exact⟨t,il,Int.le_refl _⟩
 ·rcases fR hy with rfl | hy
  ·exact⟨t,rfl,by lia⟩
  ·exact g.lv y hy
 ·rcases fR hy with rfl | hy
  ·exact⟨c+1,rfl,by lia,by lia⟩
  ·obtain⟨v,e1,e2,e3⟩:=g.cv y hy
   exact⟨v,e1,e2,by lia⟩
 ·have:=lc (kvs:=las) (k:=.tup [.str z,.int k]) (d:=.int t)
  lia
 ·have:=lc (kvs:=cnt) (k:=.tup [.str z,.int k]) (d:=.int (c+1))
  lia
structure LgD(M B:Mem)(hs deeds sts:List D)(las cnt:List (D×D)):Prop where
 pre:M <+: B
 hs:B[M.length]?=some (.lst hs)
 las:B[M.length+1]?=some (.dkt las)
 cnt:B[M.length+2]?=some (.dkt cnt)
 sts:B[M.length+3]?=some (.lst sts)
 deeds:B[M.length+4]?=some (.lst deeds)
section
variable{M B:Mem}{hs deeds sts:List D}{las cnt:List (D×D)}{q:Nat}{x:MO}
theorem LgD.more(g:LgD M B hs deeds sts las cnt):LgD M (B++L) hs deeds sts las cnt :=
 ⟨g.pre.trans (List.prefix_append _ _),cI (List.prefix_append _ _) g.hs,cI (List.prefix_append _ _) g.las,cI (List.prefix_append _ _) g.cnt,cI (List.prefix_append _ _) g.sts,cI (List.prefix_append _ _) g.deeds⟩
theorem LgD.lt(g:LgD M B hs deeds sts las cnt):M.length+5<=B.length:=aW g.deeds
theorem LgD.set(g:LgD M B hs deeds sts las cnt)(h:M.length+5<=q):LgD M (B.set q x) hs deeds sts las cnt :=
 ⟨dH g.pre (by lia),ax (by lia) g.hs,ax (by lia) g.las,ax (by lia) g.cnt,ax (by lia) g.sts,ax (by lia) g.deeds⟩
theorem LgD.setD(g:LgD M B hs deeds sts las cnt):LgD M (B.set (M.length+4) (.lst ds')) hs ds' sts las cnt :=
 ⟨dH g.pre (by lia),ax (by lia) g.hs,ax (by lia) g.las,ax (by lia) g.cnt,ax (by lia) g.sts,dU g.deeds⟩
theorem LgD.setS(g:LgD M B hs deeds sts las cnt):LgD M (B.set (M.length+3) (.lst ds')) hs deeds ds' las cnt :=
 ⟨dH g.pre (by lia),ax (by lia) g.hs,ax (by lia) g.las,ax (by lia) g.cnt,dU g.sts,ax (by lia) g.deeds⟩
theorem LgD.setC(g:LgD M B hs deeds sts las cnt):LgD M (B.set (M.length+2) (.dkt kvs)) hs deeds sts las kvs :=
 ⟨dH g.pre (by lia),ax (by lia) g.hs,ax (by lia) g.las,dU g.cnt,ax (by lia) g.sts,ax (by lia) g.deeds⟩
theorem LgD.setL(g:LgD M B hs deeds sts las cnt):LgD M (B.set (M.length+1) (.dkt kvs)) hs deeds sts kvs cnt :=
 ⟨dH g.pre (by lia),ax (by lia) g.hs,dU g.las,ax (by lia) g.cnt,ax (by lia) g.sts,ax (by lia) g.deeds⟩
end
theorem Bj{kvs:List (D×D)}(h:∀ x∈kvs,∃ v:Int,x.2=.int v/\0<=v):∃ vs:List Int,kvs.map (·.2)=vs.map D.int:=by
 induction kvs with
 | nil=>exact⟨[],rfl⟩
 | cons p kvs ih =>
  obtain⟨v,e,_⟩:=h p (by simp)
  obtain⟨vs,e2⟩:=ih fun x hx=>h x (List.mem_cons_of_mem _ hx)
  exact⟨v::vs,by rw[List.map_cons,List.map_cons,e,e2]⟩
def qr:DTS:=bC (dCB fP (ab (ip "_law_log" ["_law_deed"] (dSl (ac 0) dY (jE (dC (.int 2)))) (ab (ac 6) ah)) ah))
def qt:DTS:=dIf (aA (dOp qEq (dOp qIx (ac 12) (dC (.int 0))) (dC (.str "say")))) (jk (dMl cr (ac 5) (ab (eY (ab (ac 11) (ab (ac 9) ah))) ah))) bg
def qu:DTS:=aB (pI (ac 4) (ac 9) (dOp bc (dMt fQ (ac 4) (ab (ac 9) (ab (dC (.int 0)) ah))) (dC (.int 1)))) (qt)
def qv:DTS:=aB (pI (ac 3) (ac 9) (ac 11)) (qu)
def qw:DTS:=aB (jk (dMl cr (ac 6) (ab (eY (ab (ac 11) (ab (ac 9) (ab (dMt fQ (ac 4) (ab (ac 9) (ab (dC (.int 0)) ah))) (ab (ac 12) ah))))) ah))) (qv)
def kT:DTS:=aB (aZ (dCB rX (ab (ac 8) (ab (ac 1) (ab (ac 2) (ab (ac 5) (ab (ac 4) ah)))))) 12) (qw)
def tV:DTS:=aB (dIf (aA (dOp qEq (ac 10) (dC (.int 3)))) (aZ (dOp bc (dC (.int 1)) (dCB sE (ab (dOp bc (ji (ab (dC (.int 0)) ah)) (gi (ac 3))) ah))) 11) bg) (kT)
def tW:DTS:=aB (aZ (dOp bc (dOp bc (dMt fQ (ac 3) (ab (ac 9) (ab (dC (.int 0)) ah))) (dC (.int 1))) (dCB aq (ab (ac 8) (ab (dOp qIx (ji (ab (dC (.int 3)) (ab (dC (.int 6)) (ab (dOp Ah (dC (.int 10)) (dC (.int 7))) (ab (dC (.int 1)) ah))))) (ac 10)) ah)))) 11) (tV)
def tX:DTS:=aB (aZ (dCB aq (ab (ac 8) (ab (dC (.int 4)) ah))) 10) (tW)
def oB:DTS:=aB (aZ (dOp qIx (ac 2) (dCB aq (ab (ac 8) (ab (dCB kr (ab (ac 2) ah)) ah)))) 9) (tX)
def tY:DTS:=aB (nR (cJ (ac 0)) (au 7) (aB (aZ (dCB cQ (ab (ac 7) ah)) 8) (oB))) (qr)
def tZ:DTS:=aB (aZ (ji ah) 6) (tY)
def ua:DTS:=aB (aZ (ji ah) 5) (tZ)
def ub:DTS:=aB (aZ (pJ) 4) (ua)
def uc:DTS:=aB (aZ (pJ) 3) (ub)
def Cl:DTS:=aB (aZ (dCB gs (ab (ac 1) ah)) 2) (uc)
theorem yZ{M B:Mem}{E:DEnds}{deeds sts hs:List D}{las cnt:List (D×D)}{n q:Nat}{t way:Int}{z:Str}{k:Int}{ps:List (Str×Int)}{rs:List (Str×List Str)}{y0 y7 y12:Option D}(g:LgD M B hs deeds sts las cnt)(G:GenD ps rs deeds sts las cnt n)(hf:HouseF ps rs)(hh:∀ x∈hs,Hd x)(h1:1<=hs.length)(h12:hs.length<=12)(n60:n < 60)(hd:HdP B q)(qM:M.length+5<=q)(hx:D.tup [.str z,.int k]∈av ps)(t1:1<=t)(tv:∀ v:Int,bj las (.tup [.str z,.int k])=some (.int v)->v < t)
  (hE:∀ deeds' sts' las' cnt' B' y,LgD M B' hs deeds' sts' las' cnt'->GenD ps rs deeds' sts' las' cnt' (n+1)->E.nx [y0,some (aF ps rs),some (.ref M.length),some (.ref (M.length+1)),some (.ref (M.length+2)),some (.ref (M.length+3)),some (.ref (M.length+4)),y7,some (.ref q),some (.tup [.str z,.int k]),some (.int way),some (.int t),y] B') :
  kT E [y0,some (aF ps rs),some (.ref M.length),some (.ref (M.length+1)),some (.ref (M.length+2)),some (.ref (M.length+3)),some (.ref (M.length+4)),y7,some (.ref q),some (.tup [.str z,.int k]),some (.int way),some (.int t),y12] B:=by
 have dl:=G.dl
 have sl:=G.sl
 have ll:=G.ll
 have cl:=G.cl
 simp only[kT]
 walk_at "dl"
 refine⟨q,_,_,_,ps,rs,hs,sts,cnt,rfl,hd,hf,⟨by lia,by lia,by lia⟩,.inl g.hs,hh,h1,h12,.inl g.sts,G.so,by lia,g.cnt,fun x hx=>by obtain⟨v,e1,e2,e3⟩:=G.cv x hx; exact⟨v,e1,e2,by lia⟩,fun x dl' n' hp ha=>?_⟩
 have g1:=g.set (x:=.lst [.int n']) qM
 generalize B.set q (.lst [.int n'])=B1 at g1
 have hg:∃ c:Int,(bj cnt (.tup [.str z,.int k])).getD (.int 0)=.int c/\0<=c/\c<=n:=by
  cases e:bj cnt (.tup [.str z,.int k]) with
  | none=>exact⟨0,rfl,by decide,by lia⟩
  | some d=>exact G.cv _ (bK e)
 obtain⟨c,ec,c0,c1⟩:=hg
 simp only[qw]
 walk_at "dl"
 refine⟨⟨_,.inl g1.deeds⟩,⟨_,g1.cnt⟩,_,g1.cnt,rfl,?_⟩
 rw[ec]
 refine⟨ap (by lia),_,g1.deeds,aO (by lia),?_⟩
 have g2:=g1.setD (ds':=deeds++[.tup [.int t,.tup [.str z,.int k],.int c,.tup (.str x::dl')]])
 generalize B1.set (M.length+4) _=B2 at g2
 simp only[qv]
 walk_at "dl"
 refine⟨_,g2.las,rfl,aO (by lia),?_⟩
 have g3:=g2.setL (kvs:=fh las (.tup [.str z,.int k]) (.int t))
 generalize B2.set (M.length+1) _=B3 at g3
 simp only[qu]
 walk_at "dl"
 refine⟨⟨_,g3.cnt⟩,_,g3.cnt,rfl,?_⟩
 rw[ec]
 refine⟨_,g3.cnt,rfl,aO (by lia),?_⟩
 have g4:=g3.setC (kvs:=fh cnt (.tup [.str z,.int k]) (.int (c+1)))
 generalize B3.set (M.length+2) _=B4 at g4
 simp only[qt]
 walk_at "dl"
 refine⟨⟨az,az⟩,?_⟩
 generalize eqD B4 eqN (.str x) (.str (Str.ofString "say"))=bs
 cases bs with
 | true =>
  refine bQ ⟨⟨_,.inl g4.sts⟩,ap (by lia),_,g4.sts,aO (by lia),?_⟩
  refine hE _ _ _ _ _ _ g4.setS (G.next hx t1 tv c0 c1 hp ha (fun y hy=>?_) (by rw[List.length_append,List.length_singleton]; lia))
  rcases List.mem_append.mp hy with hy | hy
  ·exact G.so y hy
  ·rw[show y=_ from by simpa using hy]; exact⟨_,_,_,rfl⟩
 | false=>exact bH (hE _ _ _ _ _ _ g4 (G.next hx t1 tv c0 c1 hp ha G.so (by lia)))
theorem xP{M B:Mem}{E:DEnds}{deeds sts:List D}{las cnt:List (D×D)}{n:Nat}{cell:Int}{ps:List (Str×Int)}{rs:List (Str×List Str)}{y0 y8 y9 y10 y11 y12:Option D}(g:LgD M B (av ps) deeds sts las cnt)(G:GenD ps rs deeds sts las cnt n)(hf:HouseF ps rs)(n60:n < 60)
  (hE:∀ deeds' sts' las' cnt' B' a b c d y,LgD M B' (av ps) deeds' sts' las' cnt'->GenD ps rs deeds' sts' las' cnt' (n+1)->E.nx [y0,some (aF ps rs),some (.ref M.length),some (.ref (M.length+1)),some (.ref (M.length+2)),some (.ref (M.length+3)),some (.ref (M.length+4)),some (.int cell),a,b,c,d,y] B') :
  (aB (aZ (dCB cQ (ab (ac 7) ah)) 8) (oB)) E [y0,some (aF ps rs),some (.ref M.length),some (.ref (M.length+1)),some (.ref (M.length+2)),some (.ref (M.length+3)),some (.ref (M.length+4)),some (.int cell),y8,y9,y10,y11,y12] B:=by
 obtain⟨few,n1,n12⟩:=jd hf
 have hh:∀ x∈av ps,Hd x:=lM
 have ll:=G.ll
 walk_at "dl"
 refine⟨cell,rfl,fun n'=>?_⟩
 have hd0:HdP (B++[MO.lst [.int n']]) B.length:=⟨n',af⟩
 have g0:=g.more (L:=[.lst [.int n']])
 have qM:=g.lt
 generalize B++[MO.lst [D.int n']]=B0 at g0 hd0
 generalize B.length=q at hd0 qM
 have ql:=hd0.lt
 have hl0:=hd0.start
 have keep:∀ {C:Mem},Hl B0 C q->LgD M C (av ps) deeds sts las cnt:=fun {C} h=>by
  obtain⟨n2,L,rfl⟩:=h
  exact(g0.set (x:=.lst [.int n2]) qM).more
 simp only[oB]
 walk_at "dl"
 refine⟨_,.inl g0.hs,q,_,rfl,hd0,by lia,by lia,fun i m i0 i1=>?_⟩
 have h1:=hl0.set (n:=m) ql
 generalize B0.set q (.lst [.int m])=B1 at h1
 obtain⟨j,hj,ej,_⟩:=fe (xs:=av ps) i0 i1
 have hx:=List.getElem_mem hj
 refine⟨_,.inl (keep h1).hs,?_⟩
 rw[ej]
 obtain⟨z,k,ez⟩:=hh _ hx
 rw[ez] at hx ⊢
 simp only[tX]
 walk_at "dl"
 refine⟨q,4,rfl,h1.hd ql,by decide,by decide,fun way m w0 w1=>?_⟩
 have h2:=h1.set (n:=m) ql
 generalize B1.set q (.lst [.int m])=B2 at h2
 have hl:∃ v:Int,(bj las (.tup [.str z,.int k])).getD (.int 0)=.int v/\0<=v/\∀ u:Int,bj las (.tup [.str z,.int k])=some (.int u)->u=v:=by
  cases e:bj las (.tup [.str z,.int k]) with
  | none=>exact⟨0,rfl,by decide,fun u w=>by cases w⟩
  | some d =>
   obtain⟨v,ev,v0⟩:=G.lv _ (bK e)
   exact⟨v,ev,v0,fun u w=>by rw[show d=.int v from ev] at w; cases w; rfl⟩
 obtain⟨v,ev,v0,vu⟩:=hl
 simp only[tW]
 walk_at "dl"
 refine⟨⟨_,(keep h2).las⟩,_,(keep h2).las,rfl,?_⟩
 rw[ev]
 have ex:∃ m:Int,atI [D.int 3,.int 6,.int (10 ^ Int.toNat 7),.int 1] way=some (.int m)/\0 < m/\m < 100000000000:=by
  have:way=0\/way=1\/way=2\/way=3:=by lia
  rcases this with rfl | rfl | rfl | rfl
  ·exact⟨_,ay (j:=0) rfl,by decide,by decide⟩
  ·exact⟨_,ay (j:=1) rfl,by decide,by decide⟩
  ·exact⟨_,ay (j:=2) rfl,by decide,by decide⟩
  ·exact⟨_,ay (j:=3) rfl,by decide,by decide⟩
 obtain⟨m0,em,mp,ml⟩:=ex
 refine⟨⟨by decide,by decide,by decide⟩,ap (by lia),_,aC,?_⟩
 rw[em]
 refine⟨q,m0,rfl,(h2.more).hd ql,mp,ml,fun a m a0 a1=>?_⟩
 have h3:=(h2.more (L:=[.lst [D.int 3,.int 6,.int (10 ^ Int.toNat 7),.int 1]])).set (n:=m) ql
 generalize (B2++[MO.lst [D.int 3,.int 6,.int (10 ^ Int.toNat 7),.int 1]]).set q (.lst [.int m])=B3 at h3
 simp only[tV]
 walk_at "dl"
 refine⟨⟨rfl,rfl⟩,?_⟩
 generalize eqD B3 eqN (.int way) (.int 3)=b3
 cases b3 with
 | false =>
  refine bH ?_
  exact yZ (keep h3) G hf hh n1 n12 n60 (h3.hd ql) qM hx (by lia) (fun u w=>by rw[vu u w]; lia) fun d' s' l' c' B' y g' G'=>hE _ _ _ _ _ _ _ _ _ _ g' G'
 | true =>
  obtain⟨vs,evs⟩:=Bj G.lv
  have vl:vs.length=las.length:=by have:=congrArg List.length evs; rw[List.length_map,List.length_map] at this; exact this.symm
  have h4:=h3.more (L:=[.lst [.int 0]])
  have g4:=keep h4
  have e0:(B3++[MO.lst [D.int 0]])[B3.length]?=some (.lst [.int 0]):=af
  generalize B3++[MO.lst [D.int 0]]=B4 at h4 g4 e0
  generalize B3.length=r4 at e0
  refine bQ ⟨ap (by lia),_,g4.las,?_⟩
  rw[evs]
  have h5:=h4.more (L:=[.lst (vs.map .int)])
  have e5:=ae (a:=.lst (vs.map .int)) e0
  have e6:(B4++[MO.lst (vs.map .int)])[B4.length]?=some (.lst (vs.map .int)):=af
  generalize B4++[MO.lst (vs.map .int)]=B5 at h5 e5 e6
  generalize B4.length=r5 at e6
  refine⟨_,_,e5,e6,ap (by rw[List.length_map,List.length_singleton]; lia),?_⟩
  have h6:=h5.more (L:=[.lst ([.int 0]++vs.map .int)])
  have e7:(B5++[MO.lst ([D.int 0]++vs.map .int)])[B5.length]?=some (.lst ((0::vs).map .int)):=af
  generalize B5++[MO.lst ([D.int 0]++vs.map .int)]=B6 at h6 e7
  refine⟨0::vs,.inl e7,by simp,fun mx mm mall=>?_⟩
  have mx0:=mall 0 (by simp)
  refine yZ (keep h6) G hf hh n1 n12 n60 (h6.hd ql) qM hx (by lia) (fun u w=>?_) fun d' s' l' c' B' y g' G'=>hE _ _ _ _ _ _ _ _ _ _ g' G'
  have hu:D.int u∈las.map (·.2):=List.mem_map_of_mem (f:=(·.2)) (bK w)
  rw[evs] at hu
  obtain⟨u',hu',eu⟩:=List.mem_map.mp hu
  cases eu
  have:=mall u (List.mem_cons_of_mem _ hu')
  lia
theorem Cc:WpT rV 13 Cl:=by
 rintro ds M R ⟨ps,rs,p,tq,cs,rfl,hf,hp,pt,cl,ht,h⟩
 obtain⟨few,n1,n12⟩:=jd hf
 simp only[Cl,aF]
 walk_at "dl"
 refine⟨ps,_,rfl,few,?_⟩
 simp only[uc,ub,ua,tZ]
 walk_at "dl"
 refine⟨Nat.zero_le _,Nat.zero_le _,?_⟩
 have e1:(M++[MO.lst (av ps)]).length=M.length+1:=by simp
 have e2:(M++[MO.lst (av ps)]++[MO.dkt []]).length=M.length+2:=by simp
 have e3:(M++[MO.lst (av ps)]++[MO.dkt []]++[MO.dkt []]).length=M.length+3:=by simp
 have e4:(M++[MO.lst (av ps)]++[MO.dkt []]++[MO.dkt []]++[MO.lst []]).length=M.length+4:=by simp
 rw[e1,e2,e3,e4]
 have g0:LgD M (M++[MO.lst (av ps)]++[MO.dkt []]++[MO.dkt []]++[MO.lst []]++[MO.lst []]) (av ps) [] [] [] []:=by
  refine⟨(((fS.trans fS).trans fS).trans fS).trans fS,ae (ae (ae (ae af))),?_,?_,?_,?_⟩
  ·rw[← e1]; exact ae (ae (ae af))
  ·rw[← e2]; exact ae (ae af)
  ·rw[← e3]; exact ae af
  ·rw[← e4]; exact af
 generalize M++[MO.lst (av ps)]++[MO.dkt []]++[MO.dkt []]++[MO.lst []]++[MO.lst []]=B0 at g0
 simp only[tY]
 walk_at "dl"
 refine⟨_,dR g0.pre hp,fun _=>?_⟩
 refine bD (fun i S M'=>∃ (deeds sts:List D) (las cnt:List (D×D)) (a b c d e f:Option D),LgD M M' (av ps) deeds sts las cnt/\GenD ps rs deeds sts las cnt i/\S=[some (.ref p),some (aF ps rs),some (.ref M.length),some (.ref (M.length+1)),some (.ref (M.length+2)),some (.ref (M.length+3)),some (.ref (M.length+4)),a,b,c,d,e,f]) ?_ ?_ ⟨[],[],[],[],_,_,_,_,_,_,g0,⟨(fun _ z=>nomatch z),.nil,(fun _ z=>nomatch z),(fun _ z=>nomatch z),(fun _ z=>nomatch z),(fun _ z=>nomatch z),Nat.le_refl _,Nat.le_refl _,Nat.le_refl _,Nat.le_refl _⟩,rfl⟩
 ·rintro S M' ⟨deeds,sts,las,cnt,a,b,c,d,e,f,g,G,rfl⟩
  rw[List.length_map] at G
  have dl:=G.dl
  refine⟨dR g.pre hp,?_⟩
  simp only[qr]
  walk_at "dl"
  have tl:=aW ht
  have gd:(M'.set tq (.tb (Str.ofString "_law_log") true))[M.length+4]?=some (.lst deeds):=ax (by lia) g.deeds
  have hS:∀ x∈deeds.map stD,St x:=fun x hx=>by
   obtain⟨d,hd,rfl⟩:=List.mem_map.mp hx
   exact(G.dk d hd).st
  refine⟨tq,deeds,stD,cI g.pre ht,.inr ⟨_,rfl,.inl gd⟩,fun d hd=>?_,(kW hS (by rw[List.length_map]; lia)).g,fun ys hy hr=>?_⟩
  ·obtain⟨t,z,k,num,x,ds,rfl,_⟩:=G.dk d hd
   walk_at "dl"
   exact .inl ⟨rfl,rfl⟩
  ·have ml:M'.length=(M'.set tq (.tb (Str.ofString "_law_log") true)).length:=(List.length_set ..).symm
   refine⟨ys,by rw[ml]; exact aC,?_⟩
   have hk:∀ d∈ys,aT ps rs d:=fun d hd=>G.dk d (hy.mem_iff.mp hd)
   have nd:(ys.map stD).Nodup:=(hy.map _).nodup_iff.mpr G.nd
   have ls:LogS ps rs ys:=by
    refine⟨hk,?_,by rw[hy.length_eq]; lia⟩
    have n2:ys.Pairwise fun a b=>stD a≠stD b:=List.pairwise_map.mp (List.nodup_iff_pairwise_ne.mp nd)
    refine(List.Pairwise.and_mem.mp (hr.and n2)).imp fun {a b} ⟨ha,hb,q1,q2⟩=>?_
    have sa:=(hk a ha).st
    have sb:=(hk b hb).st
    have oa:okP eqN (stD a)=true:=by obtain⟨t,z,k,e⟩:=sa; rw[e]; rfl
    have ob:okP eqN (stD b)=true:=by obtain⟨t,z,k,e⟩:=sb; rw[e]; rfl
    rw[lG ob oa (sb.cm sa)] at q1
    have q3:=of_decide_eq_false q1
    refine Classical.byContradiction fun q4=>q2 ?_
    exact wz (M:=[]) oa ob (sa.cm sb) (List.le_antisymm (List.not_lt.mp q3) (List.not_lt.mp q4))
   obtain⟨L,hL⟩:=g.pre
   have eB:M'.set tq (.tb (Str.ofString "_law_log") true)=M.set tq (.tb (Str.ofString "_law_log") true)++L:=by rw[← hL,List.set_append_left _ _ tl]
   rw[eB]
   refine bx.chg (Chg.set .refl .nil) (h ys ls) (.tup (aT.bels hk)) ?_
   rw[List.append_assoc]
   exact List.prefix_append _ _
 ·rintro i y S M' hy ⟨deeds,sts,las,cnt,a,b,c,d,e,f,g,G,rfl⟩ K hK
  rw[List.getElem?_map] at hy
  obtain⟨cell,hc,rfl⟩:=Option.map_eq_some_iff.mp hy
  have hi:=(List.getElem?_eq_some_iff.mp hc).1
  refine⟨dR g.pre hp,?_⟩
  simp only[au,List.set_cons_zero,List.set_cons_succ]
  exact xP g G hf (by lia) fun d' s' l' c' B' a b c d y g' G'=>Fgt.now (hK _ _ ⟨d',s',l',c',_,_,_,_,_,_,g',G',rfl⟩)
theorem Dk(T:Tops P w K mg base):Cal P w K mg base 8 "_law_log" AA rV :=
 Cal.byL (N:=["_law_cells","_law_house_here","_law_hands_here","_law_last","_law_done","_law_says","_law_deeds","_law_cell","_law_held","_law_hand","_law_way","_law_time","_law_act_here"]) T.b T.f_log (by walk_at "sc") AW (by have:=T.bm; have:=mO T; have:=cY T; have:=Dm T; have:=qQ T; walk_at "dvl") Cc
def lZ:DSp:=fun ds M R=>∃ (ps:List (Str×Int)) (rs:List (Str×List Str)) (log:List D),ds=[.tup log]/\(∀ d∈log,aT ps rs d)/\log.length<=1000/\∀ n B,M <+: B->B[n]?=some (.dkt (ff log))->R (.ref n) B
theorem xS:dB lZ uX:=by rintro ds M R ⟨ps,rs,log,rfl,_⟩; rfl
def qf:DTS:=bC (ac 1)
def qg:DTS:=aB (nR (cJ (ac 0)) (nN 4 (bT (au 2) (bT (au 3) (bT (au 4) (bT (au 5) nO))))) (dIf (aA (dOp qEq (dOp qIx (ac 5) (dC (.int 0))) (dC (.str "say")))) (pI (ac 1) (eY (ab (ac 2) (ab (ac 3) ah))) (ac 5)) bg)) (qf)
def yP:DTS:=aB (aZ (pJ) 1) (qg)
theorem zR:WpT lZ 6 yP:=by
 rintro ds M R ⟨ps,rs,log,rfl,hd,hl,h⟩
 simp only[yP,qg]
 walk_at "dl"
 intro _
 refine bD (fun i S M'=>∃ a b c d,M'=M++[.dkt (ff (log.take i))]/\S=[some (.tup log),some (.ref M.length),a,b,c,d]) ?_ ?_ ⟨_,_,_,_,rfl,rfl⟩
 ·rintro S M' ⟨a,b,c,d,rfl,rfl⟩
  rw[List.take_length]
  refine⟨trivial,?_⟩
  simp only[qf]
  walk_at "dl"
  exact .inl (h _ _ fS af)
 ·rintro i y S M' hy ⟨a,b,c,d,rfl,rfl⟩ G hG
  have hm:=List.mem_of_getElem? hy
  have hi:=(List.getElem?_eq_some_iff.mp hy).1
  have et:log.take (i+1)=log.take i++[y]:=by rw[List.take_add_one,hy]; rfl
  rw[et,sB] at hG
  have sl:=xp (kinds (log.take i) (Str.ofString "say"))
  have kl:=bB (log:=log.take i) (k:=Str.ofString "say")
  rw[List.length_take] at kl
  rw[show ia (kinds (log.take i) (Str.ofString "say"))=ff (log.take i) from rfl] at sl
  generalize ff (log.take i)=kvs at hG sl
  obtain⟨t,z,k,num,x,ds,rfl,_⟩:=hd y hm
  refine⟨trivial,?_⟩
  walk_at "dl"
  refine⟨trivial,⟨az,az⟩,?_⟩
  rw[bp]
  have e1:bP (.tup [.int t,.tup [.str z,.int k],.int num,.tup (.str x::ds)])=x:=rfl
  rw[e1] at hG
  by_cases e:x=Str.ofString "say"
  ·rw[beq_iff_eq.mpr e]
   rw[if_pos e] at hG
   refine bQ ⟨ap (by lia),_,af,rfl,aO (by lia),?_⟩
   rw[iG]
   exact Fgt.now (hG _ _ ⟨_,_,_,_,rfl,rfl⟩)
  ·rw[beq_eq_false_iff_ne.mpr e]
   rw[if_neg e] at hG
   exact bH (Fgt.now (hG _ _ ⟨_,_,_,_,rfl,rfl⟩))
theorem AH(T:Tops P w K mg base):Cal P w K mg base 1 "_law_said" uX lZ :=
 Cal.byD (N:=["_law_log_here","_law_found","_law_time","_law_hand","_law_number","_law_act_here"]) T.b T.f_said (by walk_at "sc") xS (by walk_at "dv") zR
def gk:DSp:=fun ds M R=>∃ (ps:List (Str×Int)) (rs:List (Str×List Str)) (log:List D) (n:Nat) (e:D),ds=[aF ps rs,.ref n,stD e]/\HouseF ps rs/\(∀ d∈log,aT ps rs d)/\Ris log/\M[n]?=some (.dkt (ff log))/\e∈kinds log (Str.ofString "say")/\∀ b:Bool,(b=true↔Stn rs (kinds log (Str.ofString "say")) e)->R (.bl b) M
theorem sP:dB gk lq:=by rintro ds M R ⟨ps,rs,log,n,e,rfl,_⟩; rfl
def jv(r:Str×List Str):Str×D:=(r.1,.tup (r.2.map .str))
theorem yu(ps:List (Str×D))(h:(ps.map (·.1)).Nodup):fx ps=ps:=by
 revert h
 refine cB (P:=fun ps=>(ps.map (·.1)).Nodup->fx ps=ps) (fun _=>rfl) (fun ps p ih h=>?_) ps
 rw[List.map_append] at h
 have h':=List.nodup_append.mp h
 rw[kG,ih h'.1]
 unfold uO
 rw[if_neg]
 intro z
 obtain⟨q,hq,e⟩:=List.any_eq_true.mp z
 exact h'.2.2 _ (List.mem_map_of_mem hq) p.1 (by simp) (of_decide_eq_true e)
theorem sC{rs:List (Str×List Str)}(h:(rs.map (·.1)).Nodup):fx (rs.map jv)=rs.map jv:=yu _ (by rw[List.map_map]; exact h)
theorem mL:∀ {rs:List (Str×List Str)},r∈rs.map (·.1)->yM (rs.map jv) r=some (.tup ((lF rs r).map .str))
 | p::rs,h=>by
  rw[mT]
  unfold yM
  rw[List.map_cons,List.find?_cons]
  by_cases e:p.1=r
  ·rw[if_pos e,show decide ((jv p).1=r)=true from decide_eq_true e]; rfl
  ·rw[if_neg e,show decide ((jv p).1=r)=false from decide_eq_false e]
   rw[List.map_cons,List.mem_cons] at h
   exact mL (h.resolve_left (Ne.symm e))
theorem uK{rs:List (Str×List Str)}:rs.map jw=(rs.map jv).map fun p=>.tup [.str p.1,p.2]:=by
 rw[List.map_map]; rfl
noncomputable def Er(l:List D)(k:D):Nat:=(l.filter fun x=>decide (enc eqN (stD x) < enc eqN k)).length
theorem Ep(hx:x∈l)(h:enc eqN (stD x) < enc eqN k):Er l (stD x) < Er l k :=
 ww (p:=fun y=>decide (enc eqN (stD y) < enc eqN (stD x))) (q:=fun y=>decide (enc eqN (stD y) < enc eqN k)) (x:=x) (fun y hy=>decide_eq_true (List.lt_trans (of_decide_eq_true hy) h)) (decide_eq_true h) (decide_eq_false (List.lt_irrefl _)) hx
def OkU(rs:List (Str×List Str))(l:List D)(room:Str)(u:D):Prop:=u=.non\/∃ e,stD e=u/\Stn rs l e/\bU e=room
theorem AU(ha:St a)(hb:St b):(okD M eqN a=true/\okD M eqN b=true/\gu M eqN a b=true)/\ltD M eqN a b=decide (enc eqN a < enc eqN b):=by
 have oa:okP eqN a=true:=by obtain⟨t,z,k,e⟩:=ha; rw[e]; rfl
 have ob:okP eqN b=true:=by obtain⟨t,z,k,e⟩:=hb; rw[e]; rfl
 exact⟨⟨ha.ok,hb.ok,ha.cm hb⟩,lG oa ob (ha.cm hb)⟩
def jN:DTS:=bC (dC (.bl true))
def gx:DTS:=aZ (ac 5) 2
def jO:DTS:=aB (dIf (yD (aA (dOp kt (ac 5) (dC .non))) (ET (aA (dOp CD (ac 5) (ac 2))))) (bC (dC (.bl false))) bg) (gx)
def jP:DTS:=aB (aZ (dOp qIx (lT (ac 1) (ac 2)) (dC (.int 2))) 5) (jO)
def jQ:DTS:=aB (rN (aA (dOp kt (ac 2) (dC .non))) (aB (dIf (dOr (aA (dOp kY (ac 2) (ac 1))) (dOr (aA (dOp qNe (dOp qIx (lT (ac 1) (ac 2)) (dC (.int 1))) (ac 3))) (aA (dOp iI (dOp qIx (dOp qIx (ac 2) (dC (.int 1))) (dC (.int 0))) (ac 4))))) (bC (dC (.bl false))) bg) (jP))) (jN)
def jR:DTS:=aB (aZ (yC (dCB qO (ab (dOp qIx (ac 0) (dC (.int 1))) ah)) (ac 3)) 4) (jQ)
def qc:DTS:=aB (aZ (dOp qIx (lT (ac 1) (ac 2)) (dC (.int 1))) 3) (jR)
theorem tO:WpT gk 6 qc:=by
 rintro ds M R ⟨ps,rs,log,n,e,rfl,hf,hd,hr,hn,he,h⟩
 have rl:Ris (kinds log (Str.ofString "say")):=List.Pairwise.filter _ hr
 have hk:∀ d∈kinds log (Str.ofString "say"),aT ps rs d/\bP d=Str.ofString "say":=fun d q=>⟨hd d (aL q).1,(aL q).2⟩
 have sg:∀ d∈kinds log (Str.ofString "say"),bj (ff log) (stD d)=some (tH d):=qK rl
 have se:∀ k a,bj (ff log) k=some a->∃ d∈kinds log (Str.ofString "say"),k=stD d/\a=tH d:=fun k a q=>by
  obtain⟨d,hd,e⟩:=uJ _ _ (bK q)
  cases e
  exact⟨d,hd,rfl,rfl⟩
 generalize kinds log (Str.ofString "say")=l at rl hk he h sg se
 generalize ff log=T at hn sg se
 obtain⟨de,ke⟩:=hk e he
 have hr0:bU e∈rs.map (·.1):=by
  obtain⟨t,z,k,num,r,u,s,rfl,_,_,hr,_⟩:=eV de ke
  exact hr
 obtain⟨ks,ek⟩:=de.st.tup
 have key:=de.st.key
 have e0:=sg e he
 have ea:∃ u s,tH e=.tup [.str (Str.ofString "say"),.str (bU e),u,s]:=by
  obtain⟨t,z,k,num,r,u,s,rfl,_⟩:=eV de ke
  exact⟨u,.str s,rfl⟩
 obtain⟨u0,s0,ea⟩:=ea
 rw[ea,ek] at e0
 rw[ek] at key
 simp only[qc,aF]
 rw[ek]
 walk_at "dl"
 refine⟨T,_,hn,key,e0,?_⟩
 walk_at "dl"
 simp only[jR]
 walk_at "dl"
 refine⟨rs.map jv,uK,by rw[List.length_map]; have:=hf.rl.2; lia,?_⟩
 rw[sC hf.rnd]
 refine⟨_,_,af,mL hr0,?_⟩
 have hn2:=ae (a:=.dct (rs.map jv)) hn
 have pB:M <+: M++[MO.dct (rs.map jv)]:=fS
 generalize M++[MO.dct (rs.map jv)]=B at hn2 pB
 simp only[jQ]
 refine⟨fun m S M'=>∃ (u:D) (y:Option D),M'=B/\(u=.non\/St u)/\(∀ x∈l,stD x=u->Er l (stD x) < m)/\(Stn rs l e↔OkU rs l (bU e) u)/\S=[some (aF ps rs),some (.ref n),some u,some (.str (bU e)),some (.tup ((lF rs (bU e)).map .str)),y],⟨Er l (stD e)+1,stD e,none,rfl,.inr de.st,fun x _ q=>by rw[q]; lia,⟨fun s=>.inr ⟨e,rfl,s,rfl⟩,?_⟩,by rw[ek]; rfl⟩,?_⟩
 ·rintro(z | ⟨x,q1,q2,_⟩)
  ·rw[ek] at z; cases z
  ·rw[← rl.one x q2.mem e he q1]; exact q2
 rintro m S M' ⟨u,y,rfl,hu,hm,hi,rfl⟩
 have no:¬ OkU rs l (bU e) u->bx M R (.bl false) M':=fun q=>bx.bl (h false ⟨fun z=>(by cases z),fun s=>absurd (hi.mp s) q⟩) pB
 rcases hu with rfl | hu
 ·walk_at "dl"
  simp only[jN]
  walk_at "dl"
  exact bx.bl (h true ⟨fun _=>hi.mpr (.inl rfl),fun _=>rfl⟩) pB
 ·have hu':=hu
  obtain⟨t',z',k',rfl⟩:=hu
  walk_at "dl"
  refine⟨T,hn2,rfl,?_⟩
  cases hg:bj T (.tup [.int t',.tup [.str z',.int k']]) with
  | none =>
   refine bQ (no ?_)
   rintro(z | ⟨x,q1,q2,_⟩)
   ·cases z
   ·have:=sg x q2.mem
    rw[q1,hg] at this
    cases this
  | some a =>
   obtain⟨x,hx,q1,rfl⟩:=se _ _ hg
   have only:∀ y,stD y=.tup [.int t',.tup [.str z',.int k']]->Stn rs l y->y=x:=fun y q s=>rl.one y s.mem x hx (q.trans q1)
   obtain⟨t2,z2,k2,num2,r2,u2,s2,ex,_,_,_,hu2⟩:=eV (hk x hx).1 (hk x hx).2
   subst ex
   simp only[stD,D.tup.injEq,List.cons.injEq,D.int.injEq,D.str.injEq,and_true] at q1
   obtain⟨rfl,rfl,rfl⟩:=q1
   have hg2:bj T (.tup [.int t',.tup [.str z',.int k']])=some (.tup [.str (Str.ofString "say"),.str r2,u2,.str s2]):=hg
   refine bH ⟨T,_,hn2,rfl,hg2,?_⟩
   walk_at "dl"
   refine⟨⟨az,az⟩,?_⟩
   rw[bp]
   by_cases er:r2=bU e
   ·rw[beq_iff_eq.mpr er]
    refine bH ⟨⟨az,oJ⟩,?_⟩
    rw[pC]
    by_cases hm2:z'∈lF rs (bU e)
    ·rw[decide_eq_true hm2]
     refine bH ?_
     have mx:eM (.tup [.int t',.tup [.str z',.int k'],.int num2,.tup [.str (Str.ofString "say"),.str r2,u2,.str s2]])∈lF rs (bU (.tup [.int t',.tup [.str z',.int k'],.int num2,.tup [.str (Str.ofString "say"),.str r2,u2,.str s2]])):=by
      show z'∈lF rs r2
      rw[er]; exact hm2
     have next:(u2=.non\/enc eqN u2 < enc eqN (.tup [.int t',.tup [.str z',.int k']]))->∃ m',m' < m/\∃ (u:D) (y:Option D),True/\(u=.non\/St u)/\(∀ x∈l,stD x=u->Er l (stD x) < m')/\(Stn rs l e↔OkU rs l (bU e) u)/\[some (aF ps rs),some (.ref n),some u2,some (.str (bU e)),some (.tup ((lF rs (bU e)).map .str)),some u2]=[some (aF ps rs),some (.ref n),some u,some (.str (bU e)),some (.tup ((lF rs (bU e)).map .str)),y]:=fun lt=>by
      refine⟨_,hm _ hx rfl,u2,_,trivial,hu2,fun y hy q=>?_,?_,rfl⟩
      ·rcases lt with rfl | lt
       ·obtain⟨_,e3⟩:=(hk y hy).1.st.tup
        rw[e3] at q; cases q
       ·refine Ep hy ?_
        rw[q]; exact lt
      ·constructor
       ·intro s
        rcases hi.mp s with z | ⟨y,q1,q2,q3⟩
        ·cases z
        ·have ey:=only y q1 q2
         rw[ey] at q2 q3
         cases q2 with
         | top _ _ u=>exact .inl u
         | @sub _ e2 _ _ s u o r=>exact .inr ⟨e2,u.symm,s,r.trans q3⟩
       ·rintro(rfl | ⟨y,q1,q2,q3⟩)
        ·exact hi.mpr (.inr ⟨_,rfl,.top hx mx rfl,er⟩)
        ·rcases lt with rfl | lt
         ·obtain⟨_,e3⟩:=(hk y q2.mem).1.st.tup
          rw[e3] at q1; cases q1
         ·refine hi.mpr (.inr ⟨_,rfl,.sub hx mx q2 q1.symm ?_ (q3.trans er.symm),er⟩)
          rw[q1]; exact lt
     simp only[jP]
     walk_at "dl"
     refine⟨T,_,hn2,rfl,hg2,?_⟩
     walk_at "dl"
     simp only[jO]
     rcases hu2 with rfl | hu2
     ·walk_at "dl"
      simp only[gx]
      walk_at "dl"
      exact next (.inl rfl)
     ·obtain⟨okk,el⟩:=AU (M:=M') hu2 hu'
      have hu2':=hu2
      obtain⟨t3,z3,k3,rfl⟩:=hu2
      walk_at "dl"
      refine⟨okk,?_⟩
      rw[el]
      by_cases lt:enc eqN (.tup [.int t3,.tup [.str z3,.int k3]]) < enc eqN (.tup [.int t',.tup [.str z',.int k']])
      ·rw[decide_eq_true lt]
       refine bH ?_
       simp only[gx]
       walk_at "dl"
       exact next (.inr lt)
      ·rw[decide_eq_false lt]
       refine bQ (no ?_)
       rintro(z | ⟨y,q1,q2,q3⟩)
       ·cases z
       ·rw[only y q1 q2] at q2
        cases q2 with
        | top _ _ u=>cases u
        | @sub _ e2 _ _ s u o r=>rw[← u] at o; exact lt o
    ·rw[decide_eq_false hm2]
     refine bQ (no ?_)
     rintro(z | ⟨y,q1,q2,q3⟩)
     ·cases z
     ·rw[only y q1 q2] at q2
      have:=q2.nm
      exact hm2 (er ▸ this)
   ·rw[beq_eq_false_iff_ne.mpr er]
    refine bQ (no ?_)
    rintro(z | ⟨y,q1,q2,q3⟩)
    ·cases z
    ·rw[only y q1 q2] at q3
     exact er q3
theorem vc(T:Tops P w K mg base):Cal P w K mg base 1 "_law_stands" lq gk :=
 Cal.byD (N:=["_law_house_here","_law_said_here","_law_stamp","_law_room","_law_members","_law_under"]) T.b T.f_stands (by walk_at "sc") sP (by walk_at "dv") tO
def rW:DSp:=fun ds M R=>∃ (ps:List (Str×Int)) (rs:List (Str×List Str)) (log:List D),ds=[aF ps rs,.tup log]/\HouseF ps rs/\LogS ps rs log/\∀ ys,BackL rs log ys->R (.ref M.length) (M++[.lst ys])
theorem AY:dB rW AC:=by rintro ds M R ⟨ps,rs,log,rfl,_⟩; rfl
theorem yJ(hl:LogS ps rs log)(hd:d∈log):byW (aG rs log) d=true↔∃ e∈kinds log (Str.ofString "say"),stD e=mR d/\Stn rs (kinds log (Str.ofString "say")) e/\eM d=eM e:=by
 have rl:Ris (kinds log (Str.ofString "say")):=List.Pairwise.filter _ hl.up
 have hk:∀ d∈kinds log (Str.ofString "say"),aT ps rs d/\bP d=Str.ofString "say":=fun d q=>⟨hl.dk d (aL q).1,(aL q).2⟩
 have ci:=wF (rs:=rs) (fun d q=>by
  obtain⟨t,z,k,num,r,u,s,rfl,_,_,_,hu⟩:=eV (hk d q).1 (hk d q).2
  exact hu) (fun d q=>(hk d q).1.st) rl
 have eT:aX rs (kinds log (Str.ofString "say"))=aG rs log:=rfl
 rw[eT] at ci
 unfold byW
 constructor
 ·intro h
  cases e:bj (aG rs log) (mR d) with
  | none=>rw[e] at h; cases h
  | some e' =>
   rw[e] at h
   obtain⟨e1,e2⟩:=rH bn e
   rw[e1] at e
   exact⟨e',e2,e1.symm,(ci e' e2).mp e,of_decide_eq_true h⟩
 ·rintro⟨e,he,q1,q2,q3⟩
  have:=(ci e he).mpr q2
  rw[q1] at this
  rw[this]
  exact decide_eq_true q3
def uo:DTS:=bC (dCB fg (ab (ac 3) ah))
def ur:DTS:=aB (nR (cJ (ac 1)) (nN 4 (bT (au 4) (bT (au 5) (bT (au 6) (bT (au 7) nO))))) (dIf (yD (aA (dOp qEq (dOp qIx (ac 7) (dC (.int 0))) (dC (.str "back")))) (yD (aA (dOp Ai (dOp qIx (ac 7) (dC (.int 1))) (ac 2))) (aA (dOp iI (dOp qIx (ac 7) (dC (.int 1))) (ac 3))))) (dIf (yD (aA (dOp qEq (dOp qIx (ac 5) (dC (.int 0))) (dOp qIx (dOp qIx (dOp qIx (ac 7) (dC (.int 1))) (dC (.int 1))) (dC (.int 0))))) (aA (dCB gk (ab (ac 0) (ab (ac 2) (ab (dOp qIx (ac 7) (dC (.int 1))) ah)))))) (jk (dMl cr (ac 3) (ab (dOp qIx (ac 7) (dC (.int 1))) ah))) bg) bg)) (uo)
def ut:DTS:=aB (aZ (ji ah) 3) (ur)
def Cn:DTS:=aB (aZ (dCB lZ (ab (ac 1) ah)) 2) (ut)
theorem Ce:WpT rW 8 Cn:=by
 rintro ds M R ⟨ps,rs,log,rfl,hf,hl,h⟩
 have l60:=hl.len
 simp only[Cn]
 walk_at "dl"
 refine⟨ps,rs,log,rfl,hl.dk,by lia,fun n B pB hB=>?_⟩
 have rl:Ris (kinds log (Str.ofString "say")):=List.Pairwise.filter _ hl.up
 have sg:∀ d∈kinds log (Str.ofString "say"),bj (ff log) (stD d)=some (tH d):=qK rl
 have se:∀ k a,bj (ff log) k=some a->∃ d∈kinds log (Str.ofString "say"),k=stD d/\a=tH d:=fun k a q=>by
  obtain⟨d,hd,e⟩:=uJ _ _ (bK q)
  cases e
  exact⟨d,hd,rfl,rfl⟩
 have bi:∀ {d:D},d∈log->(byW (aG rs log) d=true↔∃ e∈kinds log (Str.ofString "say"),stD e=mR d/\Stn rs (kinds log (Str.ofString "say")) e/\eM d=eM e):=fun hd=>yJ hl hd
 simp only[ut,ur]
 walk_at "dl"
 refine⟨Nat.zero_le _,fun _=>?_⟩
 have nB:n≠B.length:=by have:=aW hB; lia
 have sel:∀ {x d:D}{l:List D},bG (aG rs log) (l++[d]) x↔bG (aG rs log) l x\/(bP d=Str.ofString "back"/\byW (aG rs log) d=true/\mR d=x):=fun {x d l}=>by
  unfold bG
  rw[cO]
  constructor
  ·rintro⟨y,hy,h1,h2⟩
   rcases List.mem_append.mp hy with hy | hy
   ·exact .inl ⟨y,hy,h1,h2⟩
   ·split at hy
    ·rename_i hk
     obtain rfl:y=d:=by simpa using hy
     exact .inr ⟨hk,h1,h2⟩
    ·cases hy
  ·rintro(⟨y,hy,h1,h2⟩ | ⟨hk,h1,h2⟩)
   ·exact⟨y,List.mem_append_left _ hy,h1,h2⟩
   ·exact⟨d,List.mem_append_right _ (by rw[if_pos hk]; simp),h1,h2⟩
 refine bD (fun i S M'=>∃ (ys:List D) (a b c d:Option D),B <+: M'/\M'[B.length]?=some (.lst ys)/\(∀ x∈ys,St x)/\ys.Nodup/\(∀ x,x∈ys↔bG (aG rs log) (log.take i) x)/\ys.length<=i/\S=[some (aF ps rs),some (.tup log),some (.ref n),some (.ref B.length),a,b,c,d]) ?_ ?_ ⟨[],_,_,_,_,fS,af,(fun _ z=>nomatch z),.nil,fun x=>⟨(fun z=>nomatch z),fun ⟨_,z,_⟩=>nomatch z⟩,Nat.le_refl _,rfl⟩
 ·rintro S M' ⟨ys,a,b,c,d,pM,gy,hs,nd,hm,yl,rfl⟩
  rw[List.take_length] at hm
  refine⟨trivial,?_⟩
  simp only[uo]
  walk_at "dl"
  refine⟨_,.inl gy,(kW hs (by lia)).g,fun zs hz hr=>?_⟩
  have hs':∀ x∈zs,St x:=fun x hx=>hs x (hz.mem_iff.mp hx)
  obtain⟨L,rfl⟩:=pB.trans pM
  rw[List.append_assoc]
  refine bx.lst (h zs ⟨hs',fun x=>hz.mem_iff.trans (hm x),hz.nodup_iff.mpr nd,?_⟩) (by simp) (by simp) (Bels.of fun d m=>bI 2 d (hs' d m).pl)
  refine(List.Pairwise.and_mem.mp hr).imp fun {a b} ⟨ha,hb,q⟩=>?_
  rw[(AU (hs' b hb) (hs' a ha)).2] at q
  exact of_decide_eq_false q
 ·rintro i y S M' hy ⟨ys,a,b,c,d,pM,gy,hs,nd,hm,yl,rfl⟩ G hG
  have hmem:=List.mem_of_getElem? hy
  have hi:=(List.getElem?_eq_some_iff.mp hy).1
  have et:log.take (i+1)=log.take i++[y]:=by rw[List.take_add_one,hy]; rfl
  rw[et] at hG
  have dy:=hl.dk y hmem
  have gn:=cI pM hB
  have skip:∀ {a b c d:Option D},(∀ x,bP y=Str.ofString "back"->byW (aG rs log) y=true->mR y=x->x∈ys)->G [some (aF ps rs),some (.tup log),some (.ref n),some (.ref B.length),a,b,c,d] M':=fun q =>
   hG _ _ ⟨ys,_,_,_,_,pM,gy,hs,nd,fun x=>⟨fun z=>sel.mpr (.inl ((hm x).mp z)),fun z=>(sel.mp z).elim (hm x).mpr fun ⟨q1,q2,q3⟩=>q x q1 q2 q3⟩,by lia,rfl⟩
  refine⟨trivial,?_⟩
  by_cases hk:bP y=Str.ofString "back"
  ·have byi:=bi hmem
   obtain⟨t,z,k,num,m,rfl,hst⟩:=pN dy hk
   have hst':=hst
   obtain⟨t',z',k',rfl⟩:=hst
   have nm:∀ e∈kinds log (Str.ofString "say"),stD e=.tup [.int t',.tup [.str z',.int k']]->eM e=z':=fun e he q=>by
    obtain⟨t2,z2,k2,num2,r2,u2,s2,rfl,_⟩:=eV (hl.dk e (aL he).1) (aL he).2
    simp only[stD,D.tup.injEq,List.cons.injEq,D.int.injEq,D.str.injEq,and_true] at q
    exact q.2.1
   have byi':byW (aG rs log) (.tup [.int t,.tup [.str z,.int k],.int num,.tup [.str (Str.ofString "back"),.tup [.int t',.tup [.str z',.int k']]]])=true↔∃ e∈kinds log (Str.ofString "say"),stD e=.tup [.int t',.tup [.str z',.int k']]/\Stn rs (kinds log (Str.ofString "say")) e/\z=z':=by
    rw[byi]
    exact⟨fun ⟨e,h1,h2,h3,h4⟩=>⟨e,h1,h2,h3,h4.trans (nm e h1 h2)⟩,fun ⟨e,h1,h2,h3,h4⟩=>⟨e,h1,h2,h3,h4.trans (nm e h1 h2).symm⟩⟩
   walk_at "dl"
   refine⟨trivial,⟨az,az⟩,?_⟩
   rw[bp,show (Str.ofString "back" == Str.ofString "back")=true from beq_self_eq_true _]
   refine bQ ⟨_,gn,rfl,?_⟩
   cases hg:bj (ff log) (.tup [.int t',.tup [.str z',.int k']]) with
   | none =>
    refine bH (Fgt.now (skip fun x _ q _=>?_))
    obtain⟨e,h1,h2,_⟩:=byi'.mp q
    have:=sg e h1
    rw[h2,hg] at this
    cases this
   | some aa =>
    obtain⟨e,he,q1,_⟩:=se _ _ hg
    refine bQ ⟨_,.inl gy,⟨hst'.ok,uB hs⟩,?_⟩
    rw[wg hst' hs]
    by_cases hx:D.tup [.int t',.tup [.str z',.int k']]∈ys
    ·rw[decide_eq_true hx]
     exact bH (Fgt.now (skip fun x _ _ q=>by rw[← q]; exact hx))
    ·rw[decide_eq_false hx]
     refine bQ ⟨⟨az,az⟩,?_⟩
     rw[bp]
     by_cases hz:z=z'
     ·rw[beq_iff_eq.mpr hz]
      refine bQ ⟨ps,rs,log,n,e,by rw[← q1],hf,hl.dk,hl.up,gn,he,fun bb hbb=>?_⟩
      walk_at "dl"
      cases bb with
      | true =>
       refine bQ ⟨⟨_,.inl gy⟩,_,gy,aO (by lia),?_⟩
       refine Fgt.now (hG _ _ ⟨ys++[.tup [.int t',.tup [.str z',.int k']]],_,_,_,_,dH pM (Nat.le_refl _),dU gy,fun x hx'=>?_,?_,fun x=>?_,by rw[List.length_append,List.length_singleton]; lia,rfl⟩)
       ·rcases List.mem_append.mp hx' with hx' | hx'
        ·exact hs x hx'
        ·rw[show x=_ from by simpa using hx']; exact hst'
       ·exact List.nodup_append.mpr ⟨nd,by simp,fun a ha b hb e=>hx (by rw[show b=_ from by simpa using hb] at e; exact e ▸ ha)⟩
       ·rw[List.mem_append,sel,hm x]
        refine or_congr Iff.rfl ⟨fun q=>⟨rfl,byi'.mpr ⟨e,he,q1.symm,hbb.mp rfl,hz⟩,by rw[show x=_ from by simpa using q]; rfl⟩,fun ⟨_,_,q⟩=>?_⟩
        rw[← q]
        exact List.mem_singleton.mpr rfl
      | false =>
       refine bH (Fgt.now (skip fun x _ q _=>?_))
       obtain⟨e',h1,h2,h3,_⟩:=byi'.mp q
       rw[rl.one e' h1 e he (h2.trans q1)] at h3
       have:=hbb.mpr h3
       cases this
     ·rw[beq_eq_false_iff_ne.mpr hz]
      refine bH (Fgt.now (skip fun x _ q _=>?_))
      obtain⟨_,_,_,_,q5⟩:=byi'.mp q
      exact absurd q5 hz
  ·obtain⟨t,z,k,num,x,ds,rfl,_⟩:=dy
   walk_at "dl"
   refine⟨trivial,⟨az,az⟩,?_⟩
   rw[bp,show (x==Str.ofString "back")=false from beq_eq_false_iff_ne.mpr hk]
   exact bH (Fgt.now (skip fun x q _ _=>absurd q hk))
theorem Dl(T:Tops P w K mg base):Cal P w K mg base 2 "_law_due" AC rW :=
 Cal.byD (N:=["_law_house_here","_law_log_here","_law_said_here","_law_found","_law_time","_law_hand","_law_number","_law_act_here"]) T.b T.f_due (by walk_at "sc") AY (by have:=AH T; have:=vc T; walk_at "dv") Ce
def ma:DSp:=fun ds M R=>∃ (ps:List (Str×Int)) (rs:List (Str×List Str)) (log:List D) (z:Str) (k:Int) (st:D),ds=[.tup log,.tup [.str z,.int k],.tup [.str (Str.ofString "back"),st]]/\LogS ps rs log/\D.tup [.str z,.int k]∈av ps/\St st/\∀ t num:Int,1<=t->(∀ d∈log,dA d < t)->R (.tup (log++[.tup [.int t,.tup [.str z,.int k],.int num,.tup [.str (Str.ofString "back"),st]]])) M
theorem xV:dB ma va:=by rintro ds M R ⟨ps,rs,log,z,k,st,rfl,_⟩; rfl
def qp:DTS:=bC (dOp bc (ac 0) (eY (ab (eY (ab (ac 3) (ab (ac 1) (ab (ac 4) (ab (ac 2) ah))))) ah)))
def qq:DTS:=aB (aZ (dCB kr (ab (dLC 1 [1] (cJ (ac 0)) (au 0) (aA (dOp qEq (dOp qIx (ac 0) (dC (.int 1))) (ac 1))) (ac 0)) ah)) 4) (qp)
def yS:DTS:=aB (aZ (dOp bc (dC (.int 1)) (dCB sE (ab (dOp bc (ji (ab (dC (.int 0)) ah)) (dLC 1 [] (cJ (ac 0)) (au 0) tw (dOp qIx (ac 0) (dC (.int 0))))) ah))) 3) (qq)
theorem zU:WpT ma 5 yS:=by
 rintro ds M R ⟨ps,rs,log,z,k,st,rfl,hl,hh,hst,h⟩
 have l60:=hl.len
 simp only[yS]
 walk_at "dl"
 refine⟨ap (by lia),fun _=>?_⟩
 have p0:M <+: M++[MO.lst [.int 0]]:=fS
 have e0:(M++[MO.lst [D.int 0]])[M.length]?=some (.lst [.int 0]):=af
 generalize M++[MO.lst [D.int 0]]=B0 at p0 e0
 refine cw (fun d=>.int (dA d)) (fun S=>∃ a,S=[a]) trivial _ _ _ (fun d hm S hS=>?_) ⟨_,rfl⟩ (by rw[List.length_nil]; exact ap (by lia)) ?_
 ·obtain⟨a,rfl⟩:=hS
  obtain⟨t',z',k',num',x,ds,rfl,_⟩:=hl.dk d hm
  refine⟨[some (.tup [.int t',.tup [.str z',.int k'],.int num',.tup (.str x::ds)])],⟨_,rfl⟩,fun Y hY=>?_⟩
  walk_at "dl"
  exact hY
 ·rw[List.nil_append]
  have em:log.map (fun d=>D.int (dA d))=(log.map dA).map D.int:=by rw[List.map_map]; rfl
  rw[em]
  have p1:=p0.trans (fS (mo:=MO.lst ((log.map dA).map D.int)))
  have e1:=ae (a:=MO.lst ((log.map dA).map D.int)) e0
  have e2:(B0++[MO.lst ((log.map dA).map D.int)])[B0.length]?=some (.lst ((log.map dA).map D.int)):=af
  generalize B0++[MO.lst ((log.map dA).map D.int)]=B1 at p1 e1 e2
  refine⟨_,_,e1,e2,ap (by rw[List.length_map,List.length_map,List.length_singleton]; lia),?_⟩
  have p2:=p1.trans (fS (mo:=MO.lst ([D.int 0]++(log.map dA).map D.int)))
  have e3:(B1++[MO.lst ([D.int 0]++(log.map dA).map D.int)])[B1.length]?=some (.lst ((0::log.map dA).map D.int)):=af
  generalize B1++[MO.lst ([D.int 0]++(log.map dA).map D.int)]=B2 at p2 e3
  refine⟨0::log.map dA,.inl e3,by simp,fun mx mm mall=>?_⟩
  have mx0:=mall 0 (by simp)
  have mxd:∀ d∈log,dA d < 1+mx:=fun d hd=>by
   have:=mall (dA d) (List.mem_cons_of_mem _ (List.mem_map_of_mem hd))
   lia
  simp only[qq]
  walk_at "dl"
  intro _
  refine bv (fun d=>eqD B2 eqN (hdO d) (.tup [.str z,.int k])) id (fun S=>∃ a,S=[a,some (.tup [.str z,.int k])]) trivial _ _ _ ?_ ⟨_,rfl⟩ (by rw[List.length_nil]; exact ap (by lia)) ?_
  ·rintro d hm S ⟨a,rfl⟩
   obtain⟨t',z',k',num',x,ds,rfl,_⟩:=hl.dk d hm
   refine⟨[some (.tup [.int t',.tup [.str z',.int k'],.int num',.tup (.str x::ds)]),some (.tup [.str z,.int k])],⟨_,rfl⟩,fun Y Z hYZ=>?_⟩
   walk_at "dl"
   refine⟨⟨rfl,rfl⟩,?_⟩
   have e1:hdO (.tup [.int t',.tup [.str z',.int k'],.int num',.tup (.str x::ds)])=.tup [.str z',.int k']:=rfl
   rw[e1] at hYZ
   cases hb:eqD B2 eqN (.tup [.str z',.int k']) (.tup [.str z,.int k]) with
   | true=>rw[hb] at hYZ; exact bQ hYZ
   | false=>rw[hb] at hYZ; exact bH hYZ
  ·refine⟨_,aC,?_⟩
   simp only[qp]
   walk_at "dl"
   refine⟨ap (by lia),ap (by lia),ap (by lia),?_⟩
   refine bx.keep (h _ _ (by lia) mxd) ?_ (p2.trans fS)
   refine .tup (Bels.of fun d hd=>?_)
   rcases List.mem_append.mp hd with hd | hd
   ·exact bI 6 d (hl.dk d hd).pl
   ·rw[show d=_ from by simpa using hd]
    exact .tup (.cons (.int _) (.cons (.tup (.cons (.str _) (.cons (.int _) .nil))) (.cons (.int _) (.cons (.tup (.cons (.str _) (.cons (bI 2 _ hst.pl) .nil))) .nil))))
theorem AI(T:Tops P w K mg base):Cal P w K mg base 1 "_law_more" va ma :=
 Cal.byD (N:=["_law_log_here","_law_hand","_law_act_here","_law_time","_law_number"]) T.b T.f_more (by walk_at "sc") xV (by walk_at "dv") zU
theorem AX:dB (sS (Str.ofString "_law_log")) AB:=by rintro ds M R ⟨ns,mo,_,_,rfl,_⟩; rfl
theorem BackL.uni(a:BackL rs log xs)(b:BackL rs log ys):xs=ys:=by
 have p:xs.Perm ys:=(List.perm_ext_iff_of_nodup a.nd b.nd).mpr fun x=>(a.mem x).trans (b.mem x).symm
 refine List.Perm.eq_of_pairwise (le:=fun a b=>¬ enc eqN b < enc eqN a) (fun x y hx hy h1 h2=>?_) a.up b.up p
 have sx:=a.st x hx
 have sy:=b.st y hy
 have ox:okP eqN x=true:=by obtain⟨t,z,k,e⟩:=sx; rw[e]; rfl
 have oy:okP eqN y=true:=by obtain⟨t,z,k,e⟩:=sy; rw[e]; rfl
 exact wz (M:=[]) ox oy (sx.cm sy) (List.le_antisymm (List.not_lt.mp h1) (List.not_lt.mp h2))
theorem vq{l l':List D}(nd:l.Nodup)(h:∀ x∈l,x∈l'):l.length<=l'.length:=by
 induction l generalizing l' with
 | nil=>exact Nat.zero_le _
 | cons x l ih =>
  obtain⟨n1,n2⟩:=List.nodup_cons.mp nd
  obtain⟨s,t,rfl⟩:=List.append_of_mem (h x (by simp))
  have:=ih (l':=s++t) n2 fun y hy=>by
   have:=h y (List.mem_cons_of_mem _ hy)
   rcases List.mem_append.mp this with q | q
   ·exact List.mem_append_left _ q
   ·rcases List.mem_cons.mp q with rfl | q
    ·exact absurd hy n1
    ·exact List.mem_append_right _ q
  rw[List.length_append] at this
  rw[List.length_append,List.length_cons,List.length_cons]
  lia
theorem BackL.len{rs:List (Str×List Str)}{log ys:List D}(b:BackL rs log ys):ys.length<=log.length:=by
 have h:∀ x∈ys,x∈(kinds log (Str.ofString "back")).map mR:=fun x hx=>by
  obtain⟨d,hd,_,rfl⟩:=(b.mem x).mp hx
  exact List.mem_map_of_mem hd
 have:=vq b.nd h
 rw[List.length_map] at this
 exact Nat.le_trans this bB
theorem fL{M:Mem}{xs:List D}(h:∀ x∈xs,St x):∀ x∈xs,okD M 29 x=true/\eqD M 29 x x=true:=fun x hx=>uQ 2 29 x (by decide) (h x hx).pl
theorem cM(hi:ao M i xs)(hj:ao M j xs)(h:∀ x∈xs,okD M 29 x=true/\eqD M 29 x x=true):(okD M eqN (.ref i)=true/\okD M eqN (.ref j)=true)/\eqD M eqN (.ref i) (.ref j)=true :=
 ⟨⟨lD (n:=29) hi fun x hx=>(h x hx).1,lD (n:=29) hj fun x hx=>(h x hx).1⟩,(rJ (n:=29) hi hj).trans (lP fun x hx=>(h x hx).2)⟩
theorem wP(hd:∀ d∈log,aT ps rs d)(ht:1<=t)(hh:D.tup [.str z,.int k]∈av ps)(hs:St st):(∀ d∈log++[D.tup [.int t,.tup [.str z,.int k],.int num,.tup [.str (Str.ofString "back"),st]]],aT ps rs d)/\aG rs (log++[D.tup [.int t,.tup [.str z,.int k],.int num,.tup [.str (Str.ofString "back"),st]]])=aG rs log/\kinds (log++[D.tup [.int t,.tup [.str z,.int k],.int num,.tup [.str (Str.ofString "back"),st]]]) (Str.ofString "change")=kinds log (Str.ofString "change")/\∀ x,bG (aG rs log) (log++[D.tup [.int t,.tup [.str z,.int k],.int num,.tup [.str (Str.ofString "back"),st]]]) x↔bG (aG rs log) log x\/((match bj (aG rs log) st with
  | some e=>decide (z=eM e)
  | none=>false)=true/\st=x):=by
 have kd:bP (.tup [.int t,.tup [.str z,.int k],.int num,.tup [.str (Str.ofString "back"),st]])=Str.ofString "back":=rfl
 refine⟨fun d hd'=>?_,?_,?_,fun x=>?_⟩
 ·rcases List.mem_append.mp hd' with q | q
  ·exact hd d q
  ·rw[show d=_ from by simpa using q]
   exact⟨t,z,k,num,_,_,rfl,ht,hh,.cons hs.pl .nil,.mkBack hs⟩
 ·unfold aG
  rw[cO,kd,if_neg (fun e=>qL.2.1 e.symm),List.append_nil]
 ·rw[cO,kd,if_neg (fun e=>qL.2.2.2.1 e.symm),List.append_nil]
 ·unfold bG
  rw[cO,kd,if_pos rfl]
  constructor
  ·rintro⟨y,hy,h1,h2⟩
   rcases List.mem_append.mp hy with hy | hy
   ·exact .inl ⟨y,hy,h1,h2⟩
   ·rw[show y=_ from by simpa using hy] at h1 h2
    exact .inr ⟨h1,h2⟩
  ·rintro(⟨y,hy,h1,h2⟩ | ⟨h1,h2⟩)
   ·exact⟨y,List.mem_append_left _ hy,h1,h2⟩
   ·exact⟨_,List.mem_append_right _ (List.mem_singleton.mpr rfl),h1,h2⟩
theorem AS(hd:∀ d∈log,aT ps rs d):∀ x∈aE rs log,Pln 3 x:=fun x hx=>by
 obtain⟨p,hp,rfl⟩:=List.mem_map.mp hx
 obtain⟨_,h2,h3⟩:=eE hd p hp
 generalize p.2=d at h2 h3
 obtain⟨t,z,k,num,r,u,s,rfl,_,_,_,hu⟩:=eV h2 h3
 have hub:Pln 2 u:=by
  rcases hu with rfl | hu
  ·exact .non
  ·exact hu.pl
 refine .tup (.cons (St.pl (n:=0) ⟨t,z,k,rfl⟩) (.cons (.str _) (.cons hub (.cons (.str _) (.cons ?_ (.cons (.bl _) .nil))))))
 cases e:bj (bZ (aK rs log) log) (stD (.tup [.int t,.tup [.str z,.int k],.int num,.tup [.str (Str.ofString "say"),.str r,u,.str s]])) with
 | none=>exact .str _
 | some v =>
  obtain⟨s',e'⟩:=jn hd _ (bK e)
  dsimp only at e'
  rw[e']
  exact .str _
def hd0:D->D
 | .tup (x::_)=>x
 | d=>d
theorem zI(hd:∀ d∈log,aT ps rs d):(aE rs log).map hd0=(aK rs log).map (·.1):=by
 unfold aE
 rw[List.map_map]
 refine List.map_congr_left fun p hp=>?_
 exact(eE hd p hp).1.symm
theorem mS:(aE rs log).length<=log.length:=by
 unfold aE
 rw[List.length_map]
 exact Nat.le_trans (List.length_filter_le _ _) (Nat.le_trans bn.len bB)
def qx:DTS:=bC (tD (dOp qEq (dCB aQ (ab (ac 1) (ab (ac 9) ah))) (ac 3)) (dOp qEq (dCB bf (ab (ac 1) (ab (ac 9) ah))) (dCB bf (ab (ac 1) (ab (ac 2) ah)))))
def qy:DTS:=aB (dIf (aA (dOp qEq (dOp qIx (ac 8) (dC (.int 0))) (dOp qIx (dOp qIx (ac 6) (dC (.int 1))) (dC (.int 0))))) (bC (dOp qEq (dCB aQ (ab (ac 1) (ab (ac 9) ah))) (dCB fg (ab (dOp bc (ac 3) (ji (ab (ac 6) ah))) ah)))) bg) (qx)
def qz:DTS:=aB (aZ (dCB ma (ab (ac 2) (ab (ac 8) (ab (eY (ab (dC (.str "back")) (ab (ac 6) ah))) ah)))) 9) (qy)
def qA:DTS:=aB (aZ (dOp qIx (ac 7) (dOp sD (dCB cg (ab (ac 0) (ab (dC (.int 61)) ah))) (dCB kr (ab (ac 7) ah)))) 8) (qz)
def qB:DTS:=aB (aZ (dCB gs (ab (ac 1) ah)) 7) (qA)
def ud:DTS:=aB (aZ (dOp qIx (ac 5) (dOp sD (dCB cg (ab (ac 0) (ab (dC (.int 60)) ah))) (dCB kr (ab (ac 5) ah)))) 6) (qB)
def ue:DTS:=aB (dIf (dOr (aA (dOp qNe (dCB aQ (ab (ac 1) (ab (ac 2) ah))) (ac 3))) (aA (dOp qEq (ac 5) (ji ah)))) (bC (dOp qEq (dCB aQ (ab (ac 1) (ab (ac 2) ah))) (ac 3))) bg) (ud)
def uf:DTS:=aB (jk (dMl cr (ac 4) (ab (dC .non) ah))) (ue)
def ug:DTS:=aB (dIf (aA (dOp qNe (dLC 1 [5] (cJ (ac 3)) (au 0) (aA (dOp qIn (ac 0) (ac 1))) (ac 0)) (ji ah))) (bC (dC (.bl false))) bg) (uf)
def uh:DTS:=aB (aZ (dLC 1 [] (cJ (dCB bf (ab (ac 1) (ab (ac 2) ah)))) (au 0) tw (dOp qIx (ac 0) (dC (.int 0)))) 5) (ug)
def ui:DTS:=aB (dIf (dOr (ET (aA (dCB CF (ab (ac 4) (ab (dC (.ty "list")) ah))))) (aA (dOp qNe (ac 4) (ac 3)))) (bC (dC (.bl false))) bg) (uh)
def uj:DTS:=aB (aZ (dCB aQ (ab (ac 1) (ab (ac 2) ah))) 4) (ui)
def oE:DTS:=aB (aZ (dCB rW (ab (ac 1) (ab (ac 2) ah))) 3) (uj)
def uk:DTS:=aB (aZ (dCB rV (ab (dSl (ac 0) (jE (dC (.int 1))) (jE (dC (.int 60)))) (ab (ac 1) ah))) 2) (oE)
def Cm:DTS:=aB (aZ (dCB ir (ab (dCB cg (ab (ac 0) (ab (dC (.int 0)) ah))) ah)) 1) (uk)
theorem Cd:WpT (sS (Str.ofString "_law_log")) 10 Cm:=by
 rintro ds M R ⟨ns,mo,h63,⟨hmo,hml⟩,rfl,rfl,h⟩
 have hL0:ao [mo,.tb (Str.ofString "_law_log") false] 0 (ns.map D.int):=by
  have:=iY (M:=[mo,.tb (Str.ofString "_law_log") false]) (n:=0) (mo:=mo) rfl hml
  rw[hmo] at this
  exact this
 simp only[Cm]
 walk_at "dl"
 refine⟨0,ns,0,rfl,hL0,_,rfl,fun ps rs hf=>?_⟩
 simp only[uk]
 walk_at "dl"
 refine⟨_,hL0,?_⟩
 have ec:∃ cs:List Int,cutD (ns.map D.int) (some 1) (some 60)=cs.map D.int/\cs.length<=60:=by
  unfold cutD
  refine⟨(ns.drop (HT.sIx (ns.map D.int).length 0 (some 1))).take (HT.sIx (ns.map D.int).length (ns.map D.int).length (some 60)-HT.sIx (ns.map D.int).length 0 (some 1)),by rw[List.map_take,List.map_drop],?_⟩
  rw[List.length_take]
  unfold HT.sIx
  simp
  lia
 obtain⟨cs,ec,cl⟩:=ec
 rw[ec]
 refine⟨ps,rs,2,1,cs,rfl,hf,.inl rfl,by decide,cl,rfl,fun log hl=>?_⟩
 have l60:=hl.len
 have hL:ao ([mo,.tb (Str.ofString "_law_log") true,.lst (cs.map D.int)]:Mem) 0 (ns.map D.int):=by
  have:=iY (M:=[mo,.tb (Str.ofString "_law_log") true,.lst (cs.map D.int)]) (n:=0) (mo:=mo) rfl hml
  rw[hmo] at this
  exact this
 show oE _ _ ([mo,.tb (Str.ofString "_law_log") true,.lst (cs.map D.int)]:Mem)
 generalize ([mo,.tb (Str.ofString "_law_log") true,.lst (cs.map D.int)]:Mem)=B0 at hL
 simp only[oE]
 walk_at "dl"
 refine⟨ps,rs,log,rfl,hf,hl,fun due bd=>?_⟩
 have g3:(B0++[MO.lst due])[B0.length]?=some (.lst due):=af
 have p1:B0 <+: B0++[MO.lst due]:=fS
 generalize B0++[MO.lst due]=B1 at g3 p1
 generalize B0.length=q3 at g3
 simp only[uj]
 walk_at "dl"
 refine⟨ps,rs,log,rfl,hl.dk,by lia,fun told bt=>?_⟩
 obtain rfl:=bt.uni bd
 have g4:(B1++[MO.lst told])[B1.length]?=some (.lst told):=af
 have g3':=ae (a:=MO.lst told) g3
 have p2:=p1.trans (fS (mo:=MO.lst told))
 have q34:q3≠B1.length:=by have:=aW g3; lia
 generalize B1++[MO.lst told]=B2 at g3' g4 p2
 have q04:0≠B1.length:=by have:=vA (dR p1 hL); lia
 generalize B1.length=q4 at g4 q34 q04
 simp only[ui]
 walk_at "dl"
 simp only[g4,show ∀ xs:List D,(MO.lst xs).isL=true from fun _=>rfl,if_true]
 refine⟨⟨by decide,by decide⟩,?_⟩
 rw[show yf "list" "list" = true from rfl]
 refine bH ?_
 obtain⟨okk,ee⟩:=cM (M:=B2) (.inl g4) (.inl g3') (fL bt.st)
 refine⟨okk,?_⟩
 rw[ee]
 refine bH ?_
 have ml:=mS (rs:=rs) (log:=log)
 have mp:=AS hl.dk
 simp only[uh]
 walk_at "dl"
 refine⟨ps,rs,log,rfl,hl.dk,by lia,_,aC,?_⟩
 have g3a:=ae (a:=MO.lst (aE rs log)) g3'
 have g4a:=ae (a:=MO.lst (aE rs log)) g4
 have p3:=p2.trans (fS (mo:=MO.lst (aE rs log)))
 have gm:(B2++[MO.lst (aE rs log)])[B2.length]?=some (.lst (aE rs log)):=af
 generalize B2++[MO.lst (aE rs log)]=B3 at g3a g4a p3 gm
 intro _
 refine cw hd0 (fun S=>∃ a,S=[a]) (.inl gm) _ _ _ (fun d hm S hS=>?_) ⟨_,rfl⟩ (by rw[List.length_nil]; exact ap (by lia)) ?_
 ·obtain⟨a,rfl⟩:=hS
  obtain⟨p,_,rfl⟩:=List.mem_map.mp hm
  refine⟨[some (AT (bZ (aK rs log) log) p.2)],⟨_,rfl⟩,fun Y hY=>?_⟩
  unfold AT at hY ⊢
  walk_at "dl"
  exact hY
 rw[List.nil_append,zI hl.dk]
 have sl:((aK rs log).map (·.1)).length<=60:=by rw[← zI hl.dk,List.length_map]; lia
 have sk:∀ x∈(aK rs log).map (·.1),∃ e,St x/\bj (aG rs log) x=some e/\x=stD e/\¬ bG (aG rs log) log x:=fun x hx=>by
  obtain⟨p,hp,rfl⟩:=List.mem_map.mp hx
  obtain⟨h1,h2,_⟩:=eE hl.dk p hp
  have hp':=iF.mp hp
  exact⟨p.2,h1 ▸ h2.st,iX bn.nd hp'.1,h1,hp'.2⟩
 have g3b:=ae (a:=MO.lst ((aK rs log).map (·.1))) g3a
 have g4b:=ae (a:=MO.lst ((aK rs log).map (·.1))) g4a
 have g5:(B3++[MO.lst ((aK rs log).map (·.1))])[B3.length]?=some (.lst ((aK rs log).map (·.1))):=af
 have p4:=p3.trans (fS (mo:=MO.lst ((aK rs log).map (·.1))))
 have q45:q4≠B3.length:=by have:=aW g4a; lia
 generalize B3++[MO.lst ((aK rs log).map (·.1))]=B4 at g3b g4b g5 p4
 generalize B3.length=q5 at g5 q45
 generalize (aK rs log).map (·.1)=sts at sk sl g5
 have bl:=bt.len
 simp only[ug]
 walk_at "dl"
 refine⟨_,.inl g3b,fun _=>?_⟩
 refine bv (fun _=>false) id (fun S=>∃ a,S=[a,some (.ref q5)]) (.inl g3b) _ _ _ ?_ ⟨_,rfl⟩ (by rw[List.length_nil]; exact ap (by lia)) ?_
 ·rintro x hx S ⟨a,rfl⟩
  refine⟨[some x,some (.ref q5)],⟨_,rfl⟩,fun Y Z hYZ=>?_⟩
  have hb:=(bt.mem x).mp hx
  walk_at "dl"
  refine⟨_,.inl g5,⟨(bt.st x hx).ok,uB fun y hy=>by obtain⟨_,h1,_⟩:=sk y hy; exact h1⟩,?_⟩
  rw[wg (bt.st x hx) fun y hy=>by obtain⟨_,h1,_⟩:=sk y hy; exact h1]
  rw[decide_eq_false fun hy=>by obtain⟨_,_,_,_,h4⟩:=sk x hy; exact h4 hb]
  exact hYZ
 rw[List.nil_append,List.map_id,List.filter_eq_nil_iff.mpr fun _ _=>by decide]
 have g3c:=ae (a:=MO.lst []) g3b
 have g4c:=ae (a:=MO.lst []) g4b
 have g5c:=ae (a:=MO.lst []) g5
 have ge:(B4++[MO.lst []])[B4.length]?=some (.lst []):=af
 have p5:=p4.trans (fS (mo:=MO.lst []))
 generalize B4++[MO.lst []]=B5 at g3c g4c g5c p5 ge
 obtain⟨okn,en⟩:=fW (M:=B5) (.inl ge) fun _ z=>nomatch z
 refine⟨Nat.zero_le _,okn,?_⟩
 rw[en]
 refine bH ?_
 replace g3c:=ae (a:=MO.lst []) g3c
 replace g4c:=ae (a:=MO.lst []) g4c
 replace g5c:=ae (a:=MO.lst []) g5c
 have p6:=p5.trans (fS (mo:=MO.lst []))
 generalize B5++[MO.lst []]=B6 at g3c g4c g5c p6
 simp only[uf]
 walk_at "dl"
 refine⟨⟨_,.inl g4c⟩,_,g4c,aO (by lia),?_⟩
 have hL6:ao (B6.set q4 (.lst (told++[.non]))) 0 (ns.map D.int):=Dy q04 (dR p6 hL)
 have g3d:=ax (x:=MO.lst (told++[.non])) q34 g3c
 have g5d:=ax (x:=MO.lst (told++[.non])) q45.symm g5c
 generalize B6.set q4 (.lst (told++[.non]))=B7 at hL6 g3d g5d
 simp only[ue]
 walk_at "dl"
 refine⟨ps,rs,log,rfl,hl.dk,by lia,fun ag ba=>?_⟩
 obtain rfl:=ba.uni bt
 have g3e:=ae (a:=MO.lst ag) g3d
 have g5e:=ae (a:=MO.lst ag) g5d
 have ga:(B7++[MO.lst ag])[B7.length]?=some (.lst ag):=af
 have hL7:=dR (fS (mo:=MO.lst ag)) hL6
 generalize B7++[MO.lst ag]=B8 at g3e g5e ga hL7
 obtain⟨okk,ee⟩:=cM (M:=B8) (.inl ga) (.inl g3e) (fL bt.st)
 refine⟨okk,?_⟩
 rw[ee]
 refine bH ?_
 obtain⟨okn,en⟩:=fW (M:=B8) (.inl g5e) fun x hx=>by obtain⟨_,h1,_⟩:=sk x hx; exact(uQ 2 29 x (by decide) h1.pl).1
 refine⟨Nat.zero_le _,okn,?_⟩
 rw[en]
 have g3f:=ae (a:=MO.lst []) g3e
 have g5f:=ae (a:=MO.lst []) g5e
 have hL8:=dR (fS (mo:=MO.lst [])) hL7
 generalize B8++[MO.lst []]=B9 at g3f g5f hL8
 cases sts with
 | nil =>
  refine bQ ⟨ps,rs,log,rfl,hl.dk,by lia,fun ag2 ba2=>?_⟩
  obtain rfl:=ba2.uni bt
  obtain⟨okk,ee⟩:=cM (M:=B9++[MO.lst ag2]) aC (.inl (ae g3f)) (fL bt.st)
  refine⟨okk,?_⟩
  rw[ee]
  exact .inl (h _)
 | cons s0 sts =>
 refine bH ?_
 generalize hsts:s0::sts=ks at sk sl g5f
 have k1:1<=ks.length:=by rw[← hsts]; simp
 simp only[ud]
 walk_at "dl"
 refine⟨0,ns,60,rfl,hL8,?_⟩
 obtain⟨x,hx,ex⟩:=zM (xs:=ks) (i:=rS ns 60) k1
 walk_at "dl"
 refine⟨_,.inl g5f,by lia,_,.inl g5f,?_⟩
 rw[ex]
 dsimp only
 obtain⟨e,hst,hg,he,nb⟩:=sk x hx
 have hst':=hst
 obtain⟨tx,zx,kx,rfl⟩:=hst
 have nz:eM e=zx:=by
  have:=(rH bn hg).2
  obtain⟨t2,z2,k2,num2,x2,ds2,rfl,_⟩:=hl.dk e (aL this).1
  simp only[stD,D.tup.injEq,List.cons.injEq,D.int.injEq,D.str.injEq,and_true] at he
  exact he.2.1.symm
 obtain⟨few,n1,n12⟩:=jd hf
 simp only[qB,aF]
 walk_at "dl"
 refine⟨ps,_,rfl,few,?_⟩
 have g7:(B9++[MO.lst (av ps)])[B9.length]?=some (.lst (av ps)):=af
 have g3g:=ae (a:=MO.lst (av ps)) g3f
 have hL9:=dR (fS (mo:=MO.lst (av ps))) hL8
 generalize B9++[MO.lst (av ps)]=B10 at g7 g3g hL9
 generalize B9.length=q7 at g7
 simp only[qA]
 walk_at "dl"
 refine⟨0,ns,61,rfl,hL9,?_⟩
 obtain⟨y,hy,ey⟩:=zM (xs:=av ps) (i:=rS ns 61) n1
 walk_at "dl"
 refine⟨_,.inl g7,by lia,_,.inl g7,?_⟩
 rw[ey]
 dsimp only
 obtain⟨z,k,rfl⟩:=lM y hy
 simp only[qz]
 walk_at "dl"
 refine⟨ap (by lia),ps,rs,log,z,k,_,rfl,hl,hy,hst',fun t num h1 _=>?_⟩
 obtain⟨dk',ct,kc,bk⟩:=wP (num:=num) hl.dk h1 hy hst'
 have ll:(log++[D.tup [.int t,.tup [.str z,.int k],.int num,.tup [.str (Str.ofString "back"),.tup [.int tx,.tup [.str zx,.int kx]]]]]).length=log.length+1:=by rw[List.length_append,List.length_singleton]
 generalize log++[D.tup [.int t,.tup [.str z,.int k],.int num,.tup [.str (Str.ofString "back"),.tup [.int tx,.tup [.str zx,.int kx]]]]]=more at dk' ct kc bk ll
 rw[hg] at bk
 dsimp only at bk
 rw[nz] at bk
 simp only[qy]
 walk_at "dl"
 refine⟨⟨az,az⟩,?_⟩
 rw[bp]
 by_cases hz:z=zx
 ·rw[beq_iff_eq.mpr hz]
  refine bQ ⟨ps,rs,more,rfl,dk',by lia,fun ys by'=>?_⟩
  dsimp only
  have g3h:=ae (a:=MO.lst ys) g3g
  have gy:(B10++[MO.lst ys])[B10.length]?=some (.lst ys):=af
  generalize B10++[MO.lst ys]=B11 at g3h gy
  generalize B10.length=q10 at gy
  have sa:∀ x∈ag++[D.tup [.int tx,.tup [.str zx,.int kx]]],St x:=fun x hx=>by
   rcases List.mem_append.mp hx with hx | hx
   ·exact ba.st x hx
   ·rw[show x=_ from by simpa using hx]; exact hst'
  refine⟨ap (by lia),_,_,ae g3h,af,ap (by rw[List.length_singleton]; lia),_,aC,(kW sa (by rw[List.length_append,List.length_singleton]; lia)).g,fun zs hz' hr=>?_⟩
  have hs':∀ x∈zs,St x:=fun x hx=>sa x (hz'.mem_iff.mp hx)
  have bz:BackL rs more zs:=by
   refine⟨hs',fun x=>?_,hz'.nodup_iff.mpr (List.nodup_append.mpr ⟨ba.nd,by simp,fun a ha b hb e=>?_⟩),?_⟩
   ·rw[hz'.mem_iff,List.mem_append,ct,bk x,ba.mem x,decide_eq_true hz]
    refine or_congr Iff.rfl ⟨fun q=>⟨rfl,by simpa using Eq.symm (List.mem_singleton.mp q)⟩,fun ⟨_,q⟩=>?_⟩
    rw[← q]
    exact List.mem_singleton.mpr rfl
   ·rw[show b=_ from by simpa using hb] at e
    exact nb ((ba.mem _).mp (e ▸ ha))
   ·refine(List.Pairwise.and_mem.mp hr).imp fun {a b} ⟨ha,hb,q⟩=>?_
    rw[(AU (hs' b hb) (hs' a ha)).2] at q
    exact of_decide_eq_false q
  obtain rfl:=by'.uni bz
  obtain⟨okk,ee⟩:=cM (M:=B11++[MO.lst [D.tup [.int tx,.tup [.str zx,.int kx]]]]++[MO.lst (ag++[D.tup [.int tx,.tup [.str zx,.int kx]]])]++[MO.lst ys]) (.inl (ae (ae (ae gy)))) aC (fL bz.st)
  refine⟨okk,?_⟩
  rw[ee]
  exact .inl (h _)
 ·rw[beq_eq_false_iff_ne.mpr hz]
  refine bH ?_
  simp only[qx]
  walk_at "dl"
  refine⟨ps,rs,more,rfl,dk',by lia,fun ys by'=>?_⟩
  have bk':∀ x,bG (aG rs log) more x↔bG (aG rs log) log x:=fun x=>by
   rw[bk x,decide_eq_false hz]
   exact⟨fun q=>q.elim id fun q=>(by cases q.1),.inl⟩
  obtain rfl:ys=ag:=BackL.uni (rs:=rs) (log:=log) ⟨by'.st,fun x=>by rw[by'.mem x,ct,bk' x],by'.nd,by'.up⟩ ba
  have em:aE rs more=aE rs log:=by
   have e1:aK rs more=aK rs log:=by
    unfold aK
    rw[ct]
    exact List.filter_congr fun p _=>(@decide_eq_decide _ _ (Classical.propDecidable _) (Classical.propDecidable _)).mpr (not_congr (bk' p.1))
   unfold aE
   rw[e1]
   unfold bZ
   rw[kc]
  dsimp only
  have g3h:=ae (a:=MO.lst ys) g3g
  have gy:(B10++[MO.lst ys])[B10.length]?=some (.lst ys):=af
  generalize B10++[MO.lst ys]=B11 at g3h gy
  generalize B10.length=q10 at gy
  obtain⟨okk,ee⟩:=cM (M:=B11) (.inl gy) (.inl g3h) (fL ba.st)
  refine⟨okk,?_⟩
  rw[ee]
  refine bQ ⟨ps,rs,more,rfl,dk',by lia,ps,rs,log,rfl,hl.dk,by lia,?_⟩
  rw[em]
  obtain⟨okk,ee⟩:=cM (M:=B11++[MO.lst (aE rs log)]++[MO.lst (aE rs log)]) (i:=B11.length) (.inl (ae af)) aC fun x hx=>uQ 3 29 x (by decide) (mp x hx)
  refine⟨okk,?_⟩
  rw[ee]
  exact .inl (h _)
theorem ok_law(T:Tops P w K mg base)(F:Fun K "law" "law" (top 41) f fd):FnOk P w K mg base CX0 9 f fd AB (spL K (sS "_law_log")) :=
 ym (N:=["_law_script","_law_house_here","_law_log_here","_law_due_here","_law_told","_law_stamps","_law_stamp","_law_hands_here","_law_hand","_law_more_here"]) T.b F (by walk_at "sc") AX (by have:=jx T; have:=lz T; have:=sH T; have:=xF T; have:=qQ T; have:=Dk T; have:=Dl T; have:=AI T; walk_at "dv") Cd
end
end LW
namespace PySem.W.Fast
def tw10040429986982666927:=0
def tw10055753314922513388:=0
def tw10078731534533929770:=0
def tw10106145391193837080:=0
def tw10178259194241107031:=0
def tw10179883919567546831:=0
def tw10205131635753805504:=0
def tw10363495665176142570:=0
def tw1038655624462051481:=0
def tw1048992382086319138:=0
def tw10531337436561549814:=0
def tw10606389072361743395:=0
def tw10718592924773181112:=0
def tw10770534549798817291:=0
def tw10785448670054216024:=0
def tw10826349993797365675:=0
def tw1084431074816138987:=0
def tw1084884635560945295:=0
def tw10862207200743657994:=0
def tw10946442895746339406:=0
def tw10993803511995175612:=0
def tw11026685643211581376:=0
def tw11034755773321647627:=0
def tw11223175146367581657:=0
def tw1125170953930282243:=0
def tw11265261550737767014:=0
def tw11595771470123200684:=0
def tw11617315338815651521:=0
def tw11643802999588841931:=0
def tw11676561006005723543:=0
def tw11684652553670635850:=0
def tw11721569681341445281:=0
def tw11770940587907659937:=0
def tw11812671974363687750:=0
def tw11842632896702832081:=0
def tw11846518958896155302:=0
def tw12088025147130922712:=0
def tw12139270321606253936:=0
def tw12196164454173533056:=0
def tw12269012170623396795:=0
def tw12280514088365983546:=0
def tw12322941563318128539:=0
def tw12516506198289674977:=0
def tw12579638442613362440:=0
def tw12586497705857411001:=0
def tw12804587689799242902:=0
def tw12861653290700486086:=0
def tw12869629776304008624:=0
def tw12871240856793177960:=0
def tw12888151555278248152:=0
def tw13009242453906243990:=0
def tw13080593847147046244:=0
def tw13111818473849192005:=0
def tw13151075498634271086:=0
def tw13174050686163815017:=0
def tw13188729647026929901:=0
def tw1319689664349619275:=0
def tw13213316937937984726:=0
def tw13252104828114187604:=0
def tw13345726897669840823:=0
def tw1336012185891735781:=0
def tw13371403919044440840:=0
def tw13658412831757347467:=0
def tw13791652383452183647:=0
def tw13952916333833874358:=0
def tw14265260427529070524:=0
def tw14342320021090364485:=0
def tw14384694863516169292:=0
def tw14385957839505826552:=0
def tw14409323360092683217:=0
def tw14440548093353299577:=0
def tw14565455263747857648:=0
def tw14684019178866938213:=0
def tw14795469280727578925:=0
def tw14818813979588357347:=0
def tw14823070653860871206:=0
def tw14834964597878310412:=0
def tw14843468205809734776:=0
def tw14909827443019822837:=0
def tw15140777052940511816:=0
def tw1521071626537265715:=0
def tw15229231273604466214:=0
def tw1523504797078749897:=0
def tw15361349740081532362:=0
def tw1537322112331015687:=0
def tw15585300608175535202:=0
def tw15661723284288506739:=0
def tw15709309701031462917:=0
def tw15843066163630895708:=0
def tw15868573026034588277:=0
def tw15955856818998194977:=0
def tw15960360677356585288:=0
def tw16040330134787528075:=0
def tw1615091227651042276:=0
def tw16211671276496793877:=0
def tw16264765116178973561:=0
def tw16267448682790294553:=0
def tw16289125787409395303:=0
def tw16319753645417757393:=0
def tw16362675398655416550:=0
def tw16393965792967415218:=0
def tw16398278360816345579:=0
def tw16436578564847810104:=0
def tw16501539133773136031:=0
def tw16553627893242953056:=0
def tw16611696196479932033:=0
def tw16619108160868655088:=0
def tw1683945654917981743:=0
def tw16873052743525851690:=0
def tw16900814012828154493:=0
def tw16964281321585477277:=0
def tw1722476202156462669:=0
def tw17346240771484649125:=0
def tw17348215715972725973:=0
def tw17483896550549936606:=0
def tw17491753745798703509:=0
def tw17691523969046520382:=0
def tw17764907516581268434:=0
def tw17782600840453899994:=0
def tw17901576192939604253:=0
def tw17946414667127078257:=0
def tw18114261109417333996:=0
def tw18145101665899633741:=0
def tw18171183037250667265:=0
def tw187681449812009161:=0
def tw191614776064448892:=0
def tw2057675528783172300:=0
def tw211670912650421807:=0
def tw2122134273301319742:=0
def tw2221779757637361596:=0
def tw2236440317501800914:=0
def tw2279840320791781703:=0
def tw2292910019081318238:=0
def tw2484345828196107352:=0
def tw2722742861779628498:=0
def tw2788719069341641174:=0
def tw2924232898723585469:=0
def tw3234258651876689522:=0
def tw3273222123575403337:=0
def tw3290993683324846880:=0
def tw3346064803272474565:=0
def tw3386840312833592844:=0
def tw3405878214205636135:=0
def tw3500139239877238307:=0
def tw3525670192749063530:=0
def tw358907800946383011:=0
def tw3690741269551056084:=0
def tw3759549111728310329:=0
def tw376905887471883674:=0
def tw3778418909801006995:=0
def tw3902079167373785002:=0
def tw4025093390355503678:=0
def tw4030000907282947788:=0
def tw413539352935974826:=0
def tw4199772671561650319:=0
def tw4215511187760606678:=0
def tw4229785495929675322:=0
def tw4250190290659196131:=0
def tw4279193737524075063:=0
def tw4303329431731754919:=0
def tw431592807634984447:=0
def tw4434651203380054633:=0
def tw4505673251758889693:=0
def tw4518035496482040971:=0
def tw4655987767334410306:=0
def tw4753986712318062174:=0
def tw5377142932960067082:=0
def tw5428679968682791721:=0
def tw5487721482465413393:=0
def tw5563012123321130759:=0
def tw5623204588223979671:=0
def tw5642516649192914805:=0
def tw57300992380668913:=0
def tw5794132221505341350:=0
def tw5961904531454771821:=0
def tw5977309412633494346:=0
def tw6333800405071460838:=0
def tw6347802396567626150:=0
def tw6376219230954224223:=0
def tw6433598789807435213:=0
def tw648556402464930141:=0
def tw6507005018763480793:=0
def tw6601388804051964556:=0
def tw6606724641151580053:=0
def tw6647231905439903674:=0
def tw6884239932219286374:=0
def tw6914862517967063271:=0
def tw6982754965562598426:=0
def tw6989107015726041485:=0
def tw702889326004456217:=0
def tw7056904784698269471:=0
def tw7280968743985163757:=0
def tw7314561552703507200:=0
def tw7400225575192114681:=0
def tw7435902301400787137:=0
def tw7693585345645932878:=0
def tw7730051694372576969:=0
def tw7900466305696817048:=0
def tw7920615036128277664:=0
def tw7992481367041553864:=0
def tw8081920544561833424:=0
def tw8094553631823732293:=0
def tw8138758809233211575:=0
def tw8167327840537595628:=0
def tw8394952874250978907:=0
def tw8448955964932206286:=0
def tw8452011136341520893:=0
def tw8454812997456879640:=0
def tw8457544438877984031:=0
def tw8476190358261209475:=0
def tw8513235692062612315:=0
def tw8526725732568341603:=0
def tw8647331281636035728:=0
def tw8702600205525697422:=0
def tw8703886306173315096:=0
def tw8836220091744462056:=0
def tw8940860358302060888:=0
def tw9027636165879126841:=0
def tw9075713039759990557:=0
def tw9080886119867858205:=0
def tw9084081039725727437:=0
def tw9102124628158233145:=0
def tw9132130753869356196:=0
def tw9159505027321323856:=0
def tw9185240914090300386:=0
def tw9253259685530829623:=0
def tw9272628697886317871:=0
def tw9420896128067721144:=0
def tw9691647029441283073:=0
def tw9827645389040967570:=0
def tw9938528325134062275:=0
def tw9976407315503213844:=0
end PySem.W.Fast
local macro_rules | `(tactic| walk_at "f1")=>`(tactic| (refine' L2.fnat_mk (by assumption) (by assumption) ?a ?l ?c ?k (fun _ _ _ _ _ _ us hl=>match us,hl with | [_],_=>rfl); (case a=>k_is); (case l=>k_is); (case c=>k_is); (case k=>k_is)))
local macro_rules | `(tactic| walk_at "f2")=>`(tactic| (refine' L2.fnat_mk (by assumption) (by assumption) ?a ?l ?c ?k (fun _ _ _ _ _ _ us hl=>match us,hl with | [_,_],_=>rfl); (case a=>k_is); (case l=>k_is); (case c=>k_is); (case k=>k_is)))
local macro_rules | `(tactic| walk_at "f3")=>`(tactic| (refine' L2.fnat_mk (by assumption) (by assumption) ?a ?l ?c ?k (fun _ _ _ _ _ _ us hl=>match us,hl with | [_,_,_],_=>rfl); (case a=>k_is); (case l=>k_is); (case c=>k_is); (case k=>k_is)))
local macro_rules | `(tactic| walk_at "f4")=>`(tactic| (refine' L2.fnat_mk (by assumption) (by assumption) ?a ?l ?c ?k (fun _ _ _ _ _ _ us hl=>match us,hl with | [_,_,_,_],_=>rfl); (case a=>k_is); (case l=>k_is); (case c=>k_is); (case k=>k_is)))
local macro_rules | `(tactic| walk_at "f5")=>`(tactic| (refine' L2.fnat_mk (by assumption) (by assumption) ?a ?l ?c ?k (fun _ _ _ _ _ _ us hl=>match us,hl with | [_,_,_,_,_],_=>rfl); (case a=>k_is); (case l=>k_is); (case c=>k_is); (case k=>k_is)))
open PySem PySem.W PyProof.Rows
set_option maxRecDepth 100000 in
set_option maxHeartbeats 0 in
theorem PySem.Challenge.cw_talkmarks_k21_what_is_taken_back_holds : PySem.Challenge.rw_talkmarks_k21_what_is_taken_back.Holds := by
 w_on; o_law; k_head; (case hw=>w_witness2)
 k_fill
 refine L2.law_walkL (z:="_law_log") (l:=PySem.Challenge.rw_talkmarks_k21_what_is_taken_back) (k:=9) (st:=LW.top 41) (x:="_law_script") rfl rfl rfl ⟨rfl,by decide,by decide⟩ (fun w h Y=>PySem.W.km_in_of Y) (fun _=>by kernel_rfl) rfl (fun _=>rfl) ?F (fun _ _ _ _ _ _ _=>rfl)
 case F =>
  intro w mg h KX G
  have T:∀ P base,L2.BMain mg base→LW.Tops P w (L2.KOf KX) mg base:=by
   intro P base bm
   dsimp only [L2.KOf]
   constructor
   ·walk_at "f2"
   ·walk_at "f1"
   ·walk_at "f1"
   ·walk_at "f2"
   ·walk_at "f1"
   ·walk_at "f1"
   ·walk_at "f3"
   ·walk_at "f2"
   ·walk_at "f2"
   ·walk_at "f3"
   ·walk_at "f2"
   ·walk_at "f2"
   ·walk_at "f2"
   ·walk_at "f2"
   ·walk_at "f2"
   ·walk_at "f2"
   ·walk_at "f2"
   ·walk_at "f1"
   ·walk_at "f2"
   ·walk_at "f1"
   ·walk_at "f2"
   ·walk_at "f1"
   ·walk_at "f2"
   ·walk_at "f3"
   ·walk_at "f3"
   ·walk_at "f4"
   ·walk_at "f5"
   ·walk_at "f1"
   ·walk_at "f2"
   ·walk_at "f1"
   ·walk_at "f3"
   ·walk_at "f2"
   ·walk_at "f3"
   ·walk_at "f1"
   ·unfold LW.B_ LW.C_
    iterate 9 (refine' L2.TopB.b ?tq ?_; (case tq=>refine' PySem.W.mg_none_of KX G ?tr; (case tr=>k_is)))
    exact .nil
   ·exact bm
  refine ⟨?_,fun base f fd bm F=>LW.ok_law (T _ base bm) F⟩
  try dsimp only [L2.KOf]
  walk_at "f1"
