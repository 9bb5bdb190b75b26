import PyProof.Rows.All
import Wide.All
import OpenK.AllK
import Wide.FinOn
import Lean
import PyProof.EqAt
import PyProof.EqKinds
import PyProof.TupleCall
import PyProof.ListRange
import PyProof.NeKinds
import KE.KUnpack
import KE.KSortTup
import PyProof.ZipIter
import PyProof.Rows.CallKwBuiltin
import PyProof.SetKind
import PyProof.SetRoads
import KE.KDictList
import PyProof.Rows.SetFrom
import PyProof.WalksMore
import PyProof.TupleKey
import KE.KDictLaws
import PyProof.FactsAll.tuple_0
import PyProof.FactsAll.tuple_2
import PyProof.FactsAll.tuple_3
import PyProof.FactsAll.list_3
import PyProof.Rows.SeqMore
import PyProof.AutoSeq1
import PySem.Challenge.RW_signpoly_k63_products_beside
set_option Elab.async false
set_option linter.all false
set_option maxRecDepth 100000
set_option genSizeOf false
noncomputable section
namespace L2
open PySem PySem.Spec PyProof.Rows
abbrev Key:=Sum Int Str
noncomputable def mz:Key->Value->Bool
 | .inl k,v=>Value.isInt k v
 | .inr x,v=>Value.isStrOf x v
noncomputable def Bp (w:World):Key->Int
 | .inl k=>hashInt k
 | .inr x=>hashStr w x
theorem bI:∀ {k:Key}{v:Value},mz k v=true->(∃ i t,k=Sum.inl i/\v=Value.int i t)\/(∃ x t,k=Sum.inr x/\v=Value.str x t)
 | .inl i,v,h=>by
  obtain⟨t,e⟩:=Value.isInt_shape (k:=i) (v:=v) h
  exact .inl ⟨i,t,rfl,e⟩
 | .inr x,v,h=>by
  obtain⟨t,e⟩:=Value.isStrOf_shape (x:=x) (v:=v) h
  exact .inr ⟨x,t,rfl,e⟩
theorem sw (i:Int) (t:Tok):mz (.inl i) (.int i t)=true:=by simp [mz,Value.isInt]
theorem tO (x:Str) (t:Tok):mz (.inr x) (.str x t)=true:=by simp [mz,Value.isStrOf]
theorem z8 (a b:Int):decide ((Sum.inl a:Key)=Sum.inl b)=(a==b):=by
 by_cases e:a=b
 ·subst e;simp
 ·have h:¬ (Sum.inl a:Key)=Sum.inl b:=λq=>e (Sum.inl.inj q)
  rw [decide_eq_false h]
  exact (beq_eq_false_iff_ne.mpr e).symm
theorem Al (a b:Str):decide ((Sum.inr a:Key)=Sum.inr b)=decide (a=b):=by
 by_cases e:a=b
 ·subst e;simp
 ·have h:¬ (Sum.inr a:Key)=Sum.inr b:=λq=>e (Sum.inr.inj q)
  rw [decide_eq_false h,decide_eq_false e]
theorem zL (a:Int) (b:Str):decide ((Sum.inl a:Key)=Sum.inr b)=false:=decide_eq_false (λq=>nomatch q)
theorem zY (a:Str) (b:Int):decide ((Sum.inr a:Key)=Sum.inl b)=false:=decide_eq_false (λq=>nomatch q)
noncomputable def bQ (prog:Program) (w:World):PySem.KeyKind prog w Key where
 is:=mz
 hash:=Bp w
 inj:=λv a b ha hb=>by
  rcases bI ha with⟨i,t,rfl,rfl⟩ | ⟨x,t,rfl,rfl⟩
  ·rcases bI hb with⟨j,u,rfl,e⟩ | ⟨y,u,rfl,e⟩
   ·injection e with e1 _;rw [e1]
   ·exact nomatch e
  ·rcases bI hb with⟨j,u,rfl,e⟩ | ⟨y,u,rfl,e⟩
   ·exact nomatch e
   ·injection e with e1 _;rw [e1]
 byValue:=λk v h=>by
  rcases bI h with⟨i,t,rfl,rfl⟩ | ⟨x,t,rfl,rfl⟩<;>rfl
 pyHash:=λhv h=>by
  rcases bI hv with⟨i,t,rfl,rfl⟩ | ⟨x,t,rfl,rfl⟩
  ·exact wpAny_pyHash_int h
  ·exact wpAny_pyHash_str h
 eqBool:=λhu hv h=>by
  rcases bI hu with⟨i,t,rfl,rfl⟩ | ⟨x,t,rfl,rfl⟩
  ·rcases bI hv with⟨j,u,rfl,rfl⟩ | ⟨y,u,rfl,rfl⟩
   ·rw [z8] at h;exact wpAny_eqBool_int h
   ·rw [zL] at h;exact SeqAt.EqAt.int_str i t y u _ _ _ _ h
  ·rcases bI hv with⟨j,u,rfl,rfl⟩ | ⟨y,u,rfl,rfl⟩
   ·rw [zY] at h;exact SeqAt.EqAt.str_int x t j u _ _ _ _ h
   ·rw [Al] at h;exact wpAny_eqBool_str h
 «strs»:=λk x t v h=>by
  rcases bI h with⟨i,u,rfl,e⟩ | ⟨y,u,rfl,e⟩
  ·exact nomatch e
  ·injection e with e1 _
   subst e1
   cases v<;>rfl
theorem pd (prog:Program) (w:World) (i:Int) (t:Tok):(bQ prog w).is (.inl i) (.int i t)=true:=sw i t
theorem pQ (prog:Program) (w:World) (x:Str) (t:Tok):(bQ prog w).is (.inr x) (.str x t)=true:=tO x t
end L2
namespace L2
open PySem PySem.Spec PyProof.Rows
inductive V where
 | non | bl (b:Bool) | int (i:Int) | str (x:Str) | byt (b:Array UInt8) | flt (b:UInt64) | ref (a:Addr) | ty (n:String)
 deriving DecidableEq
noncomputable def az:V->Value->Prop
 | .non,u=>u=Value.none
 | .bl b,u=>u=Value.bool b
 | .int i,u=>∃ t,u=Value.int i t
 | .str x,u=>∃ t,u=Value.str x t
 | .byt b,u=>∃ t,u=Value.bytes b t
 | .flt b,u=>∃ t,u=Value.float b t
 | .ref a,u=>u=Value.ref a
 | .ty n,u=>u=Value.type n
abbrev ay:List V->List Value->Prop:=Paired az
theorem ay.length {xs:List V}{us:List Value} (r:ay xs us):xs.length=us.length:=Paired.length r
theorem ay.get:∀ {xs:List V}{us:List Value}{i:Nat}{x:V},ay xs us->xs[i]?=some x->∃ u,us[i]?=some u/\az x u
 | _,_,_,_,.nil,e=>by simp at e
 | _,_,0,_,.cons r _,e=>by simp at e;subst e;exact⟨_,rfl,r⟩
 | _,_,i+1,x,.cons _ t,e=>by
  obtain⟨u,h1,h2⟩:=ay.get (i:=i) (x:=x) t (by simpa using e)
  exact⟨u,by simpa using h1,h2⟩
theorem ay.set {x:V}{u:Value} (r:az x u):∀ {xs:List V}{us:List Value} (i:Nat),ay xs us->ay (xs.set i x) (us.set i u)
 | _,_,_,.nil=>.nil
 | _,_,0,.cons _ t=>.cons r t
 | _,_,i+1,.cons q t=>.cons q (ay.set r i t)
theorem ay.append:∀ {xs ys:List V}{us ws:List Value},ay xs us->ay ys ws->ay (xs++ys) (us++ws)
 | _,_,_,_,.nil,s=>s
 | _,_,_,_,.cons r t,s=>.cons r (ay.append t s)
theorem ay.take:∀ {xs:List V}{us:List Value} (n:Nat),ay xs us->ay (xs.take n) (us.take n)
 | _,_,0,_=>.nil
 | _,_,_+1,.nil=>.nil
 | _,_,n+1,.cons r t=>.cons r (ay.take n t)
theorem ay.drop:∀ {xs:List V}{us:List Value} (n:Nat),ay xs us->ay (xs.drop n) (us.drop n)
 | _,_,0,r=>r
 | _,_,_+1,.nil=>.nil
 | _,_,n+1,.cons _ t=>ay.drop n t
noncomputable def iJ:Option V->Option Value->Prop
 | some v,some u=>az v u
 | none,none=>True
 | _,_=>False
noncomputable def KV {κ:Type}:List (κ×V)->List (κ×Value)->Prop:=Paired λ(p:κ×V) (q:κ×Value)=>p.1=q.1/\az p.2 q.2
noncomputable def kV:Key->V
 | .inl i=>.int i
 | .inr x=>.str x
inductive HO where
 | lst (xs:List V)
 | tup (xs:List V)
 | dK (kvs:List (Key×V)) | dT (kvs:List (List Key×V))
 | set (S:Int->Bool) (n:Nat)
 | ins (C dx:Addr) (fs:List (Str×V))
 | own (x:Addr)
 | xd (fs:List (Str×V))
 | met (f x:Addr)
 | rng (lo hi:Int)
 | frz (o:Obj) (u:HO)
 | tbl (ps:Array Value)
 | ext (φ:Heap->Prop)
abbrev Hp:=Addr->Option HO
noncomputable def upd (H:Hp) (a:Addr) (o:HO):Hp:=λb=>if b=a then some o else H b
theorem aP {H:Hp}{a:Addr}{o:HO}:upd H a o a=some o:=by unfold upd;rw [if_pos rfl]
theorem aK {H:Hp}{a b:Addr}{o:HO} (h:b≠a):upd H a o b=H b:=by unfold upd;rw [if_neg h]
theorem Ay {H:Hp}{a b:Addr}{o u:HO} (h:H a=some o) (h':H b=some u) (d:o≠u):a≠b:=by
 intro e;subst e;rw [h] at h';exact d (Option.some.inj h')
theorem aN {H:Hp}{a b:Addr}{o:HO} (h:H a=some o) (h':H b=none):a≠b:=by
 intro e;subst e;rw [h] at h';cases h'
noncomputable def eR (h:Heap) (a:Addr) (its:Array Value):Prop:=∃ o:Obj,h.get? a=some o/\o.cls=.type "tuple"/\(∃ n,o.data=.seq its n)/\o.dict=none
theorem eR.tup {h:Heap}{a:Addr}{its:Array Value} (x:eR h a its):IsTup h a its:=let ⟨o,e,c,n,_⟩:=x;⟨o,e,c,n⟩
theorem eR.new (h:Heap) (its:Array Value):eR (h.push { cls:=.type "tuple",data:=.seq its }) h.objs.size its:=⟨_,Heap.get?_push_size _ rfl,rfl,⟨_,rfl⟩,rfl⟩
section
variable (P:Program) (w:World)
noncomputable def bP (H:Hp) (h:Heap) (a:Addr):HO->Prop
 | .lst xs=>xs.length<=sizeLine/\∃ (its:List Value) (n:Nat),ay xs its/\h.get? a=some { cls:=.type "list",data:=.seq its.toArray n }
 | .tup xs=>xs.length<=sizeLine/\∃ its:List Value,ay xs its/\eR h a its.toArray
 | .dK kvs=>kvs.length<=sizeLine/\(a==sysModules)=false/\∃ vs,KV kvs vs/\h.DictOf (bQ P w) a vs
 | .dT kvs=>kvs.length<=sizeLine/\(a==sysModules)=false/\∃ xs:List (List Key×Addr×Value),
   Paired (λ(p:List Key×V) (q:List Key×Addr×Value)=>p.1=q.1/\H q.2.1=some (.tup (p.1.map kV))/\az p.2 q.2.2) kvs xs/\
   ∃ o es ep,h.get? a=some o/\o.ExactDict/\o.data=.dict es ep/\es.toList=xs.map (entryOfKey (tupleKind (bQ P w)))/\(xs.map (·.1)).Nodup
 | .set S n=>h.SetOf (intKind P w) a S n
 | .ins C dx fs=>H dx=some (.own a)/\fs.length<=1000/\dx≠a/\h.get? a=some (PySem.W.instObj C dx)/\
   ∃ mA,h.Ns1 dx mA/\(∀ f,iJ (fs.lookup f) (mA f))/\PySem.Within mA (fs.map (·.1))
 | .own _=>∃ o,h.get? a=some o
 | .xd fs=>∃ mA,h.Ns1 a mA/\∀ f,iJ (fs.lookup f) (mA f)
 | .rng lo hi=>∃ t u v,h.get? a=some { cls:=.type "range",data:=.fields #[.int lo t,.int hi u,.int 1 v] }
 | .frz o u=>h.get? a=some o/\bP H h a u
 | .tbl ps=>h.get? a=some { cls:=.none,data:=.fields ps }
 | .met f x=>h.get? a=some (PySem.W.methodObj (.ref f) (.ref x))
 | .ext φ=>φ h/\(∃ o,h.get? a=some o)/\∀ h1 h2:Heap,φ h1->(∀ o,h1.get? a=some o->h2.get? a=some o)->φ h2
noncomputable def HOk (H:Hp) (h:Heap):Prop:=∀ a o,H a=some o->bP P w H h a o
end
section
variable {P:Program}{w:World}{H H':Hp}{h h':Heap}{a:Addr}{o:HO}
theorem bP.lt (x:bP P w H h a o):a < h.objs.size:=by
 cases o with
 | lst xs=>obtain⟨_,_,_,_,e⟩:=x;exact Heap.lt_size e
 | tup xs=>obtain⟨_,_,_,p⟩:=x;exact p.tup.lt
 | dK kvs=>obtain⟨_,_,_,_,o,_,_,e,_⟩:=x;exact Heap.lt_size e
 | dT kvs=>obtain⟨_,_,_,_,o,_,_,e,_⟩:=x;exact Heap.lt_size e
 | set S n=>obtain⟨o,_,_,_,e,_⟩:=x;exact Heap.lt_size e
 | ins C dx fs=>obtain⟨_,_,_,e,_⟩:=x;exact Heap.lt_size e
 | own y=>obtain⟨_,e⟩:=x;exact Heap.lt_size e
 | xd fs=>obtain⟨_,⟨_,_,_,e,_⟩,_⟩:=x;exact Heap.lt_size e
 | rng lo hi=>obtain⟨_,_,_,e⟩:=x;exact Heap.lt_size e
 | frz ob u=>obtain⟨e,_⟩:=x;exact Heap.lt_size e
 | tbl ps=>exact Heap.lt_size (show h.get? a=some _ from x)
 | met f y=>exact Heap.lt_size (show h.get? a=some _ from x)
 | ext φ=>obtain⟨_,⟨_,e⟩,_⟩:=x;exact Heap.lt_size e
theorem Paired.mapP {α β:Type}{F G:α->β->Prop}:∀ {l₁:List α}{l₂:List β},Paired F l₁ l₂->(∀ a b,F a b->G a b)->Paired G l₁ l₂
 | _,_,.nil,_=>.nil
 | _,_,.cons r t,f=>.cons (f _ _ r) (Paired.mapP t f)
theorem bP.stay (x:bP P w H h a o) (k:∀ b u,(b=a\/H b=some (.own a))->h.get? b=some u->h'.get? b=some u)
  (ho:∀ b,H b=some (.own a)->H' b=some (.own a)) (ht:∀ b xs,H b=some (.tup xs)->H' b=some (.tup xs)):bP P w H' h' a o:=by
 induction o with
 | lst xs=>obtain⟨z,its,n,r,e⟩:=x;exact⟨z,its,n,r,k _ _ (.inl rfl) e⟩
 | tup xs=>obtain⟨z,its,r,ob,e,c⟩:=x;exact⟨z,its,r,ob,k _ _ (.inl rfl) e,c⟩
 | dK kvs=>obtain⟨z,y,vs,r,ob,es,ep,e,c⟩:=x;exact⟨z,y,vs,r,ob,es,ep,k _ _ (.inl rfl) e,c⟩
 | dT kvs=>
  obtain⟨z,y,xs,r,ob,es,ep,e,c⟩:=x
  exact⟨z,y,xs,Paired.mapP r λp q z=>⟨z.1,ht _ _ z.2.1,z.2.2⟩,ob,es,ep,k _ _ (.inl rfl) e,c⟩
 | set S n=>obtain⟨ob,es,ep,t,e,c⟩:=x;exact⟨ob,es,ep,t,k _ _ (.inl rfl) e,c⟩
 | ins C dx fs=>
  obtain⟨d,z,ne,e,mA,⟨od,es,ep,e2,c⟩,r⟩:=x
  exact⟨ho _ d,z,ne,k _ _ (.inl rfl) e,mA,⟨od,es,ep,k _ _ (.inr d) e2,c⟩,r⟩
 | own y=>obtain⟨ob,e⟩:=x;exact⟨ob,k _ _ (.inl rfl) e⟩
 | xd fs=>obtain⟨mA,⟨od,es,ep,e,c⟩,r⟩:=x;exact⟨mA,⟨od,es,ep,k _ _ (.inl rfl) e,c⟩,r⟩
 | rng lo hi=>obtain⟨t,u,v,e⟩:=x;exact⟨t,u,v,k _ _ (.inl rfl) e⟩
 | frz ob u ih=>obtain⟨e,q⟩:=x;exact⟨k _ _ (.inl rfl) e,ih q⟩
 | tbl ps=>
  have e:h.get? a=some { cls:=.none,data:=.fields ps }:=x
  show h'.get? a=some { cls:=.none,data:=.fields ps }
  exact k a _ (.inl rfl) e
 | met f y=>
  have e:h.get? a=some (PySem.W.methodObj (.ref f) (.ref y)):=x
  show h'.get? a=some (PySem.W.methodObj (.ref f) (.ref y))
  exact k a _ (.inl rfl) e
 | ext φ=>obtain⟨p,⟨o,e⟩,st⟩:=x;exact⟨st _ _ p λo q=>k _ _ (.inl rfl) q,⟨o,k _ _ (.inl rfl) e⟩,st⟩
theorem HOk.lt (x:HOk P w H h) (e:H a=some o):a < h.objs.size:=(x a o e).lt
theorem HOk.fresh (x:HOk P w H h) (e:h.objs.size<=a):H a=none:=by
 cases q:H a with
 | none=>rfl
 | some u=>exact absurd (Nat.lt_of_lt_of_le (x.lt q) e) (Nat.lt_irrefl _)
theorem HOk.kept (x:HOk P w H h) (k:∀ b u,h.get? b=some u->h'.get? b=some u):HOk P w H h':=λa o e=>
 (x a o e).stay (λb u _ q=>k b u q) (λ_ q=>q) λ_ _ q=>q
theorem HOk.laid (x:HOk P w H h) (k:∀ b u,h.get? b=some u->h'.get? b=some u) (hp:h.objs.size<=a) (new:bP P w (upd H a o) h' a o):HOk P w (upd H a o) h':=λb u e=>by
 have hn:=x.fresh hp
 by_cases hb:b=a
 ·subst hb;rw [aP] at e;cases e;exact new
 ·rw [aK hb] at e
  exact (x b u e).stay (λc v _ q=>k c v q) (λc q=>by rw [aK (aN q hn)];exact q) λc xs q=>by rw [aK (aN q hn)];exact q
end
noncomputable def Rd (H:Hp) (a:Addr) (u:HO):Prop:=H a=some u\/∃ o,H a=some (.frz o u)
theorem Rd.of {H:Hp}{a:Addr}{u:HO} (h:H a=some u):Rd H a u:=.inl h
theorem Rd.ok {P:Program}{w:World}{H:Hp}{h:Heap}{a:Addr}{u:HO} (r:Rd H a u) (x:HOk P w H h):bP P w H h a u:=by
 rcases r with r | ⟨o,r⟩
 ·exact x a u r
 ·obtain⟨_,q⟩:=x a _ r
  exact q
noncomputable def Mut:Option HO->Prop
 | some (.lst _)=>True
 | some (.dK _)=>True
 | some (.dT _)=>True
 | some (.set _ _)=>True
 | some (.ins _ _ _)=>True
 | some (.ext _)=>True
 | _=>False
section
variable {P:Program}{w:World}{H:Hp}{h h':Heap}{x e:Addr}{o':HO}
theorem HOk.write (ok:HOk P w H h) (mu:Mut (H x)) (he:e=x\/H e=some (.own x)) (k:∀ b u,b≠e->h.get? b=some u->h'.get? b=some u) (heo:∃ u,h'.get? e=some u)
  (new:bP P w (upd H x o') h' x o'):HOk P w (upd H x o') h':=λb u q=>by
 have nown:∀ c y,H c=some (.own y)->c≠x:=λc y r z=>by subst z;rw [r] at mu;exact mu
 have ntup:∀ c xs,H c=some (.tup xs)->c≠x:=λc xs r z=>by subst z;rw [r] at mu;exact mu
 by_cases hb:b=x
 ·subst hb;rw [aP] at q;cases q;exact new
 ·rw [aK hb] at q
  by_cases hbe:b=e
  ·have q':H b=some (.own x):=by
    rcases he with z | z
    ·exact absurd (hbe.trans z) hb
    ·rw [hbe];exact z
   rw [q] at q';cases q'
   obtain⟨v,hv⟩:=heo
   exact⟨v,by rw [hbe];exact hv⟩
  ·refine (ok b u q).stay (λc v hc r=>k c v ?_ r) (λc r=>by rw [aK (nown c b r)];exact r) λc xs r=>by rw [aK (ntup c xs r)];exact r
   rcases hc with rfl | hc
   ·exact hbe
   ·rintro rfl
    rcases he with z | z
    ·exact nown c b hc z
    ·rw [hc] at z;cases z;exact hb rfl
end
structure Un (fs ex:List Addr) (H H':Hp) (h h':Heap):Prop where
 keep:∀ b o,h.get? b=some o->H b=none->b ∉ fs->b ∉ ex->h'.get? b=some o
 slot:∀ b o,h.get? b=some o->H b=none->b ∈ fs->b ∉ ex->∃ sl,h'.get? b=some { o with slots:=sl }
 free:∀ b o,h.get? b=some o->H b=none->b ∉ ex->H' b=none
 there:∀ b o,h.get? b=some o->b ∉ ex->∃ o',h'.get? b=some o'
 tups:∀ b xs,H b=some (.tup xs)->H' b=some (.tup xs)
 frzs:∀ b o u,H b=some (.frz o u)->H' b=some (.frz o u)
 tbls:∀ b ps,H b=some (.tbl ps)->∃ more,H' b=some (.tbl (ps++more))
section
variable {fs fs' ex ex':List Addr}{H H1 H2:Hp}{h h1 h2 h':Heap}{a x e:Addr}{o:HO}
theorem Un.any (u:Un fs ex H H1 h h1) {b:Addr}{ob:Obj} (q:h.get? b=some ob) (n:H b=none) (hx:b ∉ ex):∃ sl,h1.get? b=some { ob with slots:=sl }:=by
 by_cases hb:b ∈ fs
 ·exact u.slot b ob q n hb hx
 ·exact⟨ob.slots,u.keep b ob q n hb hx⟩
theorem Un.kept (k:∀ b u,h.get? b=some u->h'.get? b=some u):Un fs ex H H h h':=
 ⟨λb ob q _ _ _=>k b ob q,λb ob q _ _ _=>⟨ob.slots,k b ob q⟩,λ_ _ _ n _=>n,λb ob q _=>⟨ob,k b ob q⟩,λ_ _ q=>q,λ_ _ _ q=>q,λ_ ps q=>⟨#[],by rw [q];simp⟩⟩
theorem Un.refl:Un fs ex H H h h:=Un.kept λ_ _ q=>q
theorem Un.laid (k:∀ b u,h.get? b=some u->h'.get? b=some u) (hp:h.objs.size<=a) (hn:H a=none):Un fs ex H (upd H a o) h h' where
 keep:=λb u q _ _ _=>k b u q
 slot:=λb u q _ _ _=>⟨u.slots,k b u q⟩
 free:=λb u q n _=>by rw [aK (Nat.ne_of_lt (Nat.lt_of_lt_of_le (Heap.lt_size q) hp))];exact n
 there:=λb u q _=>⟨u,k b u q⟩
 tups:=λb xs q=>by rw [aK (aN q hn)];exact q
 frzs:=λb u xs q=>by rw [aK (aN q hn)];exact q
 tbls:=λb ps q=>⟨#[],by rw [aK (aN q hn),q];simp⟩
theorem Un.write (mu:Mut (H x)) (he:e=x\/H e=some (.own x)) (k:∀ b u,b≠e->h.get? b=some u->h'.get? b=some u) (heo:∃ u,h'.get? e=some u):Un fs ex H (upd H x o) h h':=by
 have hx:∀ b,H b=none->b≠x:=λb n z=>by subst z;rw [n] at mu;exact mu
 have hb:∀ b,H b=none->b≠e:=λb n z=>by
  subst z
  rcases he with r | r
  ·exact hx b n r
  ·rw [n] at r;cases r
 have hm:∀ b u,H b=some u->¬ Mut (some u)->b≠x:=λb u q nm z=>by subst z;rw [q] at mu;exact nm mu
 refine⟨λb u q n _ _=>k b u (hb b n) q,λb u q n _ _=>⟨u.slots,k b u (hb b n) q⟩,λb u q n _=>by rw [aK (hx b n)];exact n,λb u q _=>?_,
  λb xs q=>by rw [aK (hm b _ q λz=>z)];exact q,λb u xs q=>by rw [aK (hm b _ q λz=>z)];exact q,λb ps q=>⟨#[],by rw [aK (hm b _ q λz=>z),q];simp⟩⟩
 by_cases hbe:b=e
 ·subst hbe;exact heo
 ·exact⟨u,k b u hbe q⟩
end
noncomputable def trk (h:Heap) (H:Hp):List Addr:=(List.range h.objs.size).filter λa=>(H a).isSome
noncomputable def mJ (h:Heap) (H:Hp):Heap:=PySem.W.hideAll h (trk h H)
theorem sA (h:Heap) (H:Hp):(mJ h H).objs.size=h.objs.size:=PySem.W.hideAll_size _ _
theorem vq {h:Heap}{H:Hp}{b:Addr}{o:Obj} (e:h.get? b=some o) (n:H b=none):(mJ h H).get? b=some o:=
 PySem.W.hideAll_get _ e λhm=>by
  have q:(H b).isSome=true:=(List.mem_filter.mp hm).2
  rw [n] at q;simp at q
theorem wH {h:Heap}{H:Hp}{b:Addr}{o:Obj} (e:(mJ h H).get? b=some o):h.get? b=some o/\H b=none:=by
 have e':h.get? b=some o:=PySem.W.of_hideAll (trk h H) e
 refine⟨e',?_⟩
 cases q:H b with
 | none=>rfl
 | some x=>
  have hm:b ∈ trk h H:=List.mem_filter.mpr ⟨List.mem_range.mpr (Heap.lt_size e'),by simp [q]⟩
  have z:(mJ h H).get? b=none:=PySem.W.hideAll_none (trk h H) hm
  rw [z] at e;cases e
end L2
namespace L2
open PySem PySem.Spec PyProof.Rows
structure Mod (K:PySem.W.Frag) (mg:Str->Option Value) (base:Heap):Prop where
 kin:K.In base
 glob:base.Ns mainGlobals mg
 blt:∃ mb,base.Ns builtinsNs mb/\∀ x:Str,x≠"__name__"->mb x=bootBuiltins x
 nolimit:base.NoLimit
structure Cx where
 prog:Program
 w:World
 K:PySem.W.Frag
 mg:Str->Option Value
 base:Heap
 A:Around
 N:List Str
 s₀:Shared
 H₀:Hp
 env:Env
 outer:List Env
 stack:List Env
 ex:List Addr
 fn:Str->Bool
 calm:Bool
 pn:List (Addr×Obj)
 xe:Value->Shared->Prop
noncomputable def frs (l:List Env):List Addr:=l.filterMap (·.frame)
abbrev Cx.fs (X:Cx):List Addr:=frs X.outer
noncomputable def Vis (sc:Scope) (x:Str):Prop:=sc.names.lookup x=some .local\/sc.names.lookup x=some .cell\/sc.names.lookup x=some .free
noncomputable def Loc (sc:Scope) (x:Str):Prop:=sc.names.lookup x=some .local\/sc.names.lookup x=some .cell
noncomputable def Br (env:Env) (h:Heap) (m:Str->Option Value) (x:Str) (u:Value):Prop:=
 (env.kindOf x=some .local/\m x=some u)\/((env.kindOf x=some .cell\/env.kindOf x=some .free)/\∃ c,env.cells.lookup x=some c/\h.IsCell c (some u))
structure Cx.Ok (X:Cx):Prop where
 mod:Mod X.K X.mg X.base
 kind:X.env.scope.kind=.function
 glob:X.env.globals=mainGlobals
 blt:X.env.builtins=builtinsNs
 above:X.s₀.heap.objs.size<=X.env.locals
 inj:∀ x y c,X.env.cells.lookup x=some c->X.env.cells.lookup y=some c->x=y
 has:∀ x,(X.env.kindOf x=some .cell\/X.env.kindOf x=some .free)->∃ c,X.env.cells.lookup x=some c
 cab:∀ x c,X.fn x=true->X.env.cells.lookup x=some c->X.s₀.heap.objs.size<=c
 hd:X.calm=true->X.A.handled=none
 frames:X.A.frames=some X.stack
 stk:X.stack=X.outer\/(X.stack=X.env::X.outer/\X.env.frame=some X.env.locals)
 exf:∀ b ∈ X.ex,b≠X.env.locals/\∀ x c,X.env.cells.lookup x=some c->c≠b
 bs:∀ b o,X.base.get? b=some o->X.s₀.heap.get? b=some o/\X.H₀ b=none
 bsz:X.base.objs.size<=X.s₀.heap.objs.size
 noex:∀ b o,X.base.get? b=some o->b ∉ X.ex
 exfs:∀ b ∈ X.ex,b ∉ X.fs
 funs:X.s₀.heap.FunFrames X.base X.outer
 frf:∀ b ∈ X.fs,X.H₀ b=none
structure Inv (X:Cx) (pins:List (Addr×Obj)) (σ:List (Option V)) (H:Hp) (s:Shared):Prop where
 ok:X.Ok
 os:s.os=X.s₀.os
 bare:AllBare s.gens
 base:Un X.fs X.ex X.H₀ H X.s₀.heap s.heap
 loc:∃ m,s.heap.Ns X.env.locals m/\∀ (i:Nat) (x:Str) (v:V),X.N[i]?=some x->σ[i]?=some (some v)->Vis X.env.scope x->∃ u,az v u/\Br X.env s.heap m x u
 cell:∀ x c,X.env.cells.lookup x=some c->∃ v,s.heap.IsCell c v
 free:H X.env.locals=none
 freeC:∀ x c,X.env.cells.lookup x=some c->H c=none
 pin:∀ p ∈ X.pn++pins,s.heap.get? p.1=some p.2/\H p.1=none/\p.1≠X.env.locals/\p.1 ∉ X.fs/\∀ v,p.2.data≠.cell v
 hok:HOk X.prog X.w H s.heap
 len:σ.length=X.N.length
section
variable {X:Cx}{pins:List (Addr×Obj)}{σ:List (Option V)}{H H':Hp}{s:Shared}{h':Heap}
theorem Cx.Ok.nofr (ok:X.Ok) {b:Addr}{o:Obj} (e:X.base.get? b=some o):b ∉ X.fs:=λhb=>by
 have:=(ok.funs.mem hb).1
 rw [e] at this;cases this
theorem Inv.bs (I:Inv X pins σ H s):∀ b o,X.base.get? b=some o->s.heap.get? b=some o/\H b=none:=λb o e=>
 ⟨I.base.keep b o (I.ok.bs b o e).1 (I.ok.bs b o e).2 (I.ok.nofr e) (I.ok.noex b o e),I.base.free b o (I.ok.bs b o e).1 (I.ok.bs b o e).2 (I.ok.noex b o e)⟩
theorem Inv.bk (I:Inv X pins σ H s):∀ b o,X.base.get? b=some o->s.heap.get? b=some o:=λb o e=>(I.bs b o e).1
theorem Inv.mod (I:Inv X pins σ H s):Mod X.K X.mg X.base:=I.ok.mod
theorem Inv.kIn (I:Inv X pins σ H s):X.K.In s.heap:=I.ok.mod.kin.keeps I.bk
theorem Inv.fr (I:Inv X pins σ H s):∃ m,Fr X.base X.env.locals s.heap m:=
 let ⟨m,hn,_⟩:=I.loc
 ⟨m,hn,I.bk,Nat.le_trans I.ok.bsz I.ok.above⟩
theorem Inv.lt (I:Inv X pins σ H s):X.env.locals < s.heap.objs.size:=let ⟨_,hn,_⟩:=I.loc;hn.lt
theorem Inv.sz (I:Inv X pins σ H s):X.s₀.heap.objs.size<=s.heap.objs.size:=Nat.le_trans I.ok.above (Nat.le_of_lt I.lt)
theorem Inv.nofs (I:Inv X pins σ H s) {a:Addr} (h:s.heap.objs.size<=a):a ∉ X.fs:=λhb=>by
 obtain⟨_,o,ho,_⟩:=I.ok.funs.mem hb
 exact absurd (Nat.lt_of_lt_of_le (Heap.lt_size ho) (Nat.le_trans I.sz h)) (Nat.lt_irrefl _)
theorem Inv.cne (I:Inv X pins σ H s):∀ x c,X.env.cells.lookup x=some c->c≠X.env.locals:=λx c e z=>by
 obtain⟨v,o,ho,hd⟩:=I.cell x c e
 obtain⟨m,⟨o',es,ep,ho',hd',_⟩,_⟩:=I.loc
 rw [z,ho'] at ho;cases ho;rw [hd'] at hd;cases hd
theorem Inv.funs (I:Inv X pins σ H s):s.heap.FunFrames X.base X.outer:=by
 have all:∀ (l:List Env),(∀ b ∈ frs l,b ∈ X.fs)->X.s₀.heap.FunFrames X.base l->s.heap.FunFrames X.base l:=by
  intro l
  induction l with
  | nil=>intro _ _;trivial
  | cons env r ih=>
   intro hs hl
   obtain⟨hk,⟨L,o,hf,hn,ho,hd⟩,hr⟩:=hl
   have hL:L ∈ X.fs:=hs L (by unfold frs;rw [List.filterMap_cons,hf];exact List.mem_cons_self)
   obtain⟨sl,e⟩:=I.base.slot L o ho (I.ok.frf L hL) hL λz=>I.ok.exfs L z hL
   exact⟨hk,⟨L,_,hf,hn,e,hd⟩,ih (λb hb=>hs b (by unfold frs;rw [List.filterMap_cons,hf];exact List.mem_cons_of_mem _ hb)) hr⟩
 exact all X.outer (λ_ hb=>hb) I.ok.funs
theorem Inv.stack (I:Inv X pins σ H s):s.heap.FunFrames X.base X.stack:=by
 rcases I.ok.stk with e | ⟨e,hf⟩
 ·rw [e];exact I.funs
 ·rw [e]
  obtain⟨m,hn,_⟩:=I.loc
  refine .cons (by rw [I.ok.kind];decide) hf hn ?_ I.funs
  exact Heap.get?_none_of_le (Nat.le_trans I.ok.bsz I.ok.above)
theorem Inv.stkSub (I:Inv X pins σ H s):∀ b ∈ frs X.stack,b ∈ X.env.locals::X.fs:=λb hb=>by
 rcases I.ok.stk with e | ⟨e,hf⟩
 ·rw [e] at hb;exact List.mem_cons_of_mem _ hb
 ·rw [e] at hb
  unfold frs at hb
  rw [List.filterMap_cons,hf] at hb
  exact hb
theorem Inv.stkFree (I:Inv X pins σ H s):∀ b ∈ frs X.stack,H b=none:=λb hb=>by
 rcases List.mem_cons.mp (I.stkSub b hb) with e | hb
 ·rw [e];exact I.free
 ·obtain⟨_,o,ho,_⟩:=I.ok.funs.mem hb
  exact I.base.free b o ho (I.ok.frf b hb) λz=>I.ok.exfs b z hb
theorem Inv.step {g':Array GenState}{t':Nat}{d':Drawn}{ch:List Addr} (I:Inv X pins σ H s)
  (hch:∀ b ∈ ch,(b ∈ X.ex\/X.s₀.heap.objs.size<=b)/\b≠X.env.locals/\(∀ x c,X.env.cells.lookup x=some c->c≠b)/\∀ p ∈ X.pn++pins,p.1≠b)
  (keep:∀ b o,b≠X.env.locals->b ∉ X.fs->b ∉ ch->s.heap.get? b=some o->H b=none->h'.get? b=some o)
  (slot:∀ b o,b≠X.env.locals->b ∈ X.fs->b ∉ ch->s.heap.get? b=some o->H b=none->∃ sl,h'.get? b=some { o with slots:=sl }) (free:∀ b o,b ∉ ch->s.heap.get? b=some o->H b=none->H' b=none)
  (there:∀ b o,b ∉ ch->s.heap.get? b=some o->∃ o',h'.get? b=some o')
  (tups:∀ b xs,H b=some (.tup xs)->H' b=some (.tup xs)) (frzs:∀ b o u,H b=some (.frz o u)->H' b=some (.frz o u)) (tbls:∀ b ps,H b=some (.tbl ps)->∃ more,H' b=some (.tbl (ps++more)))
  (ns:∀ m,s.heap.Ns X.env.locals m->h'.Ns X.env.locals m) (hok:HOk X.prog X.w H' h') (hg:AllBare g') :
  Inv X pins σ H' { s with heap:=h',gens:=g',drawn:=d',toks:=t' }:=by
 have neL:∀ b o,X.s₀.heap.get? b=some o->b≠X.env.locals:=λb o e=>Nat.ne_of_lt (Nat.lt_of_lt_of_le (Heap.lt_size e) I.ok.above)
 have neC:∀ b o,X.s₀.heap.get? b=some o->b ∉ X.ex->b ∉ ch:=λb o e hx hb=>by
  rcases (hch b hb).1 with z | z
  ·exact hx z
  ·exact absurd (Nat.lt_of_lt_of_le (Heap.lt_size e) z) (Nat.lt_irrefl _)
 have cellK:∀ x c,X.env.cells.lookup x=some c->∀ v,s.heap.IsCell c v->h'.IsCell c v:=λx c e v ⟨o,ho,hd⟩=>by
  have nch:c ∉ ch:=λz=>(hch c z).2.2.1 x c e rfl
  by_cases hc:c ∈ X.fs
  ·obtain⟨sl,q⟩:=slot c o (I.cne x c e) hc nch ho (I.freeC x c e)
   exact⟨_,q,hd⟩
  ·exact⟨o,keep c o (I.cne x c e) hc nch ho (I.freeC x c e),hd⟩
 refine⟨I.ok,I.os,hg,⟨λb o e n hb hx=>?_,λb o e n hb hx=>?_,λb o e n hx=>?_,λb o e hx=>?_,λb xs e=>tups b xs (I.base.tups b xs e),λb o xs e=>frzs b o xs (I.base.frzs b o xs e),λb ps e=>?_⟩,?_,λx c e=>?_,?_,λx c e=>?_,λp hp=>?_,hok,I.len⟩
 ·exact keep b o (neL b o e) hb (neC b o e hx) (I.base.keep b o e n hb hx) (I.base.free b o e n hx)
 ·obtain⟨sl,e1⟩:=I.base.slot b o e n hb hx
  obtain⟨sl',e2⟩:=slot b _ (neL b o e) hb (neC b o e hx) e1 (I.base.free b o e n hx)
  exact⟨sl',e2⟩
 ·obtain⟨o',e1⟩:=I.base.there b o e hx
  exact free b o' (neC b o e hx) e1 (I.base.free b o e n hx)
 ·obtain⟨o',e1⟩:=I.base.there b o e hx
  exact there b o' (neC b o e hx) e1
 ·obtain⟨m1,e1⟩:=I.base.tbls b ps e
  obtain⟨m2,e2⟩:=tbls b _ e1
  exact⟨m1++m2,by rw [e2,Array.append_assoc]⟩
 ·obtain⟨m,hn,hl⟩:=I.loc
  refine⟨m,ns m hn,λi x v e1 e2 e3=>?_⟩
  obtain⟨u,r,l⟩:=hl i x v e1 e2 e3
  refine⟨u,r,?_⟩
  rcases l with l | ⟨k,c,e,z⟩
  ·exact .inl l
  ·exact .inr ⟨k,c,e,cellK x c e _ z⟩
 ·obtain⟨v,z⟩:=I.cell x c e
  exact⟨v,cellK x c e v z⟩
 ·obtain⟨m,⟨o,_,_,ho,_⟩,_⟩:=I.loc
  exact free _ o (λz=>(hch _ z).2.1 rfl) ho I.free
 ·obtain⟨v,o,ho,hd⟩:=I.cell x c e
  exact free c o (λz=>(hch c z).2.2.1 x c e rfl) ho (I.freeC x c e)
 ·obtain⟨e,n,ne,nf,d⟩:=I.pin p hp
  have nch:p.1 ∉ ch:=λz=>(hch p.1 z).2.2.2 p hp rfl
  exact⟨keep p.1 p.2 ne nf nch e n,free p.1 p.2 nch e n,ne,nf,d⟩
theorem Inv.un {t':Nat} (I:Inv X pins σ H s) (u:Un X.fs [] H H' s.heap h') (hok:HOk X.prog X.w H' h'):Inv X pins σ H' { s with heap:=h',toks:=t' }:=by
 obtain⟨m,⟨o,es,ep,ho,r⟩,_⟩:=id I.loc
 obtain⟨sl,hL⟩:=u.any ho I.free (by simp)
 exact I.step (g':=s.gens) (d':=s.drawn) (ch:=[]) (λ_ z=>nomatch z) (λb o _ hb _ e n=>u.keep b o e n hb (by simp)) (λb o _ hb _ e n=>u.slot b o e n hb (by simp)) (λb o _ e n=>u.free b o e n (by simp)) (λb o _ e=>u.there b o e (by simp)) u.tups u.frzs u.tbls (λm' hm=>by
  obtain⟨o',es',ep',ho',r'⟩:=hm
  rw [ho] at ho';cases ho'
  exact⟨_,es',ep',hL,r'⟩) hok I.bare
theorem Inv.call {g':Array GenState}{t':Nat}{d':Drawn}{ch:List Addr} (I:Inv X pins σ H s) (u:Un (frs X.stack) ch H H' s.heap h') (hok:HOk X.prog X.w H' h') (hg:AllBare g')
  (hch:∀ b ∈ ch,(b ∈ X.ex\/X.s₀.heap.objs.size<=b)/\b≠X.env.locals/\(∀ x c,X.env.cells.lookup x=some c->c≠b)/\∀ p ∈ X.pn++pins,p.1≠b) :
  Inv X pins σ H' { s with heap:=h',gens:=g',drawn:=d',toks:=t' }:=by
 obtain⟨m,⟨o,es,ep,ho,r⟩,_⟩:=id I.loc
 obtain⟨sl,hL⟩:=u.any ho I.free λz=>(hch _ z).2.1 rfl
 exact I.step (ch:=ch) hch (λb o hL hb hc e n=>u.keep b o e n (λz=>(List.mem_cons.mp (I.stkSub b z)).elim hL hb) hc) (λb o _ _ hc e n=>u.any e n hc) (λb o hc e n=>u.free b o e n hc) (λb o hc e=>u.there b o e hc) u.tups u.frzs u.tbls (λm' hm=>by
  obtain⟨o',es',ep',ho',r'⟩:=hm
  rw [ho] at ho';cases ho'
  exact⟨_,es',ep',hL,r'⟩) hok hg
theorem Inv.turned {t':Nat}{it:Addr} (I:Inv X pins σ H s) (k:∀ b o,b≠it->s.heap.get? b=some o->h'.get? b=some o) (hn:H it=none) (hL:it≠X.env.locals)
  (h1:it ∈ X.ex\/X.s₀.heap.objs.size<=it) (h2:∀ x c,X.env.cells.lookup x=some c->c≠it) (h3:∀ p ∈ X.pn++pins,p.1≠it):Inv X pins σ H { s with heap:=h',toks:=t' }:=by
 have nit:∀ b u,H b=some u->b≠it:=λb u e z=>by rw [z,hn] at e;cases e
 refine I.step (g':=s.gens) (d':=s.drawn) (ch:=[it]) (λb hb=>?_) (λb o _ _ hc e _=>k b o (λz=>hc (by simp [z])) e) (λb o _ _ hc e _=>⟨o.slots,k b o (λz=>hc (by simp [z])) e⟩) (λ_ _ _ _ n=>n)
  (λb o hc e=>⟨o,k b o (λz=>hc (by simp [z])) e⟩) (λ_ _ e=>e) (λ_ _ _ e=>e) (λb ps e=>⟨#[],by rw [e];simp⟩) (λm hm=>?_) (λb u e=>?_) I.bare
 ·have e:b=it:=by simpa using hb
  subst e
  exact⟨h1,hL,h2,h3⟩
 ·obtain⟨o,es,ep,ho,r⟩:=hm
  exact⟨o,es,ep,k _ o (Ne.symm hL) ho,r⟩
 ·refine (I.hok b u e).stay (λc v hc q=>k c v ?_ q) (λ_ q=>q) λ_ _ q=>q
  rcases hc with z | z
  ·rw [z];exact nit b u e
  ·exact nit c _ z
theorem Inv.tok (I:Inv X pins σ H s) (t:Nat):Inv X pins σ H { s with toks:=t }:=I.un (h':=s.heap) (t':=t) Un.refl I.hok
theorem Inv.kept {t':Nat} (I:Inv X pins σ H s) (k:∀ b u,s.heap.get? b=some u->h'.get? b=some u):Inv X pins σ H { s with heap:=h',toks:=t' }:=I.un (Un.kept k) (I.hok.kept k)
theorem Inv.laid {a:Addr}{o:HO}{t':Nat} (I:Inv X pins σ H s) (k:∀ b u,s.heap.get? b=some u->h'.get? b=some u) (hp:s.heap.objs.size<=a) (new:bP X.prog X.w (upd H a o) h' a o) :
  Inv X pins σ (upd H a o) { s with heap:=h',toks:=t' }:=I.un (Un.laid k hp (I.hok.fresh hp)) (I.hok.laid k hp new)
theorem Inv.write {x e:Addr}{o:HO}{t':Nat} (I:Inv X pins σ H s) (mu:Mut (H x)) (he:e=x\/H e=some (.own x)) (k:∀ b u,b≠e->s.heap.get? b=some u->h'.get? b=some u) (heo:∃ u,h'.get? e=some u)
  (new:bP X.prog X.w (upd H x o) h' x o):Inv X pins σ (upd H x o) { s with heap:=h',toks:=t' }:=I.un (Un.write mu he k heo) (I.hok.write mu he k heo new)
theorem Inv.weak {σ':List (Option V)} (I:Inv X pins σ H s) (hl:σ'.length=σ.length) (w:∀ (i:Nat) v,σ'[i]?=some (some v)->σ[i]?=some (some v)):Inv X pins σ' H s:=
 ⟨I.ok,I.os,I.bare,I.base,let ⟨m,hn,hl'⟩:=I.loc;⟨m,hn,λi x v e1 e2 e3=>hl' i x v e1 (w i v e2) e3⟩,I.cell,I.free,I.freeC,I.pin,I.hok,hl.trans I.len⟩
theorem Inv.pins_of {pins':List (Addr×Obj)} (I:Inv X pins σ H s) (h:∀ p ∈ pins',s.heap.get? p.1=some p.2/\H p.1=none/\p.1≠X.env.locals/\p.1 ∉ X.fs/\∀ v,p.2.data≠.cell v):Inv X pins' σ H s:=
 ⟨I.ok,I.os,I.bare,I.base,I.loc,I.cell,I.free,I.freeC,λp hp=>(List.mem_append.mp hp).elim (λz=>I.pin p (List.mem_append_left _ z)) (h p),I.hok,I.len⟩
theorem oX {N:List Str} (hN:N.Nodup) {i j:Nat}{x:Str} (a:N[i]?=some x) (b:N[j]?=some x):i=j:=by
 obtain⟨h1,e1⟩:=List.getElem?_eq_some_iff.mp a
 obtain⟨h2,e2⟩:=List.getElem?_eq_some_iff.mp b
 exact (List.getElem_inj hN).mp (e1.trans e2.symm)
theorem sY {M:Model}{A:Around}{E:Value->Shared->Prop}{i:Nat}{x:Str}{v:V}{u:Value}{Q:Unit->Shared->Prop} (I:Inv X pins σ H s) (hN:X.N.Nodup) (hi:X.N[i]?=some x) (hx:Loc X.env.scope x) (r:az v u)
  (h:∀ s',Inv X pins (σ.set i (some v)) H s'->(∃ a,Heap.SameBut a s.heap s'.heap/\(a=X.env.locals\/X.env.cells.lookup x=some a))->Q () s') (hf:X.fn x=true\/X.env.scope.names.lookup x=some .local:=by first | exact .inl rfl | exact .inr rfl | assumption):wpAny M A (storeName X.env x u) Q E s:=by
 obtain⟨m,hn,hl⟩:=id I.loc
 have hcls:(X.env.scope.kind==.class || (X.env.scope.kind==.module && X.env.locals != X.env.globals))=false:=by rw [I.ok.kind];rfl
 have hiσ:i < σ.length:=by rw [I.len];exact (List.getElem?_eq_some_iff.mp hi).1
 have cne:=I.cne
 have tracked:∀ {a:Addr}{h':Heap},(∃ o,s.heap.get? a=some o/\H a=none)->Heap.SameBut a s.heap h'->HOk X.prog X.w H h':=λ{a h'} ha hs b ob e=>by
  obtain⟨_,_,hfree⟩:=ha
  refine (I.hok b ob e).stay (λc w' hc q=>(hs.2 c ?_).trans q) (λ_ q=>q) λ_ _ q=>q
  rintro rfl
  rcases hc with rfl | hc
  ·rw [hfree] at e;cases e
  ·rw [hfree] at hc;cases hc
 rcases hx with hk | hk
 ·refine wpAny_storeName_local hk hn (λh' hn' hs=>?_) hcls
  obtain⟨oL,_,_,hoL,_⟩:=id hn
  refine h _ ⟨I.ok,I.os,I.bare,⟨λb o e n hb hx=>?_,λb o e n hb hx=>?_,I.base.free,λb o e hx=>?_,I.base.tups,I.base.frzs,I.base.tbls⟩,⟨_,hn',λj y v' e1 e2 e3=>?_⟩,λy c e=>?_,I.free,I.freeC,λp hp=>?_,tracked ⟨oL,hoL,I.free⟩ hs,by simpa using I.len⟩ ⟨_,hs,.inl rfl⟩
  ·exact (hs.2 b (Nat.ne_of_lt (Nat.lt_of_lt_of_le (Heap.lt_size e) I.ok.above))).trans (I.base.keep b o e n hb hx)
  ·obtain⟨sl,e1⟩:=I.base.slot b o e n hb hx
   exact⟨sl,(hs.2 b (Nat.ne_of_lt (Nat.lt_of_lt_of_le (Heap.lt_size e) I.ok.above))).trans e1⟩
  ·obtain⟨o',e1⟩:=I.base.there b o e hx
   exact⟨o',(hs.2 b (Nat.ne_of_lt (Nat.lt_of_lt_of_le (Heap.lt_size e) I.ok.above))).trans e1⟩
  ·by_cases hj:j=i
   ·subst hj
    rw [hi] at e1;cases e1
    rw [List.getElem?_set_self hiσ] at e2
    cases e2
    exact⟨u,r,.inl ⟨hk,by simp⟩⟩
   ·rw [List.getElem?_set_ne (Ne.symm hj)] at e2
    obtain⟨u',r',q⟩:=hl j y v' e1 e2 e3
    refine⟨u',r',?_⟩
    rcases q with⟨k,e⟩ | ⟨k,c,e,z⟩
    ·refine .inl ⟨k,?_⟩
     have:y≠x:=λe=>hj (oX hN e1 (e ▸ hi))
     simp [this,e]
    ·exact .inr ⟨k,c,e,z.sameBut hs (cne y c e)⟩
  ·obtain⟨w',z⟩:=I.cell y c e
   exact⟨w',z.sameBut hs (cne y c e)⟩
  ·obtain⟨e,n,ne,nf,d⟩:=I.pin p hp
   exact⟨(hs.2 p.1 ne).trans e,n,ne,nf,d⟩
 ·have hfn:X.fn x=true:=by
   rcases hf with z | z
   ·exact z
   ·rw [z] at hk;cases hk
  obtain⟨c,hc⟩:=I.ok.has x (.inl hk)
  obtain⟨w',z⟩:=I.cell x c hc
  refine wpAny_storeName_cell I.ok.kind hk hc z (λh' hc' hs=>?_)
  obtain⟨oc,hoc,hocd⟩:=id z
  refine h { s with heap:=h' } ⟨I.ok,I.os,I.bare,⟨λb o e n hb hx=>?_,λb o e n hb hx=>?_,I.base.free,λb o e hx=>?_,I.base.tups,I.base.frzs,I.base.tbls⟩,⟨m,hn.sameBut hs (Ne.symm (cne x c hc)),λj y v' e1 e2 e3=>?_⟩,λy c' e=>?_,I.free,I.freeC,λp hp=>?_,tracked ⟨oc,hoc,I.freeC x c hc⟩ hs,by simpa using I.len⟩ ⟨c,hs,.inr hc⟩
  ·exact (hs.2 b (Nat.ne_of_lt (Nat.lt_of_lt_of_le (Heap.lt_size e) (I.ok.cab x c hfn hc)))).trans (I.base.keep b o e n hb hx)
  ·obtain⟨sl,e1⟩:=I.base.slot b o e n hb hx
   exact⟨sl,(hs.2 b (Nat.ne_of_lt (Nat.lt_of_lt_of_le (Heap.lt_size e) (I.ok.cab x c hfn hc)))).trans e1⟩
  ·obtain⟨o',e1⟩:=I.base.there b o e hx
   exact⟨o',(hs.2 b (Nat.ne_of_lt (Nat.lt_of_lt_of_le (Heap.lt_size e) (I.ok.cab x c hfn hc)))).trans e1⟩
  ·by_cases hj:j=i
   ·subst hj
    rw [hi] at e1;cases e1
    rw [List.getElem?_set_self hiσ] at e2
    cases e2
    exact⟨u,r,.inr ⟨.inl hk,c,hc,hc'⟩⟩
   ·rw [List.getElem?_set_ne (Ne.symm hj)] at e2
    obtain⟨u',r',q⟩:=hl j y v' e1 e2 e3
    refine⟨u',r',?_⟩
    rcases q with q | ⟨k,c',e,z'⟩
    ·exact .inl q
    ·refine .inr ⟨k,c',e,z'.sameBut hs ?_⟩
     rintro rfl
     exact hj (oX hN e1 (I.ok.inj _ _ _ e hc ▸ hi))
  ·by_cases hcc:c'=c
   ·subst hcc;exact⟨_,hc'⟩
   ·obtain⟨w2,z2⟩:=I.cell y c' e
    exact⟨w2,z2.sameBut hs hcc⟩
  ·obtain⟨e,n,ne,nf,d⟩:=I.pin p hp
   refine⟨(hs.2 p.1 ?_).trans e,n,ne,nf,d⟩
   intro q
   rw [q,hoc] at e
   have q':oc=p.2:=Option.some.inj e
   exact d w' (by rw [<-q'];exact hocd)
theorem fJ {M:Model}{A:Around}{E:Value->Shared->Prop}{i:Nat}{x:Str}{v:V}{u:Value}{Q:Unit->Shared->Prop} (I:Inv X pins σ H s) (hN:X.N.Nodup) (hi:X.N[i]?=some x) (hx:Loc X.env.scope x) (r:az v u)
  (h:∀ s',Inv X pins (σ.set i (some v)) H s'->Q () s') (hf:X.fn x=true\/X.env.scope.names.lookup x=some .local:=by first | exact .inl rfl | exact .inr rfl | assumption):wpAny M A (storeName X.env x u) Q E s:=
 sY I hN hi hx r (λs' I' _=>h s' I') hf
theorem Inv.call' {s':Shared}{ch:List Addr} (I:Inv X pins σ H s) (ho:s'.os=s.os) (u:Un (frs X.stack) ch H H' s.heap s'.heap) (hok:HOk X.prog X.w H' s'.heap) (hg:AllBare s'.gens)
  (hch:∀ b ∈ ch,(b ∈ X.ex\/X.s₀.heap.objs.size<=b)/\b≠X.env.locals/\(∀ x c,X.env.cells.lookup x=some c->c≠b)/\∀ p ∈ X.pn++pins,p.1≠b):Inv X pins σ H' s':=by
 obtain⟨h',g',d',t',o'⟩:=s'
 have e:o'=s.os:=ho
 subst e
 exact I.call (g':=g') (t':=t') (d':=d') u hok hg hch
end
abbrev XK:=Value->Option Addr->Hp->Prop
abbrev St:=List (Option V)
abbrev VK:=V->Hp->Prop
abbrev TE:=St->Hp->VK->Prop
abbrev TT:=St->Hp->(Bool->Hp->Prop)->Prop
abbrev TA:=St->Hp->(List V->Hp->Prop)->Prop
structure oQ where
 nx:St->Hp->Prop
 rt:VK
 bk:St->Hp->Prop:=λ_ _=>False
 ct:St->Hp->Prop:=λ_ _=>False
abbrev TS:=oQ->St->Hp->Prop
noncomputable def EP (X:Cx) (pins:List (Addr×Obj)) (σ:St) (Q:VK) (u:Value) (s':Shared):Prop:=∃ v H',Inv X pins σ H' s'/\az v u/\Q v H'
noncomputable def TP (X:Cx) (pins:List (Addr×Obj)) (σ:St) (Q:Bool->Hp->Prop) (b:Bool) (s':Shared):Prop:=∃ H',Inv X pins σ H' s'/\Q b H'
noncomputable def AP (X:Cx) (pins:List (Addr×Obj)) (σ:St) (Q:List V->Hp->Prop) (us:List Value) (s':Shared):Prop:=∃ vs H',Inv X pins σ H' s'/\ay vs us/\Q vs H'
noncomputable def SP (X:Cx) (pins:List (Addr×Obj)) (D:oQ) (f:Flow) (s':Shared):Prop:=
 match f with
 | .next=>∃ σ' H',Inv X pins σ' H' s'/\D.nx σ' H'
 | .brk=>∃ σ' H',Inv X pins σ' H' s'/\D.bk σ' H'
 | .cont=>∃ σ' H',Inv X pins σ' H' s'/\D.ct σ' H'
 | .ret u=>∃ v σ' H',Inv X pins σ' H' s'/\az v u/\D.rt v H'
noncomputable def PE (X:Cx) (e:Expr) (t:TE):Prop:=
 ∀ (pins:List (Addr×Obj)) (s:Shared) (σ:St) (H:Hp) (Q:VK),Inv X pins σ H s->t σ H Q->wpAny (model X.prog X.w) X.A (eval e X.env) (EP X pins σ Q) X.xe s
noncomputable def PT (X:Cx) (e:Expr) (t:TT):Prop:=
 ∀ (pins:List (Addr×Obj)) (s:Shared) (σ:St) (H:Hp) (Q:Bool->Hp->Prop),Inv X pins σ H s->t σ H Q->wpAny (model X.prog X.w) X.A (isTrue e X.env (eval e X.env)) (TP X pins σ Q) X.xe s
noncomputable def PW (X:Cx) (e:Expr) (t:TT):Prop:=
 ∀ (whole:Sem Value) (pins:List (Addr×Obj)) (s:Shared) (σ:St) (H:Hp) (Q:Bool->Hp->Prop),Inv X pins σ H s->t σ H Q->wpAny (model X.prog X.w) X.A (isTrue e X.env whole) (TP X pins σ Q) X.xe s
theorem PW.pt {X:Cx}{e:Expr}{t:TT} (h:PW X e t):PT X e t:=h _
noncomputable def PA (X:Cx) (es:List Expr) (t:TA):Prop:=
 ∀ (pos:Pos) (pins:List (Addr×Obj)) (s:Shared) (σ:St) (H:Hp) (Q:List V->Hp->Prop),Inv X pins σ H s->t σ H Q->wpAny (model X.prog X.w) X.A (spliced (backTo pos (starEach es X.env))) (AP X pins σ Q) X.xe s
noncomputable def PS (X:Cx) (st:Stmt) (t:TS):Prop:=
 ∀ (pins:List (Addr×Obj)) (s:Shared) (σ:St) (H:Hp) (D:oQ),Inv X pins σ H s->t D σ H->wpAny (model X.prog X.w) X.A (exec st X.env) (SP X pins D) X.xe s
noncomputable def PSs (X:Cx) (st:List Stmt) (t:TS):Prop:=
 ∀ (pins:List (Addr×Obj)) (s:Shared) (σ:St) (H:Hp) (D:oQ),Inv X pins σ H s->t D σ H->wpAny (model X.prog X.w) X.A (execs st X.env) (SP X pins D) X.xe s
theorem thn {α:Type}{t:Sem α}{Q Q':α->Shared->Prop}{M:Model}{A:Around}{E:Value->Shared->Prop}{s:Shared} (h:wpAny M A t Q E s) (hQ:∀ a s,Q a s->Q' a s):wpAny M A t Q' E s:=wpAny_mono h hQ λ_ _ x=>x
end L2
namespace L2
open PySem PySem.Spec PyProof.Rows
section
variable {X:Cx}
theorem bin {a b:Expr}{ta tb:TE} (ha:PE X a ta) (hb:PE X b tb) {pins:List (Addr×Obj)}{s:Shared}{σ:St}{H:Hp}{R:V->V->Hp->Prop} (I:Inv X pins σ H s) (h:ta σ H λx H1=>tb σ H1 λy H2=>R x y H2)
  {α:Type}{Q:α->Shared->Prop}{f:Value->Value->Sem α}
  (hf:∀ v u s2 x y H2,Inv X pins σ H2 s2->az x v->az y u->R x y H2->wpAny (model X.prog X.w) X.A (f v u) Q X.xe s2) :
  wpAny (model X.prog X.w) X.A (eval a X.env) (λv s₁=>wpAny (model X.prog X.w) X.A (eval b X.env) (λu s₂=>wpAny (model X.prog X.w) X.A (f v u) Q X.xe s₂) X.xe s₁) X.xe s:=by
 refine thn (ha pins s σ H _ I h) λv s1 ⟨x,H1,I1,r1,q1⟩=>?_
 refine thn (hb pins s1 σ H1 _ I1 q1) λu s2 ⟨y,H2,I2,r2,q2⟩=>?_
 exact hf v u s2 x y H2 I2 r1 r2 q2
noncomputable def Aj (i:Nat):TE:=λσ H Q=>∃ v,σ[i]?=some (some v)/\Q v H
noncomputable def tC (v:V):TE:=λ_ H Q=>Q v H
theorem zc {i:Nat}{x:Str}{pos:Pos} (hN:X.N[i]?=some x) (hv:Vis X.env.scope x) (hd:(x==("__debug__" : Str))=false:=by decide) (hcd:(x==("__classdict__" : Str))=false:=by decide):PE X (.Name x pos) (Aj i):=by
 intro pins s σ H Q I h
 obtain⟨v,e,h⟩:=h
 obtain⟨m,hn,hl⟩:=I.loc
 obtain⟨u,r,l⟩:=hl i x v hN e hv
 have fin:EP X pins σ Q u s:=⟨v,H,I,r,h⟩
 rcases l with⟨hk,hm⟩ | ⟨hk,c,hc,hcell⟩
 ·exact wpAny_Name (wpAny_loadName_local I.ok.kind hk hn hm fin) hd
 ·rcases hk with hk | hk
  ·exact wpAny_Name (wpAny_loadName_cell I.ok.kind hk hc hcell fin) hd
  ·exact wpAny_Name (wpAny_loadName_free I.ok.kind hk hc hcell fin hcd) hd
theorem zh {i j pos}:PE X (.Constant (.int i) j pos) (tC (.int i)):=λ_ _ _ H _ I h=>wpAny_Constant_int ⟨.int i,H,I.tok _,⟨_,rfl⟩,h⟩
theorem A8 {b j pos}:PE X (.Constant (.bool b) j pos) (tC (.bl b)):=λ_ _ _ H _ I h=>Constant_bool ⟨.bl b,H,I,rfl,h⟩
theorem zA {x j pos}:PE X (.Constant (.str x) j pos) (tC (.str x)):=λ_ _ _ H _ I h=>Calls.Constant_str ⟨.str x,H,I.tok _,⟨_,rfl⟩,h⟩
noncomputable def Gl (X:Cx) (x:Str):Prop:=X.env.kindOf x=some .globalImplicit
theorem wt {E:Value->Shared->Prop}{pins:List (Addr×Obj)}{s:Shared}{σ:St}{H:Hp}{x:Str}{u:Value}{pos:Pos}{Q:Value->Shared->Prop} (I:Inv X pins σ H s) (hg:Gl X x) (hm:X.mg x=some u) (h:Q u s)
  (hd:(x==("__debug__" : Str))=false:=by decide):wpAny (model X.prog X.w) X.A (eval (.Name x pos) X.env) Q E s:=
 Calls.Name_function_global I.ok.kind hg (Calls.loadGlobal_global (by rw [I.ok.glob];exact I.mod.glob.keeps I.bk) hm h) hd
theorem fR {E:Value->Shared->Prop}{pins:List (Addr×Obj)}{s:Shared}{σ:St}{H:Hp}{x:Str}{u:Value}{pos:Pos}{Q:Value->Shared->Prop} (I:Inv X pins σ H s) (hg:Gl X x) (hm:X.mg x=none) (hv:bootBuiltins x=some u) (h:Q u s)
  (hn:x≠"__name__":=by decide) (hd:(x==("__debug__" : Str))=false:=by decide):wpAny (model X.prog X.w) X.A (eval (.Name x pos) X.env) Q E s:=by
 obtain⟨mb,h1,h2⟩:=I.mod.blt
 exact Calls.Name_function_global I.ok.kind hg (Calls.loadGlobal_builtin (by rw [I.ok.glob];exact I.mod.glob.keeps I.bk) hm (by rw [I.ok.blt];exact h1.keeps I.bk) ((h2 x hn).trans hv) h) hd
theorem xT {x:Str}{v:V}{u:Value}{pos:Pos} (hg:Gl X x) (hm:X.mg x=none) (hv:bootBuiltins x=some u) (r:az v u) (hn:x≠"__name__":=by decide) (hd:(x==("__debug__" : Str))=false:=by decide):PE X (.Name x pos) (tC v):=
 λ_ _ _ H _ I h=>fR I hg hm hv ⟨v,H,I,r,h⟩ hn hd
variable {a b:Expr}{ta tb:TE}{pos:Pos}
variable {tA tB':TT}{rest:List Expr}
noncomputable def Bs (t u:TT):TT:=λσ H Q=>t σ H λc H1=>if c=true then u σ H1 Q else Q false H1
noncomputable def tOr (t u:TT):TT:=λσ H Q=>t σ H λc H1=>if c=true then Q true H1 else u σ H1 Q
noncomputable def Bq (t:TT):TT:=λσ H Q=>t σ H λc H1=>Q (!c) H1
theorem xr (ha:PT X a tA):PW X (.BoolOp .And [a] pos) tA:=by
 intro wh pins s σ H Q I h
 refine isTrue_and (thn (ha pins s σ H Q I h) λc s1 e=>?_)
 cases c with
 | true=>exact isTrue_and_nil e
 | false=>exact e
theorem zE (ha:PT X a tA):PW X (.BoolOp .Or [a] pos) tA:=by
 intro wh pins s σ H Q I h
 refine isTrue_or (thn (ha pins s σ H Q I h) λc s1 e=>?_)
 cases c with
 | false=>exact isTrue_or_nil e
 | true=>exact e
theorem uJ (ha:PT X a tA) (hb:PW X (.BoolOp .And (b::rest) pos) tB'):PW X (.BoolOp .And (a::b::rest) pos) (Bs tA tB'):=by
 intro wh pins s σ H Q I h
 refine isTrue_and (thn (ha pins s σ H _ I h) λc s1 ⟨H1,I1,q1⟩=>?_)
 cases c with
 | true=>exact hb wh pins s1 σ H1 Q I1 q1
 | false=>exact⟨H1,I1,q1⟩
theorem yn (ha:PT X a tA) (hb:PW X (.BoolOp .Or (b::rest) pos) tB'):PW X (.BoolOp .Or (a::b::rest) pos) (tOr tA tB'):=by
 intro wh pins s σ H Q I h
 refine isTrue_or (thn (ha pins s σ H _ I h) λc s1 ⟨H1,I1,q1⟩=>?_)
 cases c with
 | true=>exact⟨H1,I1,q1⟩
 | false=>exact hb wh pins s1 σ H1 Q I1 q1
theorem Ae (ha:PT X a tA):PT X (.UnaryOp .Not a pos) (Bq tA):=by
 intro pins s σ H Q I h
 exact isTrue_not (ha pins s σ H (λc H1=>Q (!c) H1) I h)
noncomputable def tIf (t:TT) (ta tb:TE):TE:=λσ H Q=>t σ H λc H1=>if c=true then ta σ H1 Q else tb σ H1 Q
theorem oW {c:Expr} (hc:PT X c tA) (ha:PE X a ta) (hb:PE X b tb):PE X (.IfExp c a b pos) (tIf tA ta tb):=by
 intro pins s σ H Q I h
 refine wpAny_IfExp (thn (hc pins s σ H _ I h) λd s1 ⟨H1,I1,q1⟩=>?_)
 cases d with
 | true=>exact ha pins s1 σ H1 Q I1 q1
 | false=>exact hb pins s1 σ H1 Q I1 q1
end
end L2
namespace L2
open PySem PySem.Spec PyProof.Rows
noncomputable def SqL (K:PySem.W.Frag) (H:Hp) (a:Addr) (xs:List V):Prop:=
 Rd H a (.lst xs)\/
  ∃ (o:Obj) (its:Array Value) (n:Nat),K.lookup a=some o/\o.cls=.type "list"/\o.dict=none/\o.data=.seq its n/\its.size<=sizeLine/\ay xs its.toList
noncomputable def SqT (K:PySem.W.Frag) (H:Hp) (a:Addr) (xs:List V):Prop:=
 H a=some (.tup xs)\/
  ∃ (o:Obj) (its:Array Value) (n:Nat),K.lookup a=some o/\o.cls=.type "tuple"/\o.data=.seq its n/\its.size<=sizeLine/\ay xs its.toList/\o.dict=none
noncomputable def Bx:Value->Option V
 | .none=>some .non
 | .bool b=>some (.bl b)
 | .int i _=>some (.int i)
 | .str x _=>some (.str x)
 | .bytes b _=>some (.byt b)
 | .float b _=>some (.flt b)
 | .ref a=>some (.ref a)
 | .type n=>some (.ty n)
 | _=>none
theorem az.abs {x:V}{u:Value} (r:az x u):Bx u=some x:=by
 cases x with
 | non=>cases r;rfl
 | bl _=>cases r;rfl
 | int _=>obtain⟨t,rfl⟩:=r;rfl
 | str _=>obtain⟨t,rfl⟩:=r;rfl
 | byt _=>obtain⟨t,rfl⟩:=r;rfl
 | flt _=>obtain⟨t,rfl⟩:=r;rfl
 | ref _=>cases r;rfl
 | ty _=>cases r;rfl
theorem az.inj {x y:V}{u:Value} (r:az x u) (q:az y u):x=y:=Option.some.inj (r.abs.symm.trans q.abs)
theorem ay.inj:∀ {xs ys:List V}{us:List Value},ay xs us->ay ys us->xs=ys
 | _,_,_,.nil,.nil=>rfl
 | _,_,_,.cons r t,.cons r' t'=>by rw [r.inj r',ay.inj t t']
section
variable {X:Cx}{pins:List (Addr×Obj)}{σ:St}{H:Hp}{s:Shared}{a:Addr}{xs ys:List V}
theorem SqL.of {K:PySem.W.Frag} (h:H a=some (.lst xs)):SqL K H a xs:=.inl (.inl h)
theorem SqT.of {K:PySem.W.Frag} (h:H a=some (.tup xs)):SqT K H a xs:=.inl h
theorem Inv.list (I:Inv X pins σ H s) (h:SqL X.K H a xs):∃ its:List Value,ay xs its/\PlainL s.heap a its.toArray/\xs.length<=sizeLine:=by
 rcases h with h | ⟨o,its,n,hk,hc,hd,hs,hz,r⟩
 ·obtain⟨z,its,n,r,e⟩:=h.ok I.hok
  exact⟨its,r,⟨_,n,e,rfl,rfl,rfl⟩,z⟩
 ·refine⟨its.toList,r,⟨o,n,I.kIn a o hk,hc,hd,by simpa using hs⟩,?_⟩
  have e:=r.length
  simp only [Array.length_toList] at e
  lia
theorem Inv.tuple (I:Inv X pins σ H s) (h:SqT X.K H a xs):∃ its:List Value,ay xs its/\IsTup s.heap a its.toArray/\xs.length<=sizeLine:=by
 rcases h with h | ⟨o,its,n,hk,hc,hs,hz,r,_⟩
 ·obtain⟨z,its,r,p⟩:=(Rd.of h).ok I.hok
  exact⟨its,r,p.tup,z⟩
 ·refine⟨its.toList,r,⟨o,I.kIn a o hk,hc,n,by simpa using hs⟩,?_⟩
  have e:=r.length
  simp only [Array.length_toList] at e
  lia
theorem Inv.tuple1 (I:Inv X pins σ H s) (h:SqT X.K H a xs):∃ o:Obj,s.heap.get? a=some o/\o.cls=.type "tuple"/\o.dict=none:=by
 rcases h with h | ⟨o,its,n,hk,hc,hs,hz,r,hd⟩
 ·obtain⟨z,its,r,o,e,c,_,hd⟩:=(Rd.of h).ok I.hok
  exact⟨o,e,c,hd⟩
 ·exact⟨o,I.kIn a o hk,hc,hd⟩
theorem Inv.list_inj (I:Inv X pins σ H s) (h:SqL X.K H a xs) (h':SqL X.K H a ys):xs=ys:=by
 obtain⟨its,r,⟨o,n,e,_,_,d⟩,_⟩:=I.list h
 obtain⟨its',r',⟨o',n',e',_,_,d'⟩,_⟩:=I.list h'
 rw [e] at e';cases e'
 rw [d] at d'
 injection d' with d1 _
 have:its=its':=by simpa using congrArg Array.toList d1
 subst this
 exact r.inj r'
theorem Inv.tuple_inj (I:Inv X pins σ H s) (h:SqT X.K H a xs) (h':SqT X.K H a ys):xs=ys:=by
 obtain⟨its,r,⟨o,e,_,n,d⟩,_⟩:=I.tuple h
 obtain⟨its',r',⟨o',e',_,n',d'⟩,_⟩:=I.tuple h'
 rw [e] at e';cases e'
 rw [d] at d'
 injection d' with d1 _
 have:its=its':=by simpa using congrArg Array.toList d1
 subst this
 exact r.inj r'
end
abbrev Cx.wish (X:Cx) (E:Value->Shared->Prop):Cx:={ X with xe:=E }
abbrev Cx.nox (X:Cx):Cx:=X.wish λ_ _=>False
theorem Cx.Ok.wish {X:Cx} (ok:X.Ok) (E:Value->Shared->Prop):(X.wish E).Ok:=
 ⟨ok.mod,ok.kind,ok.glob,ok.blt,ok.above,ok.inj,ok.has,ok.cab,ok.hd,ok.frames,ok.stk,ok.exf,ok.bs,ok.bsz,ok.noex,ok.exfs,ok.funs,ok.frf⟩
theorem Cx.Ok.unwish {X:Cx}{E:Value->Shared->Prop} (ok:(X.wish E).Ok):X.Ok:=
 ⟨ok.mod,ok.kind,ok.glob,ok.blt,ok.above,ok.inj,ok.has,ok.cab,ok.hd,ok.frames,ok.stk,ok.exf,ok.bs,ok.bsz,ok.noex,ok.exfs,ok.funs,ok.frf⟩
section
variable {X:Cx}{pins:List (Addr×Obj)}{σ:St}{H:Hp}{s:Shared}{E:Value->Shared->Prop}
theorem Inv.wish (I:Inv X pins σ H s) (E:Value->Shared->Prop):Inv (X.wish E) pins σ H s:=⟨I.ok.wish E,I.os,I.bare,I.base,I.loc,I.cell,I.free,I.freeC,I.pin,I.hok,I.len⟩
theorem Inv.unwish (I:Inv (X.wish E) pins σ H s):Inv X pins σ H s:=⟨I.ok.unwish,I.os,I.bare,I.base,I.loc,I.cell,I.free,I.freeC,I.pin,I.hok,I.len⟩
theorem SP.unwish {D:oQ}{f:Flow}{s':Shared} (h:SP (X.wish E) pins D f s'):SP X pins D f s':=by
 cases f with
 | next=>obtain⟨σ',H',I,q⟩:=h;exact⟨σ',H',I.unwish,q⟩
 | brk=>obtain⟨σ',H',I,q⟩:=h;exact⟨σ',H',I.unwish,q⟩
 | cont=>obtain⟨σ',H',I,q⟩:=h;exact⟨σ',H',I.unwish,q⟩
 | ret u=>obtain⟨v,σ',H',I,r,q⟩:=h;exact⟨v,σ',H',I.unwish,r,q⟩
theorem PSs.nox {st:List Stmt}{t:TS} (h:PSs X.nox st t):PSs X st t:=λpins s σ H D I hw=>
 wpAny_mono (h pins s σ H D (I.wish _) hw) (λ_ _ q=>q.unwish) λ_ _ z=>False.elim z
end
section
variable {X:Cx}{st:Stmt}{rest:List Stmt}{t u:TS}{e:Expr}{te:TE}{pos:Pos}
noncomputable def Bk:TS:=λD σ H=>D.nx σ H
noncomputable def Bw (t u:TS):TS:=λD σ H=>t { D with nx:=u D } σ H
theorem x9:PSs X [] Bk:=λ_ _ σ H _ I h=>wpAny_execs_nil ⟨σ,H,I,h⟩
theorem gW (h1:PS X st t) (h2:PSs X rest u):PSs X (st::rest) (Bw t u):=by
 intro pins s σ H D I h
 refine wpAny_execs_cons (thn (h1 pins s σ H { D with nx:=u D } I h) λf s1 q=>?_)
 cases f with
 | next=>
  obtain⟨σ',H',I',q⟩:=q
  exact h2 pins s1 σ' H' D I' q
 | ret v=>exact q
 | brk=>exact q
 | cont=>exact q
theorem wS (h1:PS X st t):PSs X [st] t:=by
 intro pins s σ H D I h
 refine wpAny_execs_cons (thn (h1 pins s σ H D I h) λf s1 q=>?_)
 cases f with
 | next=>exact wpAny_execs_nil q
 | ret v=>exact q
 | brk=>exact q
 | cont=>exact q
theorem Inv.quiet {pins:List (Addr×Obj)}{σ:St}{H:Hp}{s:Shared} (I:Inv X pins σ H s):interactive X.env=false:=by simp [interactive,I.ok.kind]
noncomputable def A5 (te:TE):TS:=λD σ H=>te σ H λ_ H1=>D.nx σ H1
theorem wN (he:PE X e te) (hs:swapsWith e none pos.line X.env=pure false:=by rfl):PS X (.Expr e pos) (A5 te):=by
 intro pins s σ H D I h
 exact wpAny_Expr_any (thn (he pins s σ H _ I h) λv s1 ⟨x,H1,I1,r1,q1⟩=>⟨σ,H1,I1,q1⟩) I.quiet hs
noncomputable def BS (te:TE):TS:=λD σ H=>te σ H D.rt
theorem z9 (he:PE X e te):PS X (.Return (some e) pos) (BS te):=by
 intro pins s σ H D I h
 exact wpAny_Return_some (thn (he pins s σ H _ I h) λv s1 ⟨x,H1,I1,r1,q1⟩=>⟨x,σ,H1,I1,r1,q1⟩)
noncomputable def BB (c:TT) (t u:TS):TS:=λD σ H=>c σ H λb H1=>if b=true then t D σ H1 else u D σ H1
theorem yg {c:Expr}{a b:List Stmt}{tc:TT} (hc:PT X c tc) (ha:PSs X a t) (hb:PSs X b u):PS X (.If c a b pos) (BB tc t u):=by
 intro pins s σ H D I h
 refine wpAny_If (thn (hc pins s σ H _ I h) λd s1 ⟨H1,I1,q1⟩=>?_)
 cases d with
 | true=>exact ha pins s1 σ H1 D I1 q1
 | false=>exact hb pins s1 σ H1 D I1 q1
noncomputable def Ad:TS:=λ_ _ _=>False
theorem eB {sts:List Stmt}:PSs X sts Ad:=λ_ _ _ _ _ _ h=>h.elim
end
abbrev TG:=V->St->Hp->(St->Hp->Prop)->Prop
abbrev TGs:=List V->St->Hp->(St->Hp->Prop)->Prop
noncomputable def PG (X:Cx) (target:Expr) (t:TG):Prop:=
 ∀ (pins:List (Addr×Obj)) (s:Shared) (σ:St) (H:Hp) (v:V) (u:Value) (Q:St->Hp->Prop),Inv X pins σ H s->az v u->t v σ H Q->
  wpAny (model X.prog X.w) X.A (assign target X.env u) (λ_ s'=>∃ σ' H',Inv X pins σ' H' s'/\Q σ' H') X.xe s
noncomputable def PGs (X:Cx) (ts:List Expr) (t:TGs):Prop:=
 ∀ (pins:List (Addr×Obj)) (s:Shared) (σ:St) (H:Hp) (vs:List V) (us:List Value) (Q:St->Hp->Prop),Inv X pins σ H s->ay vs us->t vs σ H Q->
  wpAny (model X.prog X.w) X.A (assignInOrder ((assignEach ts X.env).map (·.2)) us) (λ_ s'=>∃ σ' H',Inv X pins σ' H' s'/\Q σ' H') X.xe s
abbrev yV:=V->V->V->Hp->(Hp->Prop)->Prop
noncomputable def Bf (X:Cx) (t:yV):Prop:=
 ∀ (pins:List (Addr×Obj)) (s:Shared) (σ:St) (H:Hp) (o i v:V) (ov iv u:Value) (Q:Hp->Prop),Inv X pins σ H s->az o ov->az i iv->az v u->t o i v H Q->
  wpAny (model X.prog X.w) X.A (setItem ov iv u) (λ_ s'=>∃ H',Inv X pins σ H' s'/\Q H') X.xe s
section
variable {X:Cx}{pos:Pos}
noncomputable def oR (i:Nat):TG:=λv σ H Q=>Q (σ.set i (some v)) H
theorem aF {i:Nat}{x:Str} (hN:X.N.Nodup) (hi:X.N[i]?=some x) (hx:Loc X.env.scope x) (hf:X.fn x=true\/X.env.scope.names.lookup x=some .local:=by first | exact .inl rfl | exact .inr rfl | assumption):PG X (.Name x pos) (oR i):=by
 intro pins s σ H v u Q I r h
 exact wpAny_assign_Name (fJ I hN hi hx r (λs' I'=>⟨_,H,I',h⟩) hf)
noncomputable def BE:TGs:=λvs σ H Q=>vs=[]/\Q σ H
noncomputable def Av (t:TG) (u:TGs):TGs:=λvs σ H Q=>∃ v r,vs=v::r/\t v σ H λσ' H'=>u r σ' H' Q
theorem wW:PGs X [] BE:=by
 intro pins s σ H vs us Q I r h
 obtain⟨e,h⟩:=h
 subst e
 cases r
 exact assignInOrder_nil ⟨σ,H,I,h⟩
theorem v6 {e:Expr}{es:List Expr}{t:TG}{u:TGs} (h1:PG X e t) (h2:PGs X es u)
  (hs:(assignEach (e::es) X.env).map (·.2)=assign e X.env::(assignEach es X.env).map (·.2):=by rfl):PGs X (e::es) (Av t u):=by
 intro pins s σ H vs us Q I r h
 obtain⟨v,vr,e1,h⟩:=h
 subst e1
 cases r with
 | cons r rr=>
  rw [hs]
  refine assignInOrder_cons (thn (h1 pins s σ H _ _ _ I r h) λ_ s1 ⟨σ1,H1,I1,q1⟩=>?_)
  exact h2 pins s1 σ1 H1 _ _ Q I1 rr q1
noncomputable def Bv (K:PySem.W.Frag) (n:Nat) (t:TGs):TG:=λv σ H Q=>∃ a xs,v=.ref a/\SqT K H a xs/\xs.length=n/\t xs σ H Q
theorem za {es:List Expr}{k:Nat}{t:TGs}{n:Nat} (hc:X.calm=true) (h:PGs X es t)
  (hn:(assignEach es X.env).length=n:=by rfl) (hst:(assignEach es X.env).findIdx? (·.1)=none:=by rfl):PG X (.Tuple es k pos) (Bv X.K n t):=by
 intro pins s σ H v u Q I r hw
 obtain⟨a,xs,e1,hq,hl,hw⟩:=hw
 subst e1
 cases r
 obtain⟨its,rv,ht,hz⟩:=I.tuple hq
 refine assign_Tuple_tuple (I.ok.hd hc) ht (by simp [hn,<-hl,rv.length]) hst λh' hx=>?_
 have I1:Inv X pins σ H { s with heap:=h' }:=I.kept (t':=s.toks) λb o e=>hx b o (Nat.ne_of_lt (Heap.lt_size e)) e
 exact h pins _ σ H xs _ Q I1 (by simpa using rv) hw
noncomputable def BH (to ti:TE) (t:yV):TG:=λv σ H Q=>to σ H λo H1=>ti σ H1 λi H2=>t o i v H2 λH3=>Q σ H3
theorem vf {o i:Expr}{to ti:TE}{t:yV} (ho:PE X o to) (hi:PE X i ti) (hs:Bf X t)
  (ha:∀ v,assign (.Subscript o i pos) X.env v=(do
    let ov <-holding [v] (eval o X.env)
    let iv <-holding [v,ov] (eval i X.env)
    standAt pos
    holding [v,ov,iv] (setItem ov iv v)
    release [v,ov,iv] []):=by intro _;rfl):PG X (.Subscript o i pos) (BH to ti t):=by
 intro pins s σ H v u Q I r h
 rw [ha]
 refine wpAny_bind (wpAny_holding (thn (ho pins s σ H _ I h) λov s1 ⟨x,H1,I1,r1,q1⟩=>?_))
 refine wpAny_bind (wpAny_holding (thn (hi pins s1 σ H1 _ I1 q1) λiv s2 ⟨y,H2,I2,r2,q2⟩=>?_))
 refine wpAny_bind (wpAny_standAt (wpAny_bind (wpAny_holding (thn (hs pins s2 σ H2 x y v ov iv u _ I2 r1 r2 r q2) λ_ s3 ⟨H3,I3,q3⟩=>?_))))
 exact wpAny_release ⟨σ,H3,I3,q3⟩
noncomputable def yP (te:TE) (g:TG):TS:=λD σ H=>te σ H λx H1=>g x σ H1 D.nx
theorem qS {tg e:Expr}{te:TE}{g:TG} (he:PE X e te) (hg:PG X tg g) (hs:swapsWithSole [tg] e pos.line X.env=pure false:=by rfl) (hw:swappedStores [tg] e X.env=pure none:=by rfl)
  (h1:(assignEach [tg] X.env).map (·.2)=[assign tg X.env]:=by rfl):PS X (.Assign [tg] e pos) (yP te g):=by
 intro pins s σ H D I h
 refine wpAny_Assign_stores (thn (he pins s σ H _ I h) λv s1 ⟨x,H1,I1,r1,q1⟩=>?_) hs hw
 rw [h1]
 exact thn (hg pins s1 σ H1 x v _ I1 r1 q1) λ_ s2 q=>q
theorem zQ {i:Nat}{x:Str}{e:Expr}{te:TE}{pos':Pos} (hN:X.N.Nodup) (hi:X.N[i]?=some x) (hx:Loc X.env.scope x) (he:PE X e te) (hs:swapsWith e (some (.Name x pos')) pos.line X.env=pure false:=by rfl) (hf:X.fn x=true\/X.env.scope.names.lookup x=some .local:=by first | exact .inl rfl | exact .inr rfl | assumption) :
  PS X (.Assign [.Name x pos'] e pos) (yP te (oR i)):=by
 intro pins s σ H D I h
 refine wpAny_Assign_Name (thn (he pins s σ H _ I h) λv s1 ⟨y,H1,I1,r1,q1⟩=>?_) hs
 exact fJ I1 hN hi hx r1 (λs2 I2=>⟨_,H1,I2,q1⟩) hf
noncomputable def AY (i j:Nat) (ta:TA):TS:=λD σ H=>ta σ H λvs H1=>∃ v w,vs=[v,w]/\D.nx ((σ.set i (some v)).set j (some w)) H1
theorem yZ {i j:Nat}{x y:Str}{a b:Expr}{ta:TA}{px py pt:Pos}{kt k2 pt2} (hc:X.calm=true) (hN:X.N.Nodup) (hi:X.N[i]?=some x) (hj:X.N[j]?=some y) (hij:i≠j)
  (hx:X.env.scope.names.lookup x=some .local) (hy:X.env.scope.names.lookup y=some .local) (ha:PA X [a,b] ta)
  (hw:swappedStores [.Tuple [.Name x px,.Name y py] kt pt] (.Tuple [a,b] k2 pt2) X.env=pure (some [x,y]))
  (hs:swapsWithSole [.Tuple [.Name x px,.Name y py] kt pt] (.Tuple [a,b] k2 pt2) pos.line X.env=pure false:=by rfl) :
  PS X (.Assign [.Tuple [.Name x px,.Name y py] kt pt] (.Tuple [a,b] k2 pt2) pos) (AY i j ta):=by
 intro pins s σ H D I h
 rw [exec_Assign_arm]
 refine wpAny_bind (wpAny_standAt ?_)
 rw [hs]
 refine wpAny_bind (wpAny_pure ?_)
 rw [if_neg (by decide)]
 refine wpAny_bind (Tuple_ (thn (ha _ pins s σ H _ I h) λus s1 ⟨vs,H1,I1,r1,q1⟩=>?_))
 obtain⟨v,w,e1,q1⟩:=q1
 subst e1
 obtain⟨u1,u2,rfl,rv,rw'⟩:∃ u1 u2,us=[u1,u2]/\az v u1/\az w u2:=by
  cases r1 with
  | cons p q=>
   cases q with
   | cons p' q'=>
    cases q'
    exact⟨_,_,rfl,p,p'⟩
 refine wpAny_newObj_type ?_ (by show 2<=sizeLine;decide)
 have I2:Inv X pins σ H1 { s1 with heap:=s1.heap.push { cls:=.type "tuple",data:=.seq [u1,u2].toArray } }:=I1.kept (t':=s1.toks) λb o e=>Heap.get?_push_of_some _ e
 rw [hw]
 refine wpAny_bind (wpAny_pure ?_)
 show wpAny (model X.prog X.w) X.A (do rule "assign.swapped-stores";let items <-unpackItems (.ref s1.heap.objs.size) 2 none;assignInOrder [λv=>bindName X.env y v,λv=>bindName X.env x v] items.reverse;pure Flow.next) _ _ _
 refine wpAny_bind (wpAny_rule (wpAny_bind (unpackItems_tuple (items:=#[u1,u2]) (I.ok.hd hc) (IsTup.new s1.heap _) λh' hx'=>?_)))
 have I3:=I2.kept (h':=h') (t':=s1.toks) λb o e=>hx' b o (Nat.ne_of_lt (Heap.lt_size e)) e
 show wpAny _ _ (assignInOrder [λv=>bindName X.env y v,λv=>bindName X.env x v] [u2,u1] >>= λ_=>pure Flow.next) _ _ _
 refine wpAny_bind (assignInOrder_cons (wpAny_bindName (fJ I3 hN hj (.inl hy) rw' (λs2 I4=>?_) (.inr hy))))
 refine assignInOrder_cons (wpAny_bindName (fJ I4 hN hi (.inl hx) rv (λs3 I5=>assignInOrder_nil (wpAny_pure ?_)) (.inr hx)))
 rw [List.set_comm _ _ (Ne.symm hij)] at I5
 exact⟨_,H1,I5,q1⟩
end
section
variable {X:Cx}{pos:Pos}
noncomputable def zF (c:TT) (tb:TS):TS:=λD σ H=>∃ W:Nat->St->Hp->Prop,(∃ m,W m σ H)/\∀ m σ H,W m σ H->
 c σ H λb H1=>if b=true then ∃ N:St->Hp->Prop,(∀ σ' H',N σ' H'->∃ m',m' < m/\W m' σ' H')/\tb { D with nx:=N,ct:=N,bk:=D.nx } σ H1 else D.nx σ H1
theorem vm {c:Expr}{body:List Stmt}{tc:TT}{tb:TS} (hp:PassesOwn (model X.prog X.w) X.A X.env X.xe) (hc:PT X c tc) (hb:PSs X body tb):PS X (.While c body [] pos) (zF tc tb):=by
 intro pins s σ H D I h
 obtain⟨W,⟨m0,w0⟩,turn⟩:=h
 refine wpAny_While (codeAny_whileLoop (λn s'=>∃ σ' H',Inv X pins σ' H' s'/\W n σ' H') ?_ m0 ⟨σ,H,I,w0⟩)
 rintro n s1 ⟨σ1,H1,I1,w1⟩
 refine wpAny_passesOwn hp (thn (hc pins s1 σ1 H1 _ I1 (turn n σ1 H1 w1)) λb s2 ⟨H2,I2,q2⟩=>?_)
 cases b with
 | true=>
  obtain⟨N,hN,q2⟩:=q2
  rw [if_pos rfl]
  refine wpAny_passesOwn hp (thn (hb pins s2 σ1 H2 _ I2 q2) λf s3 q3=>?_)
  cases f with
  | next=>
   obtain⟨σ3,H3,I3,n3⟩:=q3
   obtain⟨m',hm,w3⟩:=hN σ3 H3 n3
   exact⟨m',hm,σ3,H3,I3,w3⟩
  | cont=>
   obtain⟨σ3,H3,I3,n3⟩:=q3
   obtain⟨m',hm,w3⟩:=hN σ3 H3 n3
   exact⟨m',hm,σ3,H3,I3,w3⟩
  | brk=>exact q3
  | ret v=>exact q3
 | false=>
  rw [if_neg Bool.false_ne_true]
  exact wpAny_execs_nil ⟨σ1,H2,I2,q2⟩
end
structure It where
 go:Nat->Hp->Prop
 yld:Nat->Hp->V->Hp->Prop
 stop:Nat->Hp->Prop
noncomputable def ig (X:Cx) (pins:List (Addr×Obj)) (H:Hp) (b:Addr):Prop:=
 H b=none/\b≠X.env.locals/\b ∉ X.fs/\(b ∈ X.ex\/X.s₀.heap.objs.size<=b)/\(∀ x c,X.env.cells.lookup x=some c->c≠b)/\∀ p ∈ X.pn++pins,p.1≠b
theorem Inv.fpOk {X:Cx}{pins:List (Addr×Obj)}{σ:St}{H H':Hp}{s:Shared}{b:Addr} (I:Inv X pins σ H s) (hb:s.heap.objs.size<=b) (hn:H' b=none):ig X pins H' b:=by
 refine⟨hn,Nat.ne_of_gt (Nat.lt_of_lt_of_le I.lt hb),I.nofs hb,.inr (Nat.le_trans I.sz hb),λx c e z=>?_,λp hp z=>?_⟩
 ·obtain⟨v,q⟩:=I.cell x c e
  exact absurd (Nat.lt_of_lt_of_le q.lt (by rw [z];exact hb)) (Nat.lt_irrefl _)
 ·exact absurd (Nat.lt_of_lt_of_le (Heap.lt_size (I.pin p hp).1) (by rw [z];exact hb)) (Nat.lt_irrefl _)
structure ya (P:Program) (w:World) (K:PySem.W.Frag) (tg:Expr) (J:It) (fp:List Addr) (it:Addr) (tn:Nat->Heap->Prop):Prop where
 mem:it ∈ fp
 obj:∀ i h,tn i h->∀ b ∈ fp,∃ o,h.get? b=some o/\∀ v,o.data≠.cell v
 keep:∀ i h h',tn i h->(∀ b ∈ fp,∀ o,h.get? b=some o->h'.get? b=some o)->tn i h'
 item:∀ (X:Cx),X.prog=P->X.w=w->X.K=K->X.calm=true->∀ (i:Nat) (pins:List (Addr×Obj)) (s:Shared) (σ:St) (H:Hp) (E:Value->Shared->Prop),Inv X pins σ H s->(∀ b ∈ fp,ig X pins H b)->tn i s.heap->J.go i H->
  wpAny (model P w) X.A (pyNext (.ref it)) (λr s1=>∃ u,r=some u/\
   wpAny (model P w) X.A (letOwnedTupleGo tg (.ref it) u) (λ_ s2=>∃ x H',Inv X pins σ H' s2/\az x u/\J.yld i H x H'/\tn (i+1) s2.heap/\∀ b ∈ fp,H' b=none) E s1) E s
 done:∀ (X:Cx),X.prog=P->X.w=w->X.K=K->X.calm=true->∀ (i:Nat) (pins:List (Addr×Obj)) (s:Shared) (σ:St) (H:Hp) (E:Value->Shared->Prop),Inv X pins σ H s->(∀ b ∈ fp,ig X pins H b)->tn i s.heap->J.stop i H->
  wpAny (model P w) X.A (pyNext (.ref it)) (λr s1=>r=none/\Inv X pins σ H s1) E s
 self:∀ (A:Around) (i:Nat) (s:Shared) (Q:Value->Shared->Prop) (E:Value->Shared->Prop),tn i s.heap->Q (.ref it) s->wpAny (model P w) A (pyIter (.ref it)) Q E s
abbrev TI:=St->Hp->(It->Hp->Prop)->Prop
noncomputable def PIE (X:Cx) (pins:List (Addr×Obj)) (σ:St) (tg:Expr) (R:It->Hp->Prop) (itv:Value) (s2:Shared):Prop:=
 ∃ (it:Addr) (fp:List Addr) (tn:Nat->Heap->Prop) (J:It) (H':Hp),itv=.ref it/\Inv X pins σ H' s2/\ya X.prog X.w X.K tg J fp it tn/\tn 0 s2.heap/\(∀ b ∈ fp,ig X pins H' b)/\R J H'
noncomputable def PI (X:Cx) (tg iter:Expr) (wi:TI):Prop:=
 ∀ (pins:List (Addr×Obj)) (s:Shared) (σ:St) (H:Hp) (R:It->Hp->Prop),Inv X pins σ H s->wi σ H R->
  wpAny (model X.prog X.w) X.A (eval iter X.env) (λv s1=>wpAny (model X.prog X.w) X.A (pyIter v) (PIE X pins σ tg R) X.xe s1) X.xe s
theorem wb {M:Model}{A:Around}{E:Value->Shared->Prop}{s:Shared}{tg:Expr}{it:Addr}{u:Value}{o:Obj}{n:String}{vs:Array Value}{Q:Unit->Shared->Prop} (ho:s.heap.get? it=some o) (hc:o.cls=.type n) (hd:o.data=.fields vs)
  (hn:["enumerate","zip","dict_itemiterator","dict_reverseitemiterator","odict_iterator","itertools.zip_longest","itertools.pairwise"].contains n=false) (hQ:Q () s):wpAny M A (letOwnedTupleGo tg (.ref it) u) Q E s:=by
 unfold letOwnedTupleGo
 cases tg<;>first
  | exact wpAny_pure hQ
  | (cases u<;>first
      | exact wpAny_pure hQ
      | (refine wpAny_bind (wpAny_load ho ?_)
         rw [hc,hd]
         show wpAny M A (if (["enumerate","zip","dict_itemiterator","dict_reverseitemiterator","odict_iterator","itertools.zip_longest","itertools.pairwise"].contains n && vs[0]?==some (rawInt _))=true then _ else _) Q E s
         rw [if_neg (by intro h;rw [hn,Bool.false_and] at h;cases h)]
         exact wpAny_pure hQ))
noncomputable def Itl (K:PySem.W.Frag) (a:Addr):It:=
 ⟨λi H=>∃ xs x,SqL K H a xs/\xs[i]?=some x,λi H x H'=>H'=H/\∀ xs,SqL K H a xs->xs[i]?=some x,λi H=>∃ xs,SqL K H a xs/\xs.length<=i⟩
noncomputable def Itt (K:PySem.W.Frag) (a:Addr):It:=
 ⟨λi H=>∃ xs x,SqT K H a xs/\xs[i]?=some x,λi H x H'=>H'=H/\∀ xs,SqT K H a xs->xs[i]?=some x,λi H=>∃ xs,SqT K H a xs/\xs.length<=i⟩
noncomputable def Itr (lo:Int) (n:Nat):It:=⟨λi _=>i < n,λi H x H'=>H'=H/\x=.int (lo+i),λi _=>n<=i⟩
theorem tQ {P:Program}{w:World}{K:PySem.W.Frag}{tg:Expr} (a it:Addr):ya P w K tg (Itl K a) [it] it (λi h=>h.IsListIter it a i) where
 mem:=by simp
 obj:=λi h st b hb=>by
  have e:b=it:=by simpa using hb
  subst e
  obtain⟨o,e,c,d⟩:=st
  exact⟨o,e,λv z=>by rw [d] at z;cases z⟩
 keep:=λi h h' st k=>st.at λo e=>k it (by simp) o e
 item:=by
  intro X hP hw hK hc i pins s σ H E I hf st hg
  subst hP hw hK
  obtain⟨xs,x,hq,hx⟩:=hg
  obtain⟨its,rv,p,hz⟩:=I.list hq
  obtain⟨u,hu,ru⟩:=rv.get hx
  obtain⟨f0,f1,f2,f3,f4,f5⟩:=hf it (by simp)
  refine wpAny_pyNext_list_item st p.isList (x:=u) (by simpa using hu) λh' st' sb=>?_
  have I1:Inv X pins σ H { s with heap:=h' }:=I.turned (t':=s.toks) (λb o hb e=>(sb.2 b hb).trans e) f0 f1 f3 f4 f5
  obtain⟨o,e,c,d⟩:=id st'
  exact⟨u,rfl,wb (s:={ s with heap:=h' }) e c d (by decide) ⟨x,H,I1,ru,⟨rfl,λys hy=>by rw [I.list_inj hy hq];exact hx⟩,st',λb hb=>(hf b hb).1⟩⟩
 done:=by
  intro X hP hw hK hc i pins s σ H E I hf st hg
  subst hP hw hK
  obtain⟨xs,hq,hx⟩:=hg
  obtain⟨its,rv,p,hz⟩:=I.list hq
  obtain⟨f0,f1,f2,f3,f4,f5⟩:=hf it (by simp)
  have hl:=rv.length
  exact wpAny_pyNext_list_end (I.ok.hd hc) st p.isList (by simp;lia) λh' eb=>⟨rfl,I.turned (t':=s.toks) (λb o hb e=>eb b o hb e) f0 f1 f3 f4 f5⟩
 self:=λ_ _ _ _ _ st h=>wpAny_pyIter_listiter st h
theorem qJ {P:Program}{w:World}{K:PySem.W.Frag}{tg:Expr} (a it:Addr):ya P w K tg (Itt K a) [it] it (λi h=>h.IsTupleIter it a i) where
 mem:=by simp
 obj:=λi h st b hb=>by
  have e:b=it:=by simpa using hb
  subst e
  obtain⟨o,e,c,d⟩:=st
  exact⟨o,e,λv z=>by rw [d] at z;cases z⟩
 keep:=λi h h' st k=>st.at λo e=>k it (by simp) o e
 item:=by
  intro X hP hw hK hc i pins s σ H E I hf st hg
  subst hP hw hK
  obtain⟨xs,x,hq,hx⟩:=hg
  obtain⟨its,rv,p,hz⟩:=I.tuple hq
  obtain⟨u,hu,ru⟩:=rv.get hx
  obtain⟨f0,f1,f2,f3,f4,f5⟩:=hf it (by simp)
  refine wpAny_pyNext_tuple_item st (show s.heap.IsTuple a its.toArray from p) (x:=u) (by simpa using hu) λh' st' sb=>?_
  have I1:Inv X pins σ H { s with heap:=h' }:=I.turned (t':=s.toks) (λb o hb e=>(sb.2 b hb).trans e) f0 f1 f3 f4 f5
  obtain⟨o,e,c,d⟩:=id st'
  exact⟨u,rfl,wb (s:={ s with heap:=h' }) e c d (by decide) ⟨x,H,I1,ru,⟨rfl,λys hy=>by rw [I.tuple_inj hy hq];exact hx⟩,st',λb hb=>(hf b hb).1⟩⟩
 done:=by
  intro X hP hw hK hc i pins s σ H E I hf st hg
  subst hP hw hK
  obtain⟨xs,hq,hx⟩:=hg
  obtain⟨its,rv,p,hz⟩:=I.tuple hq
  obtain⟨f0,f1,f2,f3,f4,f5⟩:=hf it (by simp)
  have hl:=rv.length
  exact wpAny_pyNext_tuple_end (I.ok.hd hc) st (show s.heap.IsTuple a its.toArray from p) (by simp;lia) λh' eb=>⟨rfl,I.turned (t':=s.toks) (λb o hb e=>eb b o hb e) f0 f1 f3 f4 f5⟩
 self:=λ_ _ _ _ _ st h=>wpAny_pyIter_tupleiter st h
theorem qO {P:Program}{w:World}{K:PySem.W.Frag}{tg:Expr} (it:Addr) (lo:Int) (n:Nat):ya P w K tg (Itr lo n) [it] it (λi h=>IsRangeIter h it (lo+(i:Nat)*1) ((n:Int) - (i:Nat)) 1) where
 mem:=by simp
 obj:=λi h st b hb=>by
  have e:b=it:=by simpa using hb
  subst e
  exact⟨_,st,λv z=>by
   have z':Data.fields _=Data.cell v:=z
   cases z'⟩
 keep:=λi h h' st k=>k it (by simp) _ st
 item:=by
  intro X hP hw hK hc i pins s σ H E I hf st hg
  subst hP hw hK
  obtain⟨f0,f1,f2,f3,f4,f5⟩:=hf it (by simp)
  have W:=Walks.range (prog:=X.prog) (w:=X.w) (I.ok.hd hc) it lo 1 n
  refine W.item i s _ _ hg st λv h' tk hv st' kk=>?_
  obtain⟨t,rfl⟩:=hv
  have I1:Inv X pins σ H { s with heap:=h',toks:=tk }:=I.turned (λb o hb e=>kk b o (by simpa using hb) e) f0 f1 f3 f4 f5
  refine⟨_,rfl,wb (s:={ s with heap:=h',toks:=tk }) (n:="range_iterator") st' rfl rfl (by decide) ⟨.int (lo+i),H,I1,⟨t,?_⟩,⟨rfl,rfl⟩,st',λb hb=>(hf b hb).1⟩⟩
  rw [Int.mul_one]
 done:=by
  intro X hP hw hK hc i pins s σ H E I hf st hg
  subst hP hw hK
  obtain⟨f0,f1,f2,f3,f4,f5⟩:=hf it (by simp)
  exact wpAny_pyNext_range_end (I.ok.hd hc) st (by have:n<=i:=hg;lia) λh' eb=>⟨rfl,I.turned (t':=s.toks) (λb o hb e=>eb b o hb e) f0 f1 f3 f4 f5⟩
 self:=λ_ _ _ _ _ st h=>wpAny_pyIter_rangeiter st h
end L2
namespace L2
open PySem PySem.Spec PyProof.Rows
section
variable {X:Cx}{tg:Expr}
noncomputable def AJ (K:PySem.W.Frag) (tl:TE):TI:=λσ H R=>tl σ H λx H1=>∃ a,x=.ref a/\(∃ xs,SqL K H1 a xs)/\R (Itl K a) H1
noncomputable def Bz (K:PySem.W.Frag) (tl:TE):TI:=λσ H R=>tl σ H λx H1=>∃ a,x=.ref a/\(∃ xs,SqT K H1 a xs)/\R (Itt K a) H1
theorem rB {l:Expr}{tl:TE} (hl:PE X l tl):PI X tg l (AJ X.K tl):=by
 intro pins s σ H R I h
 refine thn (hl pins s σ H _ I h) λv s1 ⟨x,H1,I1,r1,q1⟩=>?_
 obtain⟨a,e,⟨xs,hq⟩,q⟩:=q1
 subst e
 cases r1
 obtain⟨its,rv,p,hz⟩:=I1.list hq
 refine wpAny_pyIter_list p.isList ?_
 refine⟨s1.heap.objs.size,[s1.heap.objs.size],_,_,H1,rfl,I1.kept (t':=s1.toks) λb o e=>Heap.get?_push_of_some _ e,tQ a _,⟨_,Heap.get?_push_size _ rfl,rfl,rfl⟩,λb hb=>?_,q⟩
 have e:b=s1.heap.objs.size:=by simpa using hb
 subst e
 exact I1.fpOk (Nat.le_refl _) (I1.hok.fresh (Nat.le_refl _))
theorem zR {l:Expr}{tl:TE} (hl:PE X l tl):PI X tg l (Bz X.K tl):=by
 intro pins s σ H R I h
 refine thn (hl pins s σ H _ I h) λv s1 ⟨x,H1,I1,r1,q1⟩=>?_
 obtain⟨a,e,⟨xs,hq⟩,q⟩:=q1
 subst e
 cases r1
 obtain⟨its,rv,p,hz⟩:=I1.tuple hq
 refine wpAny_pyIter_tuple (show s1.heap.IsTuple a its.toArray from p) ?_
 refine⟨s1.heap.objs.size,[s1.heap.objs.size],_,_,H1,rfl,I1.kept (t':=s1.toks) λb o e=>Heap.get?_push_of_some _ e,qJ a _,⟨_,Heap.get?_push_size _ rfl,rfl,rfl⟩,λb hb=>?_,q⟩
 have e:b=s1.heap.objs.size:=by simpa using hb
 subst e
 exact I1.fpOk (Nat.le_refl _) (I1.hok.fresh (Nat.le_refl _))
theorem wa {pins:List (Addr×Obj)}{σ:St}{H:Hp}{s:Shared}{R:It->Hp->Prop}{E:Value->Shared->Prop}{lo hi:Int}{t u v:Tok}{tk:Nat} (I:Inv X pins σ H s) (h1:-(2 ^ 62)<=lo) (h2:lo < 2 ^ 62) (h3:-(2 ^ 62)<=hi) (h4:hi < 2 ^ 62)
  (q:R (Itr lo (hi - lo).toNat) H):wpAny (model X.prog X.w) X.A (pyIter (.ref s.heap.objs.size)) (PIE X pins σ tg R) E { s with heap:=s.heap.push { cls:=.type "range",data:=.fields #[.int lo t,.int hi u,.int 1 v] },toks:=tk }:=by
 refine wpAny_pyIter_range (IsRange.new ..) (small_one h1 h2 h3 h4) ?_
 have I1:Inv X pins σ H { s with heap:=s.heap.push { cls:=.type "range",data:=.fields #[.int lo t,.int hi u,.int 1 v] },toks:=tk }:=I.kept λb o e=>Heap.get?_push_of_some _ e
 refine⟨(s.heap.push { cls:=.type "range",data:=.fields #[.int lo t,.int hi u,.int 1 v] }).objs.size,[(s.heap.push { cls:=.type "range",data:=.fields #[.int lo t,.int hi u,.int 1 v] }).objs.size],_,_,H,rfl,
  I1.kept (t':=tk) λb o e=>Heap.get?_push_of_some _ e,qO _ lo (hi - lo).toNat,?_,λb hb=>?_,q⟩
 ·have e1:lo+((0:Nat):Int)*1=lo:=by simp
  have e2:(((hi - lo).toNat:Nat):Int) - ((0:Nat):Int)=Builtin.Range.rangeSize lo hi 1:=by rw [rangeSize_one];split<;>lia
  show IsRangeIter _ _ (lo+((0:Nat):Int)*1) ((((hi - lo).toNat:Nat):Int) - ((0:Nat):Int)) 1
  rw [e1,e2]
  exact Heap.get?_push_size _ rfl
 ·have e:b=(s.heap.push { cls:=.type "range",data:=.fields #[.int lo t,.int hi u,.int 1 v] }).objs.size:=by simpa using hb
  subst e
  exact I1.fpOk (Nat.le_refl _) (I1.hok.fresh (Nat.le_refl _))
noncomputable def Ao (ta:TA):TI:=λσ H R=>ta σ H λvs H1=>∃ j:Int,vs=[.int j]/\-(2 ^ 62)<=j/\j < 2 ^ 62/\R (Itr 0 j.toNat) H1
theorem tF {a:Expr}{ta:TA}{p pos:Pos} (hg:Gl X "range") (hm:X.mg "range" = none) (ha:PA X [a] ta) (hs:starEach [a] X.env=[(false,eval a X.env)]:=by rfl):PI X tg (.Call (.Name "range" p) [a] [] pos) (Ao ta):=by
 intro pins s σ H R I h
 refine Call_ (fR I hg hm boot_range (PyProof.Rows.callWith_type1 (thn (ha pos pins s σ H _ I h) λus s1 ⟨vs,H1,I1,r1,q1⟩=>?_) hs rfl))
 obtain⟨j,e,q1,q2,q⟩:=q1
 subst e
 cases r1 with
 | cons r rr=>
  cases rr
  obtain⟨t,rfl⟩:=r
  exact call_range_1 (wa I1 (by lia) (by lia) q1 q2 (by simpa using q))
noncomputable def BR (wi:TI) (g:TG) (tb:TS):TS:=λD σ H=>wi σ H λJ H1=>∃ W:Nat->Nat->St->Hp->Prop,(∃ m,W 0 m σ H1)/\∀ i m σ H,W i m σ H->
 (J.stop i H/\D.nx σ H)\/(J.go i H/\∃ N:St->Hp->Prop,(∀ σ' H',N σ' H'->∃ m',m' < m/\W (i+1) m' σ' H')/\∀ x H',J.yld i H x H'->g x σ H' λσ2 H2=>tb { D with nx:=N,ct:=N,bk:=D.nx } σ2 H2)
noncomputable def iL (fp:List Addr) (h:Heap):List (Addr×Obj):=fp.filterMap λb=>(h.get? b).map λo=>(b,o)
theorem cq {fp:List Addr}{h:Heap}{b:Addr}{o:Obj} (hb:b ∈ fp) (e:h.get? b=some o):(b,o) ∈ iL fp h:=List.mem_filterMap.mpr ⟨b,hb,by rw [e];rfl⟩
theorem tY {fp:List Addr}{h:Heap}{p:Addr×Obj} (hp:p ∈ iL fp h):p.1 ∈ fp/\h.get? p.1=some p.2:=by
 obtain⟨b,hb,e⟩:=List.mem_filterMap.mp hp
 cases q:h.get? b with
 | none=>rw [q] at e;cases e
 | some o=>
  rw [q] at e
  have e':(b,o)=p:=Option.some.inj e
  subst e'
  exact⟨hb,q⟩
theorem Inv.pinned {pins:List (Addr×Obj)}{σ:St}{H:Hp}{s:Shared}{fp:List Addr} (I:Inv X pins σ H s) (hf:∀ b ∈ fp,ig X pins H b) (ho:∀ b ∈ fp,∃ o,s.heap.get? b=some o/\∀ v,o.data≠.cell v):Inv X (pins++iL fp s.heap) σ H s:=
 I.pins_of λp hp=>(List.mem_append.mp hp).elim (λz=>I.pin p (List.mem_append_right _ z)) λz=>by
  obtain⟨hb,e⟩:=tY z
  obtain⟨f0,f1,f2,_⟩:=hf p.1 hb
  obtain⟨o,e',d⟩:=ho p.1 hb
  rw [e] at e';cases e'
  exact⟨e,f0,f1,f2,d⟩
theorem Inv.unpinned {pins pl:List (Addr×Obj)}{σ:St}{H:Hp}{s:Shared} (I:Inv X (pins++pl) σ H s):Inv X pins σ H s:=I.pins_of λp hp=>I.pin p (List.mem_append_right _ (List.mem_append_left _ hp))
theorem uR {iter:Expr}{body:List Stmt}{wi:TI}{g:TG}{tb:TS}{pos:Pos} (hp:PassesOwn (model X.prog X.w) X.A X.env X.xe) (hc:X.calm=true) (hi:PI X tg iter wi) (hg:PG X tg g) (hb:PSs X body tb)
  (hs:∀ x,foldedSetIterable iter X.env x=pure x:=by intro _;rfl):PS X (.For tg iter body [] pos) (BR wi g tb):=by
 intro pins s σ H D I h
 refine wpAny_For (thn (hi pins s σ H _ I h) λv s1 h1=>thn h1 λitv s2 h2=>?_) hs
 obtain⟨it,fp,tn,J,H2,e,I2,T,st2,f2,W,⟨m0,w0⟩,turn⟩:=h2
 subst e
 -- what stays true of the iterator's objects through the loop
 have stat:∀ {H':Hp},(∀ b ∈ fp,H' b=none)->∀ b ∈ fp,ig X pins H' b:=λhn b hb=>⟨hn b hb,(f2 b hb).2⟩
 refine codeAny_forLoop_any (λn s'=>∃ i σ' H',Inv X pins σ' H' s'/\tn i s'.heap/\(∀ b ∈ fp,H' b=none)/\W i n σ' H') ?_ m0 ⟨0,σ,H2,I2,st2,λb hb=>(f2 b hb).1,w0⟩
 rintro n s3 ⟨i,σ3,H3,I3,st3,fr3,w3⟩
 rcases turn i n σ3 H3 w3 with⟨stop,qn⟩ | ⟨go,N,hN,step⟩
 ·refine wpAny_passesOwn hp (thn (T.done X rfl rfl rfl hc i pins s3 σ3 H3 X.xe I3 (stat fr3) st3 stop) λr s4 ⟨hr,I4⟩=>?_)
  subst hr
  exact wpAny_execs_nil ⟨σ3,H3,I4,qn⟩
 ·refine wpAny_passesOwn hp (thn (T.item X rfl rfl rfl hc i pins s3 σ3 H3 X.xe I3 (stat fr3) st3 go) λr s4 ⟨u,hr,h4⟩=>?_)
  subst hr
  refine wpAny_passesOwn hp (thn h4 λ_ s5 ⟨x,H5,I5,r5,y5,st5,fr5⟩=>?_)
  have I5':=I5.pinned (stat fr5) (T.obj _ _ st5)
  refine wpAny_passesOwn hp (thn (hg _ s5 σ3 H5 x u _ I5' r5 (step x H5 y5)) λ_ s6 ⟨σ6,H6,I6,q6⟩=>?_)
  refine wpAny_passesOwn hp (thn (hb _ s6 σ6 H6 _ I6 q6) λf s7 q7=>?_)
  have again:∀ {σ7:St}{H7:Hp},Inv X (pins++iL fp s5.heap) σ7 H7 s7->N σ7 H7->∃ m,m < n/\∃ i σ' H',Inv X pins σ' H' s7/\tn i s7.heap/\(∀ b ∈ fp,H' b=none)/\W i m σ' H':=λ{σ7 H7} I7 n7=>by
   obtain⟨m',hm,w7⟩:=hN σ7 H7 n7
   refine⟨m',hm,i+1,σ7,H7,I7.unpinned,T.keep _ _ _ st5 λb hb o e=>(I7.pin (b,o) (List.mem_append_right _ (List.mem_append_right _ (cq hb e)))).1,λb hb=>?_,w7⟩
   obtain⟨o,e,d⟩:=T.obj _ _ st5 b hb
   exact (I7.pin (b,o) (List.mem_append_right _ (List.mem_append_right _ (cq hb e)))).2.1
  cases f with
  | next=>obtain⟨σ7,H7,I7,n7⟩:=q7;exact again I7 n7
  | cont=>obtain⟨σ7,H7,I7,n7⟩:=q7;exact again I7 n7
  | brk=>obtain⟨σ7,H7,I7,q7⟩:=q7;exact⟨σ7,H7,I7.unpinned,q7⟩
  | ret v=>obtain⟨x7,σ7,H7,I7,r7,q7⟩:=q7;exact⟨x7,σ7,H7,I7.unpinned,r7,q7⟩
end
end L2
namespace L2
open PySem PySem.Spec PyProof.Rows
abbrev R2:=V->V->Hp->VK->Prop
noncomputable def OpR (X:Cx) (f:Value->Value->Sem Value) (r:R2):Prop:=
 ∀ (pins:List (Addr×Obj)) (s:Shared) (σ:St) (H:Hp) (x y:V) (v u:Value) (Q:VK),Inv X pins σ H s->az x v->az y u->r x y H Q->
  wpAny (model X.prog X.w) X.A (f v u) (EP X pins σ Q) X.xe s
noncomputable def UnR (X:Cx) (f:Value->Sem Value) (r:V->Hp->VK->Prop):Prop:=
 ∀ (pins:List (Addr×Obj)) (s:Shared) (σ:St) (H:Hp) (x:V) (v:Value) (Q:VK),Inv X pins σ H s->az x v->r x H Q->
  wpAny (model X.prog X.w) X.A (f v) (EP X pins σ Q) X.xe s
noncomputable def cW (X:Cx) (f:Value) (r:List V->Hp->VK->Prop):Prop:=
 ∀ (pins:List (Addr×Obj)) (s:Shared) (σ:St) (H:Hp) (xs:List V) (us:List Value) (Q:VK),Inv X pins σ H s->ay xs us->r xs H Q->
  wpAny (model X.prog X.w) X.A (call f us) (EP X pins σ Q) X.xe s
noncomputable def BN (X:Cx) (r:V->Hp->(Bool->Hp->Prop)->Prop):Prop:=
 ∀ (pins:List (Addr×Obj)) (s:Shared) (σ:St) (H:Hp) (x:V) (v:Value) (Q:Bool->Hp->Prop),Inv X pins σ H s->az x v->r x H Q->
  wpAny (model X.prog X.w) X.A (truthy v) (TP X pins σ Q) X.xe s
noncomputable def tOp (r:R2) (ta tb:TE):TE:=λσ H Q=>ta σ H λx H1=>tb σ H1 λy H2=>r x y H2 Q
noncomputable def tUn (r:V->Hp->VK->Prop) (ta:TE):TE:=λσ H Q=>ta σ H λx H1=>r x H1 Q
noncomputable def rI (C:Int->Int->Prop) (g:Int->Int->V):R2:=λx y H Q=>∃ i j,x=.int i/\y=.int j/\C i j/\Q (g i j) H
noncomputable def rI0 (g:Int->Int->V):R2:=λx y H Q=>∃ i j,x=.int i/\y=.int j/\Q (g i j) H
noncomputable def rU (g:Int->V):V->Hp->VK->Prop:=λx H Q=>∃ i,x=.int i/\Q (g i) H
section
variable {X:Cx}{a b c:Expr}{ta tb tc:TE}{pos:Pos}
theorem zp (ha:PE X a ta) (hb:PE X b tb) {pins:List (Addr×Obj)}{s:Shared}{σ:St}{H:Hp}{R:V->V->Hp->Prop} (I:Inv X pins σ H s)
  (h:ta σ H λx H1=>tb σ H1 λy H2=>R x y H2) {Q:Value->Shared->Prop}{f:Value->Value->Sem Value}
  (hf:∀ v u s2 x y H2,Inv X pins σ H2 s2->az x v->az y u->R x y H2->wpAny (model X.prog X.w) X.A (f v u) Q X.xe s2) :
  wpAny (model X.prog X.w) X.A (eval a X.env) (λv s₁=>wpAny (model X.prog X.w) X.A (eval b X.env) (λu s₂=>wpAny (model X.prog X.w) X.A (f v u) Q X.xe s₂) X.xe s₁) X.xe s:=by
 refine thn (ha pins s σ H _ I h) λv s1 ⟨x,H1,I1,r1,q1⟩=>?_
 refine thn (hb pins s1 σ H1 _ I1 q1) λu s2 ⟨y,H2,I2,r2,q2⟩=>?_
 exact hf v u s2 x y H2 I2 r1 r2 q2
theorem Bn {op:Operator}{r:R2} (ho:OpR X (binaryOp op) r) (ha:PE X a ta) (hb:PE X b tb):PE X (.BinOp a op b pos) (tOp r ta tb):=by
 intro pins s σ H Q I h
 exact wpAny_BinOp (zp ha hb I h λv u s2 x y H2 I2 rx ry q=>ho pins s2 σ H2 x y v u Q I2 rx ry q)
theorem AW {op:UnaryOp}{r:V->Hp->VK->Prop} (ho:UnR X (unaryOp op) r) (ha:PE X a ta):PE X (.UnaryOp op a pos) (tUn r ta):=by
 intro pins s σ H Q I h
 exact UnaryOp_ (thn (ha pins s σ H _ I h) λv s1 ⟨x,H1,I1,r1,q1⟩=>ho pins s1 σ H1 x v Q I1 r1 q1)
theorem opI {f:Value->Value->Sem Value}{C:Int->Int->Prop}{g:Int->Int->Int}
  (rule:∀ (i j:Int) (t u:Tok) (s:Shared) (Q:Value->Shared->Prop) (E:Value->Shared->Prop),C i j->Q (.int (g i j) s.toks) { s with toks:=s.toks+1 }->wpAny (model X.prog X.w) X.A (f (.int i t) (.int j u)) Q E s) :
  OpR X f (rI C λi j=>.int (g i j)):=by
 intro pins s σ H x y v u Q I rx ry h
 obtain⟨i,j,rfl,rfl,hc,q⟩:=h
 obtain⟨t,rfl⟩:=rx
 obtain⟨t',rfl⟩:=ry
 exact rule i j t t' s _ _ hc ⟨.int (g i j),H,I.tok _,⟨_,rfl⟩,q⟩
theorem Ai {f:Value->Value->Sem Value}{g:Int->Int->Int}
  (rule:∀ (i j:Int) (t u:Tok) (s:Shared) (Q:Value->Shared->Prop) (E:Value->Shared->Prop),Q (.int (g i j) s.toks) { s with toks:=s.toks+1 }->wpAny (model X.prog X.w) X.A (f (.int i t) (.int j u)) Q E s) :
  OpR X f (rI0 λi j=>.int (g i j)):=by
 intro pins s σ H x y v u Q I rx ry h
 obtain⟨i,j,rfl,rfl,q⟩:=h
 obtain⟨t,rfl⟩:=rx
 obtain⟨t',rfl⟩:=ry
 exact rule i j t t' s _ _ ⟨.int (g i j),H,I.tok _,⟨_,rfl⟩,q⟩
theorem zS {f:Value->Value->Sem Value}{g:Int->Int->Bool}
  (rule:∀ (i j:Int) (t u:Tok) (s:Shared) (Q:Value->Shared->Prop) (E:Value->Shared->Prop),Q (.bool (g i j)) s->wpAny (model X.prog X.w) X.A (f (.int i t) (.int j u)) Q E s) :
  OpR X f (rI0 λi j=>.bl (g i j)):=by
 intro pins s σ H x y v u Q I rx ry h
 obtain⟨i,j,rfl,rfl,q⟩:=h
 obtain⟨t,rfl⟩:=rx
 obtain⟨t',rfl⟩:=ry
 exact rule i j t t' s _ _ ⟨.bl (g i j),H,I,rfl,q⟩
noncomputable def Bo (i j:Int):Prop:=0 < j/\j < 1073741824
noncomputable def nP (i j:Int):Prop:=0<=j/\j<=1000000/\i.natAbs < 2 ^ 64
noncomputable def xk (i j:Int):Prop:=(-(2 ^ 64) < i/\i < 2 ^ 64)\/(-(2 ^ 64) < j/\j < 2 ^ 64)
theorem xk.ok {i j:Int} (h:xk i j):IntMulOk i j:=by
 rcases h with⟨h1,h2⟩ | ⟨h1,h2⟩
 ·exact .of_left (intBits_le_64 h1 h2)
 ·exact .of_right (intBits_le_64 h1 h2)
theorem p8 (k:Nat):(0:Int)<=2 ^ k:=by
 rw [two_pow_cast]
 exact Int.natCast_nonneg _
theorem yy:OpR X (binaryOp .Add) (rI0 λi j=>.int (i+j)):=Ai λ_ _ _ _ _ _ _ q=>add_int q
theorem zN:OpR X (binaryOp .Sub) (rI0 λi j=>.int (i - j)):=Ai λ_ _ _ _ _ _ _ q=>sub_int q
theorem wB:OpR X (binaryOp .FloorDiv) (rI Bo λi j=>.int (i / j)):=opI λi j _ _ _ _ _ hc q=>by
 have h1:(0:Int) < j:=hc.1
 have h2:j < 1073741824:=hc.2
 exact floordiv_int (by lia) (by rw [Int.fdiv_eq_ediv_of_nonneg i (by lia)];exact q) (.inl (PyProof.noPylong_small (by lia)))
theorem Ac:OpR X (binaryOp .Mod) (rI (λ_ j=>0 < j) λi j=>.int (i % j)):=opI λi j _ _ _ _ _ hc q=>by
 have h1:(0:Int) < j:=hc
 exact mod_int' (by lia) (by rw [Int.fmod_eq_emod_of_nonneg i (by lia)];exact q)
theorem zy:OpR X (binaryOp .Pow) (rI nP λi j=>.int (i ^ j.toNat)):=opI λ_ _ _ _ _ _ _ hc q=>pow_int_small hc.1 hc.2.1 hc.2.2 q
theorem zx:OpR X (binaryOp .LShift) (rI nP λi j=>.int (i*2 ^ j.toNat)):=opI λ_ _ _ _ _ _ _ hc q=>lshift_int_small hc.1 hc.2.1 hc.2.2 q
theorem yT:OpR X (binaryOp .RShift) (rI (λ_ j=>0<=j) λi j=>.int (i / 2 ^ j.toNat)):=opI λi j _ _ _ _ _ hc q=>
 rshift_int hc (by rw [Int.fdiv_eq_ediv_of_nonneg i (p8 _)];exact q)
theorem zb:OpR X (binaryOp .BitAnd) (rI0 λi j=>.int (Builtin.bitAnd i j)):=Ai λ_ _ _ _ _ _ _ q=>and_int q
theorem unI {f:Value->Sem Value}{g:Int->Int}
  (rule:∀ (i:Int) (t:Tok) (s:Shared) (Q:Value->Shared->Prop) (E:Value->Shared->Prop),Q (.int (g i) s.toks) { s with toks:=s.toks+1 }->wpAny (model X.prog X.w) X.A (f (.int i t)) Q E s) :
  UnR X f (rU λi=>.int (g i)):=by
 intro pins s σ H x v Q I rx h
 obtain⟨i,rfl,q⟩:=h
 obtain⟨t,rfl⟩:=rx
 exact rule i t s _ _ ⟨.int (g i),H,I.tok _,⟨_,rfl⟩,q⟩
theorem yY:UnR X (unaryOp .USub) (rU λi=>.int (-i)):=unI λ_ _ _ _ _ q=>neg_int q
end
section
variable {X:Cx}{a b c:Expr}{ta tb tc:TE}{pos:Pos}
theorem AQ:OpR X (compareOp .LtE) (rI0 λi j=>.bl (decide (i<=j))):=zS λ_ _ _ _ _ _ _ q=>le_int q
theorem Ap:OpR X (compareOp .Gt) (rI0 λi j=>.bl (decide (j < i))):=zS λ_ _ _ _ _ _ _ q=>gt_int q
theorem AM:OpR X (compareOp .GtE) (rI0 λi j=>.bl (decide (j<=i))):=zS λ_ _ _ _ _ _ _ q=>ge_int q
theorem bS (b:Expr) {op:CmpOp} (h:op≠.In:=by decide) (h2:op≠.NotIn:=by decide):behindInMarks op b=false:=by
 have e1:(op==CmpOp.In)=false:=by cases op<;>first | rfl | exact absurd rfl h
 have e2:(op==CmpOp.NotIn)=false:=by cases op<;>first | rfl | exact absurd rfl h2
 cases b<;>simp [behindInMarks,e1,e2]
theorem wA {op:CmpOp}{r:R2} (ho:OpR X (compareOp op) r) (ha:PE X a ta) (hb:PE X b tb) (hm:behindInMarks op b=false):PE X (.Compare a [op] [b] pos) (tOp r ta tb):=by
 intro pins s σ H Q I h
 exact wpAny_Compare1 (zp ha hb I h λv u s2 x y H2 I2 rx ry q=>ho pins s2 σ H2 x y v u Q I2 rx ry q) hm
noncomputable def AB (t:TE):TT:=λσ H Q=>t σ H λx H'=>∃ k,x=.bl k/\Q k H'
theorem wo {op:CmpOp}{r:R2} (ho:OpR X (compareOp op) r) (ha:PE X a ta) (hb:PE X b tb) (hm:behindInMarks op b=false):PT X (.Compare a [op] [b] pos) (AB (tOp r ta tb)):=by
 intro pins s σ H Q I h
 refine wpAny_isTrue_Compare1 (thn (ha pins s σ H _ I h) λv s1 ⟨x,H1,I1,r1,q1⟩=>thn (hb pins s1 σ H1 _ I1 q1) λu s2 ⟨y,H2,I2,r2,q2⟩=>
  thn (ho pins s2 σ H2 x y v u _ I2 r1 r2 q2) λc s3 ⟨z,H3,I3,r3,k,e,q3⟩=>?_) hm
 subst e
 cases r3
 exact wpAny_truthy_bool ⟨H3,I3,q3⟩
noncomputable def x8 (K:PySem.W.Frag) (x:V) (H:Hp) (k:Bool):Prop:=
 match x with
 | .non=>k=false
 | .bl b=>k=b
 | .int i=>k=(i != 0)
 | .str y=>y.length<=sizeLine/\k=((y.length:Int) != 0)
 | .byt y=>y.size<=sizeLine/\k=((y.size:Int) != 0)
 | .ref p=>(∃ xs,SqL K H p xs/\k=!xs.isEmpty)\/(∃ xs,SqT K H p xs/\k=!xs.isEmpty)\/∃ kvs,H p=some (.dK kvs)/\k=!kvs.isEmpty
 | _=>False
theorem qH {κ:Type}{kvs:List (κ×V)}{vs:List (κ×Value)} (r:KV kvs vs):(!vs.isEmpty)=!kvs.isEmpty:=by
 cases r<;>rfl
theorem kH {xs:List V}{its:List Value} (r:ay xs its):(!its.toArray.isEmpty)=!xs.isEmpty:=by
 cases r<;>simp
theorem gC:(sizeLine:Nat) < 2 ^ 63:=by rw [sizeLine_eq];decide
theorem zj:BN X (λx H Q=>∃ k,x8 X.K x H k/\Q k H):=by
 intro pins s σ H x v Q I rx h
 obtain⟨k,e,q⟩:=h
 have hl:=gC
 have hs:sizeLine=16777216:=sizeLine_eq
 cases x with
 | non=>
  cases rx
  have e':k=false:=e
  subst e'
  exact truthy_none ⟨H,I,q⟩
 | bl b=>
  cases rx
  have e':k=b:=e
  subst e'
  exact wpAny_truthy_bool ⟨H,I,q⟩
 | int i=>
  obtain⟨t,rfl⟩:=rx
  have e':k=(i != 0):=e
  subst e'
  exact PySem.P.truthy_int ⟨H,I,q⟩
 | str y=>
  obtain⟨t,rfl⟩:=rx
  obtain⟨hy,e'⟩:y.length<=sizeLine/\k=((y.length:Int) != 0):=e
  subst e'
  exact PySem.P.truthy_str (by lia) ⟨H,I.tok _,q⟩
 | byt y=>
  obtain⟨t,rfl⟩:=rx
  obtain⟨hy,e'⟩:y.size<=sizeLine/\k=((y.size:Int) != 0):=e
  subst e'
  exact PySem.W.truthy_bytes (by lia) ⟨H,I.tok _,q⟩
 | ref p=>
  cases rx
  have e':(∃ xs,SqL X.K H p xs/\k=!xs.isEmpty)\/(∃ xs,SqT X.K H p xs/\k=!xs.isEmpty)\/∃ kvs,H p=some (.dK kvs)/\k=!kvs.isEmpty:=e
  rcases e' with⟨xs,hx,e'⟩ | ⟨xs,hx,e'⟩ | ⟨kvs,hx,e'⟩
  ·subst e'
   obtain⟨its,r,pl,hz⟩:=I.list hx
   have hlen:=r.length
   exact wpAny_truthy_list pl.isList (by simp only [List.size_toArray];lia) ⟨H,I.tok _,by rw [kH r];exact q⟩
  ·subst e'
   obtain⟨its,r,pl,hz⟩:=I.tuple hx
   have hlen:=r.length
   exact truthy_tuple pl (by simp only [List.size_toArray];lia) ⟨H,I.tok _,by rw [kH r];exact q⟩
  ·subst e'
   obtain⟨hz,hS,vs,r,m⟩:kvs.length<=sizeLine/\(p==sysModules)=false/\∃ vs,KV kvs vs/\s.heap.DictOf (bQ X.prog X.w) p vs:=I.hok p _ hx
   have hlen:kvs.length=vs.length:=Paired.length r
   exact wpAny_truthy_dict hS m (by lia) ⟨H,I.tok _,by rw [qH r];exact q⟩
 | _=>exact (show False from e).elim
theorem ul (ha:PE X a ta) (he:∀ whole,isTrue a X.env whole=(do let v <-whole;standAt a.pos;holding [v] (truthy v))) :
  PT X a (λσ H Q=>ta σ H λx H'=>∃ k,x8 X.K x H' k/\Q k H'):=by
 intro pins s σ H Q I h
 exact isTrue_plain (thn (ha pins s σ H _ I h) λv s1 ⟨x,H1,I1,r1,q1⟩=>zj pins s1 σ H1 x v Q I1 r1 q1) (he _)
theorem qj:OpR X (binaryOp .Add) (λx y H Q=>∃ i j,x=.str i/\y=.str j/\i.length+j.length<=sizeLine/\Q (.str (i++j)) H):=by
 intro pins s σ H x y v u Q I rx ry h
 obtain⟨i,j,rfl,rfl,hz,q⟩:=h
 obtain⟨t,rfl⟩:=rx
 obtain⟨t',rfl⟩:=ry
 exact add_str (λt' tk=>⟨.str (i++j),H,I.tok _,⟨_,rfl⟩,q⟩) hz
theorem g9 {x:V}{us:List Value} (r:ay [x] us):∃ u,us=[u]/\az x u:=by
 cases r with
 | cons r1 r2=>cases r2;exact⟨_,rfl,r1⟩
theorem uv:cW X (.builtin "abs") (λxs H Q=>∃ i,xs=[.int i]/\Q (.int (if i < 0 then -i else i)) H):=by
 intro pins s σ H xs us Q I r h
 obtain⟨i,rfl,q⟩:=h
 obtain⟨u,rfl,t,rfl⟩:=g9 r
 exact call_abs_int λu tk=>⟨.int (if i < 0 then -i else i),H,I.tok _,⟨_,rfl⟩,q⟩
theorem mH:cW X (.type "int") (λxs H Q=>(∃ i,xs=[.int i]/\Q (.int i) H)\/∃ k,xs=[.bl k]/\Q (.int (if k then 1 else 0)) H):=by
 intro pins s σ H xs us Q I r h
 rcases h with⟨i,rfl,q⟩ | ⟨k,rfl,q⟩
 ·obtain⟨u,rfl,t,rfl⟩:=g9 r
  exact call_int_int ⟨.int i,H,I,⟨_,rfl⟩,q⟩
 ·obtain⟨u,rfl,r1⟩:=g9 r
  cases r1
  exact call_int_bool ⟨.int (if k then 1 else 0),H,I.tok _,⟨_,rfl⟩,q⟩
end
end L2
namespace L2
open PySem PySem.Spec PyProof.Rows
structure zG (h:Heap) (x dx C:Addr) (mA:Str->Option Value):Prop where
 obj:h.get? x=some (PySem.W.instObj C dx)
 ns:h.Ns1 dx mA
 ne:dx≠x
theorem tq {h:Heap}{dx:Addr}{mA:Str->Option Value} (n:h.Ns1 dx mA):∃ od,h.get? dx=some od/\∀ name,PySem.W.lookIn name od=some (mA name):=by
 obtain⟨o,es,ep,ho,hd,hk,_,hm⟩:=n
 refine⟨o,ho,λname=>?_⟩
 have e:=hm name
 unfold nsFind findBy at e
 rw [<-Array.find?_toList] at e
 unfold PySem.W.lookIn
 rw [hd]
 dsimp only
 split
 ·rename_i y q
  rw [q] at e
  exact congrArg some e
 ·rename_i q
  rw [q] at e
  have a:es.toList.any (·.refKey)=false:=by
   rw [List.any_eq_false]
   intro y hy
   obtain⟨z,t,hkey⟩:=hk y (Array.mem_toList_iff.mp hy)
   simp [DictEntry.refKey,hkey]
  have a':¬ es.toList.any (·.refKey)=true:=by rw [a];exact Bool.false_ne_true
  rw [if_neg a']
  exact congrArg some e
theorem zG.look {h:Heap}{x dx C:Addr}{mA:Str->Option Value} (I:zG h x dx C mA):∃ od,PySem.W.InstAt h x (PySem.W.instObj C dx) C (some od)/\∀ name,PySem.W.lookIn name od=some (mA name):=
 let ⟨od,ho,hl⟩:=tq I.ns
 ⟨od,⟨I.obj,rfl,rfl,ho⟩,hl⟩
section
variable {prog:Program}{w:World}{A:Around}{E:Value->Shared->Prop}{s:Shared}{K:PySem.W.Frag}{x dx C f:Addr}{mA:Str->Option Value}{name:Str}{v:Value}
end
theorem iJ.some_of {v:V}{o:Option Value} (r:iJ (some v) o):∃ u,o=some u/\az v u:=by
 cases o with
 | none=>exact (show False from r).elim
 | some u=>exact⟨u,rfl,r⟩
section
variable {P:Program}{w:World}{H H':Hp}{h h':Heap}{a C dx:Addr}{fs fs':List (Str×V)}
theorem wC (hok:HOk P w H h) (e:H a=some (.ins C dx fs)):∃ mA,zG h a dx C mA/\(∀ f,iJ (fs.lookup f) (mA f))/\PySem.Within mA (fs.map (·.1))/\fs.length<=1000/\H dx=some (.own a):=by
 obtain⟨d,z,ne,ob,mA,n,r,q⟩:=(show bP P w H h a (.ins C dx fs) from hok a _ e)
 exact⟨mA,⟨ob,n,ne⟩,r,q,z,d⟩
end
structure Cls (K:PySem.W.Frag) (C:Addr):Prop where
 pg:PySem.W.plainGet K C Str.empty=true
 hd:PySem.W.hasDictIn K C=true
 po:PySem.W.plainOver K C=true
 sa:PySem.W.findIn K (.ref C) "__setattr__" = some (some (.builtin "object.__setattr__"))
theorem Cls.get {K:PySem.W.Frag}{C:Addr} (c:Cls K C) (f:Str):PySem.W.plainGet K C f=true:=c.pg
section
variable {X:Cx}{pins:List (Addr×Obj)}{σ:St}{H:Hp}{s:Shared}{a C dx:Addr}{fs:List (Str×V)}{f:Str}{v:V}{A:Around}{E:Value->Shared->Prop}
end
section
variable {X:Cx}{o e value:Expr}{f:Str}{pos pos' tpos:Pos}{ta tv:TE}
end
section
variable {X:Cx}{pins:List (Addr×Obj)}{σ:St}{H:Hp}{s:Shared}{A:Around}{E:Value->Shared->Prop}{Q:Value->Shared->Prop}{c:Value}{b:Bool}
inductive jD (K:PySem.W.Frag) (H:Hp):V->Value->Prop where
 | non:jD K H .non (.type "NoneType")
 | bl (x:Bool):jD K H (.bl x) (.type "bool")
 | int (i:Int):jD K H (.int i) (.type "int")
 | str (x:Str):jD K H (.str x) (.type "str")
 | flt (x:UInt64):jD K H (.flt x) (.type "float")
 | lst {a:Addr}{xs:List V} (e:H a=some (.lst xs)):jD K H (.ref a) (.type "list")
 | frz {a:Addr}{o:Obj}{xs:List V} (e:H a=some (.frz o (.lst xs))):jD K H (.ref a) (.type "list")
 | tup {a:Addr}{xs:List V} (e:H a=some (.tup xs)):jD K H (.ref a) (.type "tuple")
 | dK {a:Addr}{kvs:List (Key×V)} (e:H a=some (.dK kvs)):jD K H (.ref a) (.type "dict")
 | dT {a:Addr}{kvs:List (List Key×V)} (e:H a=some (.dT kvs)):jD K H (.ref a) (.type "dict")
 | ins {a C dx:Addr}{fs:List (Str×V)} (e:H a=some (.ins C dx fs)) (cl:Cls K C) (ha:PySem.W.findIn K (.ref C) "__class__" = some (some (.builtin "object.__class__")))
   (hn:PySem.W.specialIn K (.builtin "object.__class__") "__get__" = some (some (.builtin "getset_descriptor.__get__"))) (htk:PySem.W.takesIn K (.builtin "object.__class__")=some true)
   (hm:PySem.W.mroIn K C (.type "object")=some true):jD K H (.ref a) (.ref C)
theorem ci {x:V}{u t:Value} (I:Inv X pins σ H s) (rx:az x u) (ty:jD X.K H x t) (e:PySem.W.kitOne X.K t c=some b) (h:∀ tk,Q (.bool b) { s with toks:=tk }) :
  wpAny (model X.prog X.w) A (call (.builtin "isinstance") [u,c]) Q E s:=by
 cases ty with
 | non=>cases (show u=Value.none from rx);exact PySem.W.kia_one PySem.W.kitx_none I.kIn True.intro e (λz=>nomatch z) h
 | bl y=>cases (show u=Value.bool y from rx);exact PySem.W.kia_one PySem.W.kitx_bool I.kIn True.intro e (λz=>nomatch z) h
 | int i=>obtain⟨t,q⟩:=(show ∃ t,u=Value.int i t from rx);cases q;exact PySem.W.kia_one PySem.W.kitx_int I.kIn True.intro e (λz=>nomatch z) h
 | str y=>obtain⟨t,q⟩:=(show ∃ t,u=Value.str y t from rx);cases q;exact PySem.W.kia_one PySem.W.kitx_str I.kIn True.intro e (λz=>nomatch z) h
 | flt y=>obtain⟨t,q⟩:=(show ∃ t,u=Value.float y t from rx);cases q;exact PySem.W.kia_one PySem.W.kitx_float I.kIn True.intro e (λz=>nomatch z) h
 | @lst a xs ea=>
  cases (show u=Value.ref a from rx)
  obtain⟨_,_,n,_,h1⟩:=(show bP X.prog X.w H s.heap a (.lst xs) from I.hok a _ ea)
  exact PySem.W.kia_one PySem.W.kitx_list I.kIn ⟨_,h1,rfl⟩ e (λz=>nomatch z) h
 | @frz a ob xs ea=>
  cases (show u=Value.ref a from rx)
  obtain⟨_,_,_,n,_,h1⟩:=(show bP X.prog X.w H s.heap a (.frz ob (.lst xs)) from I.hok a _ ea)
  exact PySem.W.kia_one PySem.W.kitx_list I.kIn ⟨_,h1,rfl⟩ e (λz=>nomatch z) h
 | @tup a xs ea=>
  cases (show u=Value.ref a from rx)
  obtain⟨_,_,_,p⟩:=(show bP X.prog X.w H s.heap a (.tup xs) from I.hok a _ ea)
  obtain⟨o,h1,h2,_⟩:=p
  exact PySem.W.kia_one PySem.W.kitx_tuple I.kIn ⟨o,h1,h2⟩ e (λz=>nomatch z) h
 | @dK a kvs ea=>
  cases (show u=Value.ref a from rx)
  obtain⟨_,_,vs,_,p⟩:=(show bP X.prog X.w H s.heap a (.dK kvs) from I.hok a _ ea)
  obtain⟨o,es,ep,h1,h2,_⟩:=p
  exact PySem.W.kia_one PySem.W.kitx_dict I.kIn ⟨o,h1,h2.1⟩ e (λz=>nomatch z) h
 | @dT a kvs ea=>
  cases (show u=Value.ref a from rx)
  obtain⟨_,_,xs,_,o,es,ep,h1,h2,_⟩:=(show bP X.prog X.w H s.heap a (.dT kvs) from I.hok a _ ea)
  exact PySem.W.kia_one PySem.W.kitx_dict I.kIn ⟨o,h1,h2.1⟩ e (λz=>nomatch z) h
 | @ins a C dx fs ea cl ha hn htk hm=>
  cases (show u=Value.ref a from rx)
  obtain⟨mA,O,_⟩:=wC I.hok ea
  obtain⟨od,J,_⟩:=O.look
  exact PySem.W.kia_one (PySem.W.kitx_own (cl.get _) cl.hd ha hn htk hm) I.kIn J e (λz=>nomatch z) h
end
end L2
namespace L2
open PySem PySem.Spec PyProof.Rows
structure bu (k:Nat) (A:Around):Prop where
 hd:A.handled=none
 dp:A.depth+3*k+5 < recursionLimit
 un:A.units+16*k+200 < cLine
 gd:A.guards=some []
theorem bu.mono {j k:Nat}{A:Around} (r:bu k A) (h:j<=k):bu j A:=⟨r.hd,by have:=r.dp;lia,by have:=r.un;lia,r.gd⟩
theorem bu.deeper {k:Nat}{A:Around} (r:bu (k+1) A) (env:Env):bu k (A.deeper env):=
 ⟨r.hd,by have:=r.dp;show A.depth+1+3*k+5 < _;lia,by have:=r.un;show A.units+3+16*k+200 < _;lia,r.gd⟩
theorem bu.depth {k:Nat}{A:Around} (r:bu k A):A.depth < recursionLimit:=by have:=r.dp;lia
theorem bu.units {k:Nat}{A:Around} (r:bu k A):A.units+64 < cLine:=by have:=r.un;lia
theorem bu.units0 {k:Nat}{A:Around} (r:bu k A):A.units < cLine:=by have:=r.un;lia
noncomputable def By:TA:=λ_ H Q=>Q [] H
noncomputable def A1 (ta:TE) (tr:TA):TA:=λσ H Q=>ta σ H λx H1=>tr σ H1 λxs H2=>Q (x::xs) H2
section
variable {X:Cx}{e:Expr}{es:List Expr}{te:TE}{t:TA}{pos:Pos}
theorem zi:PA X [] By:=λ_ _ _ _ H Q I h=>Calls.spliced_nil ⟨[],H,I,.nil,h⟩
theorem wm (ha:PE X e te) (hr:PA X es t) (hs:starEach (e::es) X.env=(false,eval e X.env)::starEach es X.env:=by rfl):PA X (e::es) (A1 te t):=by
 intro pos pins s σ H Q I h
 rw [hs]
 show wpAny _ _ (spliced ((false,eval e X.env)::backTo pos (starEach es X.env))) _ _ s
 refine Calls.spliced_cons (thn (ha pins s σ H _ I h) λu s1 ⟨x,H1,I1,r1,q1⟩=>?_)
 exact thn (hr pos pins s1 σ H1 _ I1 q1) λus s2 ⟨xs,H2,I2,r2,q2⟩=>⟨x::xs,H2,I2,.cons r1 r2,q2⟩
noncomputable def BG (t:TA):TE:=λσ H Q=>t σ H λxs H1=>xs.length<=sizeLine/\∀ p,H1 p=none->Q (.ref p) (upd H1 p (.tup xs))
noncomputable def Bt (t:TA):TE:=λσ H Q=>t σ H λxs H1=>xs.length<=sizeLine/\∀ p,H1 p=none->Q (.ref p) (upd H1 p (.lst xs))
theorem yE {x1} (h:PA X es t):PE X (.Tuple es x1 pos) (BG t):=by
 intro pins s σ H Q I hq
 refine wpAny_Tuple_spliced (thn (h pos pins s σ H _ I hq) λus s1 ⟨xs,H1,I1,r,z,q⟩=>⟨by rw [<-r.length];exact z,?_⟩)
 have hf:H1 s1.heap.objs.size=none:=I1.hok.fresh (Nat.le_refl _)
 refine⟨.ref s1.heap.objs.size,upd H1 s1.heap.objs.size (.tup xs),I1.laid (t':=s1.toks) (λb u e=>Heap.get?_push_of_some _ e) (Nat.le_refl _) ?_,rfl,q _ hf⟩
 exact⟨z,us,r,eR.new _ _⟩
theorem uP (h:PA X es t):PE X (.List es pos) (Bt t):=by
 intro pins s σ H Q I hq
 refine wpAny_List_spliced (thn (h pos pins s σ H _ I hq) λus s1 ⟨xs,H1,I1,r,z,q⟩=>⟨by rw [<-r.length];exact z,?_⟩)
 have hf:H1 s1.heap.objs.size=none:=I1.hok.fresh (Nat.le_refl _)
 refine⟨.ref s1.heap.objs.size,upd H1 s1.heap.objs.size (.lst xs),I1.laid (t':=s1.toks) (λb u e=>Heap.get?_push_of_some _ e) (Nat.le_refl _) ?_,rfl,q _ hf⟩
 exact⟨z,us,0,r,Heap.get?_push_size _ rfl⟩
end
abbrev Sp:=List V->Hp->VK->XK->Prop
abbrev CXT:=List Env->Hp->Shared->XK->Value->Shared->Prop
structure wO (P:Program) (w:World) (K:PySem.W.Frag) (mg:Str->Option Value) (base:Heap) (A:Around) (outer:List Env) (s:Shared) (H:Hp):Prop where
 frames:A.frames=some outer
 mod:Mod K mg base
 bs:∀ b o,base.get? b=some o->s.heap.get? b=some o/\H b=none
 bsz:base.objs.size<=s.heap.objs.size
 funs:s.heap.FunFrames base outer
 frf:∀ b ∈ frs outer,H b=none
 hok:HOk P w H s.heap
 bare:AllBare s.gens
noncomputable def CE (outer:List Env) (P:Program) (w:World) (H:Hp) (s:Shared) (Q:VK) (u:Value) (s':Shared):Prop:=
 ∃ v H',s'.os=s.os/\AllBare s'.gens/\Un (frs outer) [] H H' s.heap s'.heap/\HOk P w H' s'.heap/\az v u/\Q v H'
noncomputable def CR (CX:CXT) (outer:List Env) (P:Program) (w:World) (H:Hp) (s:Shared) (Q:VK) (E:XK) (r:Result) (s':Shared):Prop:=
 match r with
 | .ok (.ret u)=>CE outer P w H s Q u s'
 | .ok _=>False
 | .error e=>CX outer H s E e s'
structure bE (P:Program) (w:World) (K:PySem.W.Frag) (mg:Str->Option Value) (base:Heap) (CX:CXT) (k:Nat) (f:Addr) (fd:FuncData) (ps:List Str) (sp:Sp):Prop where
 len:∀ vs H Q E,sp vs H Q E->vs.length=ps.length
 run:∀ (A:Around) (outer:List Env) (s:Shared) (H:Hp) (args:Args) (us:List Value) (vs:List V) (Q:VK) (E:XK),bu k A->wO P w K mg base A outer s H->BindsTo s fd args (ps.zip us)->ay vs us->sp vs H Q E->
  codeAny (model P w) A (.call (.ref f) args) (CR CX outer P w H s Q E) s
theorem bE.mono {P:Program}{w:World}{K:PySem.W.Frag}{mg:Str->Option Value}{base:Heap}{CX:CXT}{j k:Nat}{f:Addr}{fd:FuncData}{ps:List Str}{sp:Sp} (F:bE P w K mg base CX j f fd ps sp) (h:j<=k) :
  bE P w K mg base CX k f fd ps sp:=⟨F.len,λA outer s H args us vs Q E hr=>F.run A outer s H args us vs Q E (hr.mono h)⟩
section
variable {X:Cx}{pins:List (Addr×Obj)}{σ:St}{H:Hp}{s s':Shared}
theorem Inv.env0 (I:Inv X pins σ H s):wO X.prog X.w X.K X.mg X.base X.A X.stack s H:=
 ⟨I.ok.frames,I.ok.mod,I.bs,Nat.le_trans I.ok.bsz I.sz,I.stack,I.stkFree,I.hok,I.bare⟩
theorem Inv.after {Q:VK}{u:Value} (I:Inv X pins σ H s) (h:CE X.stack X.prog X.w H s Q u s'):EP X pins σ Q u s':=by
 obtain⟨v,H',os,bare,un,hok,r,q⟩:=h
 obtain⟨hh,g,d,t,os'⟩:=s'
 obtain rfl:os'=s.os:=os
 exact⟨v,H',I.call (h':=hh) (g':=g) (d':=d) (t':=t) (ch:=[]) un hok bare (λb z=>absurd z (by simp)),r,q⟩
end
noncomputable def Az (sp:Sp) (dvs:List V) (E:XK) (t:TA):TE:=λσ H Q=>t σ H λvs H1=>sp (vs++dvs) H1 Q E
noncomputable def b9 (K:PySem.W.Frag) (fd:FuncData) (ps:List Str) (ds:List Value):Prop:=
 ∀ (s:Shared) (us:List Value),K.In s.heap->(us++ds).length=ps.length->BindsTo s fd ⟨us,[]⟩ (ps.zip (us++ds))
theorem b9.all {K:PySem.W.Frag}{fd:FuncData}{ps:List Str} (h:∀ us:List Value,us.length=ps.length->bindArgs fd ⟨us,[]⟩=pure (ps.zip us)):b9 K fd ps []:=λs us _ hl=>by
 rw [List.append_nil] at hl ⊢
 exact .of_eq (h us hl)
noncomputable def qD (CX:CXT) (X:Cx) (E:XK):Prop:=∀ (pins:List (Addr×Obj)) (σ:St) (H:Hp) (s:Shared) (e:Value) (s':Shared),Inv X pins σ H s->CX X.stack H s E e s'->X.xe e s'
section
variable {X:Cx}{CX:CXT}{k:Nat}{f C:Addr}{fd:FuncData}{ps:List Str}{sp:Sp}{dvs:List V}{ds:List Value}{E:XK}{x m:Str}{p pos apos:Pos}{e o:Expr}{es:List Expr}{ta:TE}{t:TA}
theorem zZ {pins:List (Addr×Obj)}{σ:St}{H:Hp}{s:Shared}{Q:VK}{us:List Value}{vs:List V} (F:bE X.prog X.w X.K X.mg X.base CX k f fd ps sp) (hr:bu k X.A) (hb:b9 X.K fd ps ds) (hd:ay dvs ds) (hx:qD CX X E)
  (I:Inv X pins σ H s) (r:ay vs us) (h:sp (vs++dvs) H Q E):wpAny (model X.prog X.w) X.A (call (.ref f) us) (EP X pins σ Q) X.xe s:=by
 have r2:ay (vs++dvs) (us++ds):=r.append hd
 have hl:(us++ds).length=ps.length:=by rw [<-r2.length];exact F.len _ _ _ _ h
 refine wpAny_call (codeAny_mono (F.run X.A X.stack s H ⟨us,[]⟩ (us++ds) (vs++dvs) Q E hr I.env0 (hb s us I.kIn hl) r2 h) λr s' hq=>?_)
 cases r with
 | error e=>exact hx pins σ H s e s' I hq
 | ok fl=>
  cases fl with
  | ret u=>exact I.after hq
  | next=>exact False.elim hq
  | brk=>exact False.elim hq
  | cont=>exact False.elim hq
theorem xz (F:bE X.prog X.w X.K X.mg X.base CX k f fd ps sp) (hr:bu k X.A) (hg:Gl X x) (hm:X.mg x=some (.ref f)) (hk:PySem.W.keepIn X.K (.ref f)=true) (hb:b9 X.K fd ps ds) (hd:ay dvs ds) (hx:qD CX X E)
  (ha:PA X (e::es) t) (hdb:(x==("__debug__" : Str))=false:=by decide) (he:starEach (e::es) X.env=(false,eval e X.env)::starEach es X.env:=by rfl) (hpl:(backTo pos (starEach es X.env)).any (·.1)=false:=by rfl) :
  PE X (.Call (.Name x p) (e::es) [] pos) (Az sp dvs E t):=by
 intro pins s σ H Q I h
 refine wpAny_Call_Name_kw (wt I hg hm ?_ hdb)
 refine PySem.W.callWith_K (h₀:=X.base) I.ok.mod.kin hk (thn (ha pos pins s σ H _ I h) λus s1 ⟨vs,H1,I1,r,q⟩=>⟨I1.kIn,?_⟩) he hpl
 exact zZ F hr hb hd hx I1 r q
end
section
variable {X:Cx}{CX:CXT}{k:Nat}{f C:Addr}{fd:FuncData}{ps ks:List Str}{sp:Sp}{E:XK}{x m:Str}{p pos apos kpos:Pos}{e o:Expr}{es:List Expr}{kws:List Keyword}{te ta:TE}{t tk:TA}{nm:Option Str}
variable {g:List Value->List Value->List Value}{gV:List V->List V->List V}
end
structure bg (N P:List Str) (sc:Scope):Prop where
 kind:sc.kind=.function
 co:sc.isCoroutine=false
 gen:sc.isGenerator=false
 nd:N.Nodup
 pre:N.take P.length=P
 par:∀ x ∈ P,sc.names.lookup x=some .local\/sc.names.lookup x=some .cell
 nofree:∀ y ∈ sc.names,y.2≠.free
theorem lZ {kindOf:Str->Option NameKind}{x:Str}:∀ {binds:List (Str×Value)}{m:Str->Option Value},(∀ v,(x,v) ∉ binds)->bindL kindOf binds m x=m x
 | [],_,_=>rfl
 | (n,v)::r,m,h=>by
  unfold bindL
  rw [lZ λw hw=>h w (List.mem_cons_of_mem _ hw)]
  split
  ·have:x≠n:=by rintro rfl;exact h v List.mem_cons_self
   simp [this]
  ·rfl
theorem lX {kindOf:Str->Option NameKind}{x:Str}:∀ {binds:List (Str×Value)}{m:Str->Option Value},(∀ v,(x,v) ∉ binds)->bindC kindOf binds m x=m x
 | [],_,_=>rfl
 | (n,v)::r,m,h=>by
  unfold bindC
  rw [lX λw hw=>h w (List.mem_cons_of_mem _ hw)]
  split
  ·rfl
  ·have:x≠n:=by rintro rfl;exact h v List.mem_cons_self
   simp [this]
theorem mw {kindOf:Str->Option NameKind}{x:Str}{v:Value}:∀ {P:List Str}{vs:List Value}{i:Nat}{m:Str->Option Value},P.Nodup->P[i]?=some x->vs[i]?=some v->kindOf x=some .local->
  bindL kindOf (P.zip vs) m x=some v
 | [],_,_,_,_,h,_,_=>by simp at h
 | _::_,[],_,_,_,_,h,_=>by simp at h
 | p::P,w::vs,0,m,nd,h1,h2,hk=>by
  simp at h1 h2;subst h1;subst h2
  show bindL kindOf ((p,w)::P.zip vs) m p=_
  unfold bindL
  rw [lZ λv hv=>(List.nodup_cons.mp nd).1 (List.of_mem_zip hv).1,if_pos hk]
  simp
 | p::P,w::vs,i+1,m,nd,h1,h2,hk=>by
  show bindL kindOf ((p,w)::P.zip vs) m x=_
  unfold bindL
  exact mw (i:=i) (List.nodup_cons.mp nd).2 (by simpa using h1) (by simpa using h2) hk
theorem ms {kindOf:Str->Option NameKind}{x:Str}{v:Value}:∀ {P:List Str}{vs:List Value}{i:Nat}{m:Str->Option Value},P.Nodup->P[i]?=some x->vs[i]?=some v->kindOf x≠some .local->
  bindC kindOf (P.zip vs) m x=some v
 | [],_,_,_,_,h,_,_=>by simp at h
 | _::_,[],_,_,_,_,h,_=>by simp at h
 | p::P,w::vs,0,m,nd,h1,h2,hk=>by
  simp at h1 h2;subst h1;subst h2
  show bindC kindOf ((p,w)::P.zip vs) m p=_
  unfold bindC
  rw [lX λv hv=>(List.nodup_cons.mp nd).1 (List.of_mem_zip hv).1,if_neg hk]
  simp
 | p::P,w::vs,i+1,m,nd,h1,h2,hk=>by
  show bindC kindOf ((p,w)::P.zip vs) m x=_
  unfold bindC
  exact ms (i:=i) (List.nodup_cons.mp nd).2 (by simpa using h1) (by simpa using h2) hk
noncomputable def start (N:List Str) (vs:List V):St:=vs.map some++List.replicate (N.length - vs.length) none
noncomputable def de (CX:CXT) (P:Program) (w:World) (K:PySem.W.Frag) (mg:Str->Option Value) (base:Heap) (N:List Str) (qual:Str) (scope:Scope) (f:Addr) (cd:Value) (A:Around) (outer:List Env) (s:Shared) (H:Hp) (E:XK):Cx where
 prog:=P
 w:=w
 K:=K
 mg:=mg
 base:=base
 A:=A.deeper (envOfC qual scope s.heap.objs.size f cd)
 N:=N
 s₀:=s
 H₀:=H
 env:=envOfC qual scope s.heap.objs.size f cd
 outer:=outer
 stack:=envOfC qual scope s.heap.objs.size f cd::outer
 ex:=[]
 calm:=true
 fn:=λ_=>true
 pn:=[]
 xe:=λe s'=>wpAny (model P w) (A.deeper (envOfC qual scope s.heap.objs.size f cd)) (leaving (envOfC qual scope s.heap.objs.size f cd) e) (λ_ s''=>CX outer H s E e s'') (λe' s''=>CX outer H s E e' s'') s'
theorem oS {sc:Scope}{n:Nat}{x:Str} (h:sc.names.lookup x=some .cell):∃ c,(cellsFrom n sc.names []).lookup x=some c:=by
 have q:=PySem.W.cellsFrom_some sc.names n [] (.inl h)
 exact Option.isSome_iff_exists.mp q
theorem tw {CX:CXT}{P:Program}{w:World}{K:PySem.W.Frag}{mg:Str->Option Value}{base:Heap}{N ps:List Str}{qual:Str}{scope:Scope}{f:Addr}{cd:Value}{A:Around}{outer:List Env}{s s1:Shared}{H:Hp}{E:XK}{us:List Value}{vs:List V}
  (S:bg N ps scope) (hd:A.handled=none) (e0:wO P w K mg base A outer s H) (hl:vs.length=ps.length) (r:ay vs us)
  (x:InCallC s s.heap.objs.size (bindL (envOfC qual scope s.heap.objs.size f cd).kindOf (ps.zip us) λ_=>none) (cellsFrom (s.heap.objs.size+1) scope.names []) (bindC (envOfC qual scope s.heap.objs.size f cd).kindOf (ps.zip us) λ_=>none) s1) :
  Inv (de CX P w K mg base N qual scope f cd A outer s H E) [] (start N vs) H s1:=by
 have hpl:ps.length<=N.length:=by have:=congrArg List.length S.pre;rw [List.length_take] at this;lia
 obtain⟨h1,tk,rfl,hk⟩:=x.done
 have noA:∀ b:Addr,b ∉ (de CX P w K mg base N qual scope f cd A outer s H E).ex:=λb z=>absurd (show b ∈ ([]:List Addr) from z) (by simp)
 refine⟨⟨e0.mod,S.kind,rfl,rfl,Nat.le_refl _,λy z c h1 h2=>?_,λy hy=>?_,λy c _ h=>?_,λ_=>hd,Around.frames_deeper e0.frames,.inr ⟨rfl,rfl⟩,λb z=>absurd z (noA b),e0.bs,e0.bsz,λb _ _=>noA b,λb z=>absurd z (noA b),e0.funs,e0.frf⟩,
  rfl,e0.bare,Un.kept hk,⟨_,x.toInCall.ns,λi y v h1 h2 h3=>?_⟩,λy c h=>⟨_,x.cell y c h⟩,e0.hok.fresh (Nat.le_refl _),λy c h=>?_,λp hp=>absurd (show p ∈ ([]:List (Addr×Obj)) from hp) (by simp),e0.hok.kept hk,?_⟩
 ·exact name_of_addr x.apart (PySem.mem_of_lookup h1) (PySem.mem_of_lookup h2)
 ·have hy:scope.names.lookup y=some .cell\/scope.names.lookup y=some .free:=hy
  rcases hy with hy | hy
  ·exact oS hy
  ·exact absurd rfl (S.nofree _ (PySem.mem_of_lookup hy))
 ·exact Nat.le_of_lt (x.above y c (PySem.mem_of_lookup h))
 ·have hi:i < vs.length:=by
   unfold start at h2
   by_cases hi:i < vs.length
   ·exact hi
   ·rw [List.getElem?_append_right (by simpa using hi)] at h2
    rw [List.getElem?_replicate] at h2
    split at h2<;>cases h2
  have ha:vs[i]?=some v:=by
   unfold start at h2
   rw [List.getElem?_append_left (by simpa using hi),List.getElem?_map] at h2
   cases e:vs[i]? with
   | none=>rw [e] at h2;cases h2
   | some a=>rw [e] at h2;cases h2;rfl
  obtain⟨u,hu,rv⟩:=r.get ha
  have hp:ps[i]?=some y:=by
   rw [<-S.pre,List.getElem?_take_of_lt (by lia)];exact h1
  have ndP:ps.Nodup:=by rw [<-S.pre];exact S.nd.sublist (List.take_sublist _ _)
  refine⟨u,rv,?_⟩
  rcases S.par y (List.mem_of_getElem? hp) with k | k
  ·exact .inl ⟨k,mw ndP hp hu k⟩
  ·obtain⟨c,e⟩:=oS (n:=s.heap.objs.size+1) k
   refine .inr ⟨.inl k,c,e,?_⟩
   have q:=x.cell y c e
   rw [ms ndP hp hu (by show scope.names.lookup y≠_;rw [k];decide)] at q
   exact q
 ·exact e0.hok.fresh (Nat.le_of_lt (x.above y c (PySem.mem_of_lookup h)))
 ·unfold start
  show _=N.length
  rw [List.length_append,List.length_map,List.length_replicate]
  lia
theorem AD {CX:CXT}{P:Program}{w:World}{K:PySem.W.Frag}{mg:Str->Option Value}{base:Heap}{k:Nat}{f:Addr}{name qual:Str}{params:Arguments}{body:List Stmt}{scope:Scope}{dV kV doc pm cdv ct oc:Value}{an od:Option Addr}
  {osl:Array (Option Value)}{N ps:List Str}{sp:Sp} (lk:K.lookup f=some ⟨oc,od,.func (PySem.W.fnOf name qual params body scope dV kV doc pm an cdv ct),osl⟩) (hcd:PySem.W.codeIn K cdv qual=true) (S:bg N ps scope)
  (len:∀ vs H Q E,sp vs H Q E->vs.length=ps.length)
  (hbody:∀ (A:Around) (outer:List Env) (s:Shared) (H:Hp) (vs:List V) (Q:VK) (E:XK),bu k (A.deeper (envOfC qual scope s.heap.objs.size f cdv))->sp vs H Q E->
    ∃ t,PSs (de CX P w K mg base N qual scope f cdv A outer s H E) body t/\t { nx:=λ_ H'=>Q .non H',rt:=Q } (start N vs) H) :
  bE P w K mg base CX (k+1) f (PySem.W.fnOf name qual params body scope dV kV doc pm an cdv ct) ps sp:=by
 refine⟨len,λA outer s H args us vs Q E hr e0 hb r hsp=>?_⟩
 have hl:=len _ _ _ _ hsp
 have KX:K.In s.heap:=e0.mod.kin.keeps λb o e=>(e0.bs b o e).1
 have lim:s.heap.NoLimit:=e0.mod.nolimit.keeps λb o e=>(e0.bs b o e).1
 have hkind:∀ y ∈ ps.zip us,scope.names.lookup y.1=some .local\/(scope.names.lookup y.1=some .cell/\((cellsFrom (s.heap.objs.size+1) scope.names []).lookup y.1).isSome=true):=λ⟨n,v⟩ hy=>by
  rcases S.par n (List.of_mem_zip hy).1 with q | q
  ·exact .inl q
  ·exact .inr ⟨q,PySem.W.cellsFrom_some _ _ _ (.inl q)⟩
 refine codeAny_call_function hr.depth (KX _ _ lk) rfl S.co S.gen rfl (PySem.W.codeRec_of KX hcd) (hb _ _ _ _ ?_)
 refine wpAny_newFunctionEnv_cells S.kind hkind λenv he s1 x=>?_
 subst he
 refine⟨lim.keeps x.toInCall.keep,codeAny_func ?_⟩
 obtain⟨t,ht,hq⟩:=hbody A outer s H vs Q E (hr.deeper _) hsp
 have I:Inv (de CX P w K mg base N qual scope f cdv A outer s H E) [] (start N vs) H s1:=tw S hr.hd e0 hl r x
 refine wpAny_mono (ht [] s1 (start N vs) H _ I hq) (λfl s' hs=>?_) λe s' hs=>hs
 have fin:∀ {σ':St}{H':Hp}{v:V}{u:Value},Inv (de CX P w K mg base N qual scope f cdv A outer s H E) [] σ' H' s'->az v u->Q v H'->CE outer P w H s Q u s':=
  λ{σ' H' v u} J rv q=>⟨v,H',J.os,J.bare,J.base,J.hok,rv,q⟩
 cases fl with
 | ret u=>
  obtain⟨v,σ',H',J,rv,q⟩:=hs
  exact fin J rv q
 | next=>
  obtain⟨σ',H',J,q⟩:=hs
  exact fin (v:=V.non) (u:=Value.none) J rfl q
 | brk=>
  obtain⟨_,_,_,q⟩:=hs
  exact False.elim q
 | cont=>
  obtain⟨_,_,_,q⟩:=hs
  exact False.elim q
end L2
namespace L2
open PySem PySem.Spec PyProof.Rows
section
variable {X:Cx}{x:Str}{p pos:Pos}{e:Expr}{es:List Expr}{t:TA}{id T:String}{r:List V->Hp->VK->Prop}
noncomputable def tCB (r:List V->Hp->VK->Prop) (t:TA):TE:=λσ H Q=>t σ H λvs H1=>r vs H1 Q
theorem lj (hc:cW X (.builtin id) r) (hg:Gl X x) (hm:X.mg x=none) (hv:bootBuiltins x=some (.builtin id)) (ha:PA X (e::es) t) (hn:x≠"__name__":=by decide) (hdb:(x==("__debug__" : Str))=false:=by decide)
  (he:starEach (e::es) X.env=(false,eval e X.env)::starEach es X.env:=by rfl) (hpl:(backTo pos (starEach es X.env)).any (·.1)=false:=by rfl):PE X (.Call (.Name x p) (e::es) [] pos) (tCB r t):=by
 intro pins s σ H Q I h
 refine wpAny_Call_Name_kw (fR I hg hm hv ?_ hn hdb)
 exact PyProof.Rows.callWith_builtin1 (thn (ha pos pins s σ H _ I h) λus s1 ⟨vs,H1,I1,r1,q1⟩=>hc pins s1 σ H1 vs us Q I1 r1 q1) he hpl
theorem tj (hc:cW X (.type T) r) (hg:Gl X x) (hm:X.mg x=none) (hv:bootBuiltins x=some (.type T)) (ha:PA X (e::es) t) (hn:x≠"__name__":=by decide) (hdb:(x==("__debug__" : Str))=false:=by decide)
  (he:starEach (e::es) X.env=(false,eval e X.env)::starEach es X.env:=by rfl) (hpl:(backTo pos (starEach es X.env)).any (·.1)=false:=by rfl):PE X (.Call (.Name x p) (e::es) [] pos) (tCB r t):=by
 intro pins s σ H Q I h
 refine wpAny_Call_Name_kw (fR I hg hm hv ?_ hn hdb)
 exact PyProof.Rows.callWith_type1 (thn (ha pos pins s σ H _ I h) λus s1 ⟨vs,H1,I1,r1,q1⟩=>hc pins s1 σ H1 vs us Q I1 r1 q1) he hpl
end
end L2
namespace HT
open PySem PyProof.Rows
section
open PySem.SeqAt
open PySem.AutoSeq1 (wpAny_loadPart')
open PySem.MeetsSeq PySem.MeetsSeq2 PySem.MeetsSeq3
end
section
variable {prog:Program}{w:World}{A:Around}{E:Value->Shared->Prop}{s:Shared}
theorem cat_tup {t b:Addr}{vs ws:List Value}{Q:Value->Shared->Prop} (ht:IsTup s.heap t vs.toArray) (hb:IsTup s.heap b ws.toArray) (hv:vs≠[])
  (h1:ws=[]->Q (.ref t) s) (h2:ws≠[]->Q (.ref s.heap.objs.size) { s with heap:=s.heap.push { cls:=.type "tuple",data:=.seq (vs++ws).toArray } })
  (hsz:vs.length+ws.length<=sizeLine):wpAny (model prog w) A (binaryOp .Add (.ref t) (.ref b)) Q E s:=by
 obtain⟨⟨cls,dd,data,sl⟩,ho,hc,n,hd⟩:=id ht
 obtain⟨⟨cls2,dd2,data2,sl2⟩,ho2,hc2,n2,hd2⟩:=id hb
 simp only at hc hd hc2 hd2
 subst hc hd hc2 hd2
 have e:vs.toArray++ws.toArray=(vs++ws).toArray:=by simp
 by_cases hw:ws=[]
 ·exact concat_meets ⟨_,ho,rfl⟩ ⟨_,ho2,rfl⟩ noFill_tuple_add seq_tuple_add PySem.F.slot_tuple_add PySem.F.entry_tuple_add (PySem.F.args_tuple_add_2 _ _)
   (tuple_addW1 t b vs.toArray ws.toArray n n2 dd dd2 sl sl2 (by simpa using hv) (by simp [hw])) ⟨ho,ho2,h1 hw⟩
 ·refine concat_meets ⟨_,ho,rfl⟩ ⟨_,ho2,rfl⟩ noFill_tuple_add seq_tuple_add PySem.F.slot_tuple_add PySem.F.entry_tuple_add (PySem.F.args_tuple_add_2 _ _)
   (tuple_addW2 t b vs.toArray ws.toArray n n2 dd dd2 sl sl2 (by simpa using hv) (by simpa using hw) (by rw [List.size_toArray,List.size_toArray];exact hsz)) ⟨ho,ho2,?_⟩
  rw [e]
  exact h2 hw
noncomputable def sIx (n d:Nat):Option Int->Nat
 | none=>d
 | some v=>if v < 0 then (v+(n:Int)).toNat else min v.toNat n
theorem yX (n d:Nat) (hd:d<=n) (o:Option Int):sIx n d o<=n:=by
 cases o with
 | none=>exact hd
 | some v=>
  show (if v < 0 then (v+(n:Int)).toNat else min v.toNat n)<=n
  by_cases hv:v < 0
  ·rw [if_pos hv];lia
  ·rw [if_neg hv];exact Nat.min_le_right _ _
theorem rA (v:Int) (n d:Nat):(if v < 0 then max (v+(n:Int)) 0 else min v (n:Int))=((sIx n d (some v):Nat):Int):=by
 show (if v < 0 then max (v+(n:Int)) 0 else min v (n:Int))=(((if v < 0 then (v+(n:Int)).toNat else min v.toNat n):Nat):Int)
 by_cases hv:v < 0
 ·simp only [if_pos hv];lia
 ·simp only [if_neg hv];lia
theorem qQ (lo hi:Option Int) (n:Nat):Builtin.Slice.sliceAdjust lo hi 1 (n:Int)=(((sIx n 0 lo:Nat):Int),((sIx n n hi:Nat):Int)):=by
 have h1:¬ ((1:Int) < 0):=by lia
 unfold Builtin.Slice.sliceAdjust
 simp only [h1,if_false]
 refine Prod.ext ?_ ?_
 ·cases lo with
  | none=>rfl
  | some v=>exact rA v n 0
 ·cases hi with
  | none=>rfl
  | some v=>exact rA v n n
theorem p7 (i j:Nat):Builtin.Slice.slicePlaces (i:Int) (j:Int) 1=j - i:=by
 unfold Builtin.Slice.slicePlaces
 have h1:(1:Int) > 0:=by lia
 simp only [h1,if_true,Int.ediv_one]
 split<;>lia
theorem j6 {v:Value}{o:Option Int}{Q:Option Int->Shared->Prop} (p:IsPart v o) (h:Q o s):wpAny (model prog w) A (Builtin.Slice.slicePartIndex v) Q E s:=by
 cases p with
 | none=>exact slicePart_none h
 | int i t=>exact slicePart_int h
theorem eA {sl:Addr}{vl vu:Value}{lo hi:Option Int}{n:Nat}{Q:Int×Int×Nat->Shared->Prop} (hs:s.heap.IsSliceOf sl vl vu .none) (pl:IsPart vl lo) (pu:IsPart vu hi)
  (h:Q (((sIx n 0 lo:Nat):Int),1,sIx n n hi - sIx n 0 lo) s):wpAny (model prog w) A (Builtin.Slice.sliceApplied (.ref sl) (pure (n:Int))) Q E s:=by
 obtain⟨os,hos,hcs,hds⟩:=id hs
 unfold Builtin.Slice.sliceApplied Builtin.Slice.sliceFields
 refine wpAny_bind (wpAny_bind (wpAny_field hos hds (x:=vl) rfl (wpAny_bind (wpAny_field hos hds (x:=vu) rfl (wpAny_bind (wpAny_field hos hds (x:=.none) rfl (wpAny_pure ?_)))))))
 refine wpAny_bind (slicePart_none ?_)
 show wpAny _ _ (if ((1:Int)==0)=true then _ else _) _ _ s
 rw [if_neg (by decide)]
 refine wpAny_bind (j6 pl (wpAny_bind (j6 pu (wpAny_bind (wpAny_pure ?_)))))
 show wpAny _ _ (match Builtin.Slice.sliceAdjust lo hi 1 (n:Int) with | (lo,hi)=>pure (lo,(1:Int),Builtin.Slice.slicePlaces lo hi 1)) _ _ s
 rw [qQ lo hi n]
 show wpAny _ _ (pure (((sIx n 0 lo:Nat):Int),(1:Int),Builtin.Slice.slicePlaces ((sIx n 0 lo:Nat):Int) ((sIx n n hi:Nat):Int) 1)) _ _ s
 rw [p7]
 exact wpAny_pure h
theorem vg (xs:Array Value) (i k:Nat):((List.range k).filterMap λ(m:Nat)=>xs[((i:Int)+(m:Int)*1).toNat]?).toArray=((xs.toList.drop i).take k).toArray:=by
 have e:(λ(m:Nat)=>xs[((i:Int)+(m:Int)*1).toNat]?)=λm=>xs[i+m]?:=by
  funext m
  have:((i:Int)+(m:Int)*1).toNat=i+m:=by lia
  rw [this]
 rw [e]
 have:=pick_run xs i k
 rw [List.filterMap_map] at this
 have e2:((λx=>xs[x]?) ∘ λx=>i+x)=λm=>xs[i+m]?:=rfl
 rw [e2] at this
 rw [this]
theorem getItem_tuple_cut {t sl:Addr}{items:Array Value}{vl vu:Value}{lo hi:Option Int}{Q:Value->Shared->Prop} (ht:IsTup s.heap t items) (hs:s.heap.IsSliceOf sl vl vu .none) (pl:IsPart vl lo) (pu:IsPart vu hi)
  (hw:¬ (sIx items.size 0 lo=0/\sIx items.size items.size hi=items.size))
  (h:Q (.ref s.heap.objs.size) { s with heap:=s.heap.push { cls:=.type "tuple",data:=.seq ((items.toList.drop (sIx items.size 0 lo)).take (sIx items.size items.size hi - sIx items.size 0 lo)).toArray } })
  (hsz:items.size<=sizeLine):wpAny (model prog w) A (getItem (.ref t) (.ref sl)) Q E s:=by
 have htake:sizeOk (.seq ((items.toList.drop (sIx items.size 0 lo)).take (sIx items.size items.size hi - sIx items.size 0 lo)).toArray):=by
  show ((items.toList.drop (sIx items.size 0 lo)).take (sIx items.size items.size hi - sIx items.size 0 lo)).toArray.size<=sizeLine
  rw [List.size_toArray,List.length_take,List.length_drop,Array.length_toList]
  lia
 have hj:sIx items.size items.size hi<=items.size:=yX _ _ (Nat.le_refl _) hi
 obtain⟨os,hos,hcs,hds⟩:=id hs
 have hTs:s.TypeIs (.ref sl) "slice":=⟨os,hos,hcs⟩
 unfold getItem
 try with_reducible refine wpAny_holding ?_
 first | refine wpAny_bind (wpAny_pure ?_) | skip
 refine wpAny_bind (wpAny_sequenceKey ht.typeIs (by decide) ?_)
 refine wpAny_bind (wpAny_callSpecial?_slot (name:=Str.ofString "__getitem__") ht.typeIs PyProof.Rows.slot_tuple_getitem
  (wpAny_call_entry PyProof.Rows.slot_tuple_getitem ht.typeIs entry_tuple_getitem ?_ (args_tuple_getitem _ _)))
 show wpAny _ _ (Builtin.Tuple.tupleItemsOf (.ref t) >>= _) _ _ s
 refine wpAny_bind (tupleItemsOf_ ht ?_)
 refine wpAny_bind (wpAny_typeOf hTs ?_)
 rw [if_pos (by decide)]
 refine wpAny_bind (eA hs pl pu ?_)
 have hno:¬ ((((sIx items.size 0 lo:Nat):Int)==0 && (1:Int)==1 && (sIx items.size items.size hi - sIx items.size 0 lo)==items.size)=true):=by
  intro q
  rw [Bool.and_eq_true,Bool.and_eq_true] at q
  have q1:((sIx items.size 0 lo:Nat):Int)=0:=eq_of_beq q.1.1
  have q2:sIx items.size items.size hi - sIx items.size 0 lo=items.size:=eq_of_beq q.2
  exact hw ⟨by lia,by lia⟩
 show wpAny _ _ (if (((sIx items.size 0 lo:Nat):Int)==0 && (1:Int)==1 && (sIx items.size items.size hi - sIx items.size 0 lo)==items.size)=true then _ else _) _ _ s
 rw [if_neg hno,vg]
 first
  | exact wpAny_bind (m:=Builtin.Tuple.tupleExact _) (wpAny_newObj_type (wpAny_pure ⟨_,rfl,wpAny_pure h⟩) htake)
  | exact wpAny_bind (m:=Builtin.Tuple.tupleExact _) (wpAny_newObj_type (wpAny_bind (wpAny_pure (wpAny_pure ⟨_,rfl,wpAny_pure h⟩))) htake)
  | exact wpAny_bind (wpAny_bind (m:=Builtin.Tuple.tupleExact _) (wpAny_newObj_type (wpAny_pure (wpAny_pure ⟨_,rfl,wpAny_pure h⟩)) htake))
  | exact wpAny_bind (wpAny_bind (m:=Builtin.Tuple.tupleExact _) (wpAny_newObj_type (wpAny_pure ⟨_,rfl,wpAny_pure h⟩) htake))
end
end HT
namespace L2
open PySem PySem.Spec PyProof.Rows
abbrev TO:=St->Hp->(Option Int->Hp->Prop)->Prop
noncomputable def PO (X:Cx) (e:Option Expr) (t:TO):Prop:=
 ∀ (pins:List (Addr×Obj)) (s:Shared) (σ:St) (H:Hp) (Q:Option Int->Hp->Prop),Inv X pins σ H s->t σ H Q->
  wpAny (model X.prog X.w) X.A (evalPart e X.env) (λu s'=>∃ o H',Inv X pins σ H' s'/\IsPart u o/\Q o H') X.xe s
noncomputable def xq:TO:=λ_ H Q=>Q none H
noncomputable def AX (t:TE):TO:=λσ H Q=>t σ H λx H1=>∃ i,x=.int i/\Q (some i) H1
theorem eP {ns:List Int}:∀ {us:List Value},ay (ns.map V.int) us->IntsAre us ns:=by
 induction ns with
 | nil=>intro us r;rw [List.map_nil] at r;cases r;exact .nil
 | cons n ns ih=>
  intro us r
  rw [List.map_cons] at r
  cases r with
  | cons r1 r2=>
   obtain⟨t,e⟩:=r1
   subst e
   exact .cons n t (ih r2)
section
variable {X:Cx}{e:Expr}{te:TE}{lo hi:Option Expr}{tl th:TO}{pos p2:Pos}
theorem wl:PO X none xq:=by
 intro pins s σ H Q I h
 rw [evalPart_none]
 exact wpAny_pure ⟨none,H,I,.none,h⟩
theorem xC (h:PE X e te):PO X (some e) (AX te):=by
 intro pins s σ H Q I hw
 rw [evalPart_some]
 refine thn (h pins s σ H _ I hw) λu s1 ⟨x,H1,I1,r1,q1⟩=>?_
 obtain⟨i,rfl,q⟩:=q1
 obtain⟨t,rfl⟩:=r1
 exact⟨some i,H1,I1,.int i t,q⟩
noncomputable def SlR (X:Cx) (r:V->Option Int->Option Int->Hp->VK->Prop):Prop:=
 ∀ (pins:List (Addr×Obj)) (s:Shared) (σ:St) (H:Hp) (x:V) (v vl vu:Value) (lo hi:Option Int) (sl:Addr) (Q:VK),Inv X pins σ H s->az x v->s.heap.IsSliceOf sl vl vu .none->IsPart vl lo->IsPart vu hi->r x lo hi H Q->
  ∃ T id,typeLookup (.type T) "__getitem__" = pure (some (.builtin id))/\s.TypeIs v T/\wpAny (model X.prog X.w) X.A (getItem v (.ref sl)) (EP X pins σ Q) X.xe s
noncomputable def tSl (r:V->Option Int->Option Int->Hp->VK->Prop) (te:TE) (tl th:TO):TE:=λσ H Q=>te σ H λx H1=>tl σ H1 λl H2=>th σ H2 λu H3=>r x l u H3 Q
theorem n4 {r:V->Option Int->Option Int->Hp->VK->Prop} (hr:SlR X r) (he:PE X e te) (hl:PO X lo tl) (hu:PO X hi th):PE X (.Subscript e (.Slice lo hi none p2) pos) (tSl r te tl th):=by
 intro pins s σ H Q I h
 refine Subscript_ (thn (he pins s σ H _ I h) λv s1 ⟨x,H1,I1,r1,q1⟩=>?_)
 refine wpAny_Slice (thn (hl pins s1 σ H1 _ I1 q1) λvl s2 ⟨l,H2,I2,pl,q2⟩=>thn (hu pins s2 σ H2 _ I2 q2) λvu s3 ⟨u,H3,I3,pu,q3⟩=>?_)
 rw [evalPart_none]
 refine wpAny_pure ?_
 have I4:Inv X pins σ H3 { s3 with heap:=s3.heap.push { cls:=.type "slice",data:=.fields #[vl,vu,.none] } }:=I3.kept (t':=s3.toks) λb ob q=>Heap.get?_push_of_some _ q
 obtain⟨T,id,hT,ht,hg⟩:=hr pins { s3 with heap:=s3.heap.push { cls:=.type "slice",data:=.fields #[vl,vu,.none] } } σ H3 x v vl vu l u s3.heap.objs.size Q I4 r1 (Heap.IsSliceOf.new ..) pl pu q3
 show wpAny (model X.prog X.w) X.A (subscriptTail e (.Slice lo hi none p2) v (.ref s3.heap.objs.size)) (EP X pins σ Q) X.xe { s3 with heap:=s3.heap.push { cls:=.type "slice",data:=.fields #[vl,vu,.none] } }
 exact tail_any (ops:=[.ref s3.heap.objs.size,v]) ht hT hg (by with_unfolding_all rfl)
noncomputable def no (xs:List V) (lo hi:Option Int):List V:=(xs.drop (HT.sIx xs.length 0 lo)).take (HT.sIx xs.length xs.length hi - HT.sIx xs.length 0 lo)
theorem jl (xs:List V) (lo hi:Option Int):(no xs lo hi).length<=xs.length:=by
 unfold no
 rw [List.length_take,List.length_drop]
 lia
noncomputable def BL (K:PySem.W.Frag):V->Option Int->Option Int->Hp->VK->Prop:=λx lo hi H Q=>∃ a xs,x=.ref a/\SqT K H a xs/\
 ¬ (HT.sIx xs.length 0 lo=0/\HT.sIx xs.length xs.length hi=xs.length)/\∀ p,H p=none->Q (.ref p) (upd H p (.tup (no xs lo hi)))
theorem zI:SlR X (BL X.K):=by
 intro pins s σ H x v vl vu lo hi sl Q I rx hs pl pu h
 obtain⟨a,xs,rfl,hx,hw,q⟩:=h
 cases rx
 obtain⟨its,r,ht,hz⟩:=I.tuple hx
 have hlen:its.toArray.size=xs.length:=by rw [List.size_toArray];exact r.length.symm
 refine⟨"tuple",_,PyProof.Rows.slot_tuple_getitem.lookup,ht.typeIs,?_⟩
 refine HT.getItem_tuple_cut ht hs pl pu (by rw [hlen];exact hw) ?_ (by rw [hlen];exact hz)
 rw [hlen]
 refine⟨.ref s.heap.objs.size,_,I.laid (t':=s.toks) (o:=.tup (no xs lo hi)) (λb ob q=>Heap.get?_push_of_some _ q) (Nat.le_refl _) ?_,rfl,q _ (I.hok.fresh (Nat.le_refl _))⟩
 exact⟨Nat.le_trans (jl xs lo hi) hz,_,(r.drop (HT.sIx xs.length 0 lo)).take (HT.sIx xs.length xs.length hi - HT.sIx xs.length 0 lo),eR.new _ _⟩
noncomputable def AR (K:PySem.W.Frag):R2:=λx y H Q=>∃ a b xs ys,x=.ref a/\y=.ref b/\SqT K H a xs/\SqT K H b ys/\xs≠[]/\xs.length+ys.length<=sizeLine/\
 (ys=[]->Q (.ref a) H)/\(ys≠[]->∀ p,H p=none->Q (.ref p) (upd H p (.tup (xs++ys))))
theorem ay.nil_iff {xs:List V}{us:List Value} (r:ay xs us):us=[]↔xs=[]:=by
 cases r with
 | nil=>simp
 | cons _ _=>simp
theorem xn:OpR X (binaryOp .Add) (AR X.K):=by
 intro pins s σ H x y v u Q I rx ry h
 obtain⟨a,b,xs,ys,rfl,rfl,ha,hb,hx,hz,q1,q2⟩:=h
 cases rx
 cases ry
 obtain⟨its,r1,p1,_⟩:=I.tuple ha
 obtain⟨its2,r2,p2,_⟩:=I.tuple hb
 refine HT.cat_tup p1 p2 (λz=>hx (r1.nil_iff.mp z)) (λz=>⟨.ref a,H,I,rfl,q1 (r2.nil_iff.mp z)⟩) (λz=>?_) (by rw [<-r1.length,<-r2.length];exact hz)
 refine⟨.ref s.heap.objs.size,_,I.laid (t':=s.toks) (o:=.tup (xs++ys)) (λb ob q=>Heap.get?_push_of_some _ q) (Nat.le_refl _) ?_,rfl,q2 (λw=>z (r2.nil_iff.mpr w)) _ (I.hok.fresh (Nat.le_refl _))⟩
 exact⟨by rw [List.length_append];exact hz,_,r1.append r2,eR.new _ _⟩
end
end L2
namespace L2
open PySem PySem.Spec PyProof.Rows
noncomputable def ixN (n:Nat) (i:Int):Option Nat:=if 0<=i then (if i < n then some i.toNat else none) else if -(n:Int)<=i then some (i+n).toNat else none
noncomputable def atI {α:Type} (xs:List α) (i:Int):Option α:=(ixN xs.length i).bind λj=>xs[j]?
theorem m8 {n:Nat}{i:Int}{j:Nat} (h:ixN n i=some j):seqIndex? i n=some j/\j < n/\-(n:Int)<=i/\i < n:=by
 unfold ixN at h
 by_cases h0:0<=i
 ·rw [if_pos h0] at h
  by_cases h1:i < n
  ·rw [if_pos h1] at h
   have e:i.toNat=j:=Option.some.inj h
   exact⟨by rw [seqIndex_of h0 h1,e],by lia,by lia,h1⟩
  ·rw [if_neg h1] at h;cases h
 ·rw [if_neg h0] at h
  by_cases h1:-(n:Int)<=i
  ·rw [if_pos h1] at h
   have e:(i+n).toNat=j:=Option.some.inj h
   exact⟨by rw [seqIndex_neg (by lia) h1,e],by lia,h1,by lia⟩
  ·rw [if_neg h1] at h;cases h
theorem mW {α:Type}{xs:List α}{i:Int}{v:α} (h:atI xs i=some v):∃ j,seqIndex? i xs.length=some j/\xs[j]?=some v/\j < xs.length/\-(xs.length:Int)<=i/\i < xs.length:=by
 unfold atI at h
 cases e:ixN xs.length i with
 | none=>rw [e] at h;cases h
 | some j=>
  rw [e] at h
  obtain⟨h1,h2,h3,h4⟩:=m8 e
  exact⟨j,h1,h,h2,h3,h4⟩
theorem nt {α:Type}{xs:List α}{j:Nat}{v:α} (h:xs[j]?=some v):atI xs (j:Int)=some v:=by
 have hj:j < xs.length:=(List.getElem?_eq_some_iff.mp h).1
 have e:ixN xs.length (j:Int)=some j:=by
  unfold ixN
  rw [if_pos (by lia),if_pos (by lia)];simp
 unfold atI;rw [e];exact h
noncomputable def rW (b:Expr):Prop:=∀ o i,subscripted b false o i=operate [o,i] (getItem o i)
noncomputable def IxR (X:Cx) (r:R2):Prop:=
 ∀ (value slice:Expr) (pins:List (Addr×Obj)) (s:Shared) (σ:St) (H:Hp) (x y:V) (v u:Value) (Q:VK),Inv X pins σ H s->az x v->az y u->r x y H Q->
  subscripted slice false v u=operate [v,u] (getItem v u)->wpAny (model X.prog X.w) X.A (subscriptTail value slice v u) (EP X pins σ Q) X.xe s
noncomputable def MtR (X:Cx) (id:String) (r:V->List V->Hp->VK->Prop):Prop:=
 ∀ (pins:List (Addr×Obj)) (s:Shared) (σ:St) (H:Hp) (x:V) (xs:List V) (v:Value) (us:List Value) (Q:VK),Inv X pins σ H s->az x v->ay xs us->r x xs H Q->
  wpAny (model X.prog X.w) X.A (call (.builtin id) (v::us)) (EP X pins σ Q) X.xe s
section
variable {X:Cx}{a b:Expr}{ta tb:TE}{pos:Pos}
theorem IxR.or {r r':R2} (h:IxR X r) (h':IxR X r'):IxR X (λx y H Q=>r x y H Q\/r' x y H Q):=by
 intro value slice pins s σ H x y v u Q I rx ry q hs
 rcases q with q | q
 ·exact h value slice pins s σ H x y v u Q I rx ry q hs
 ·exact h' value slice pins s σ H x y v u Q I rx ry q hs
theorem yd {r:R2} (hr:IxR X r) (ha:PE X a ta) (hb:PE X b tb) (hs:rW b):PE X (.Subscript a b pos) (tOp r ta tb):=by
 intro pins s σ H Q I h
 exact Subscript_ (zp ha hb I h λv u s2 x y H2 I2 rx ry q=>hr a b pins s2 σ H2 x y v u Q I2 rx ry q (hs _ _))
noncomputable def AU (K:PySem.W.Frag):R2:=λx y H Q=>∃ p xs i v,x=.ref p/\y=.int i/\SqL K H p xs/\atI xs i=some v/\Q v H
noncomputable def AN (K:PySem.W.Frag):R2:=λx y H Q=>∃ p xs i v,x=.ref p/\y=.int i/\SqT K H p xs/\atI xs i=some v/\Q v H
noncomputable def AV:R2:=λx y H Q=>∃ z i c,x=.str z/\y=.int i/\z.length<=sizeLine/\atI z.cps.toList i=some c/\Q (.str ⟨#[c]⟩) H
theorem wG:IxR X (AU X.K):=by
 intro value slice pins s σ H x y v u Q I rx ry h hs
 obtain⟨p,xs,i,z,rfl,rfl,hq,he,q⟩:=h
 cases rx
 obtain⟨t,rfl⟩:=ry
 obtain⟨its,r,pl,hz⟩:=I.list hq
 obtain⟨j,h1,h2,h3,h4,h5⟩:=mW he
 obtain⟨w,ew,rw'⟩:=r.get h2
 have hl:=r.length
 have hn:=gC
 have fin:EP X pins σ Q w s:=⟨z,H,I,rw',q⟩
 by_cases h0:0<=i
 ·have hj:i.toNat=j:=by
   rw [seqIndex_of h0 h5] at h1
   exact Option.some.inj h1
  exact item_listR pl.isList h0 (by lia) (by rw [hj];simpa using ew) fin hs
 ·have hj:(i+(its.toArray.size:Int)).toNat=j:=by
   rw [seqIndex_neg (by lia) h4] at h1
   rw [List.size_toArray,<-hl]
   exact Option.some.inj h1
  exact subscriptTail_builtinR (x:=w) pl.isList.typeIs slot_list_getitem.lookup
   (wpAny_getItem_list_neg (Q:=λr s'=>r=w/\EP X pins σ Q r s') pl.isList (by lia) (by rw [List.size_toArray]<;>lia) (by lia) (by rw [hj];simpa using ew) ⟨rfl,fin⟩) hs
theorem ze:IxR X (AN X.K):=by
 intro value slice pins s σ H x y v u Q I rx ry h hs
 obtain⟨p,xs,i,z,rfl,rfl,hq,he,q⟩:=h
 cases rx
 obtain⟨t,rfl⟩:=ry
 obtain⟨its,r,pl,hz⟩:=I.tuple hq
 obtain⟨j,h1,h2,h3,h4,h5⟩:=mW he
 obtain⟨w,ew,rw'⟩:=r.get h2
 have hl:=r.length
 have hn:=gC
 have fin:EP X pins σ Q w s:=⟨z,H,I,rw',q⟩
 exact subscriptTail_builtinR (x:=w) pl.typeIs slot_tuple_getitem.lookup
  (getItem_tuple (j:=j) (Q:=λr s'=>r=w/\EP X pins σ Q r s') pl (by lia) (by lia) (by rw [List.size_toArray,<-hl];exact h1) (by simpa using ew) ⟨rfl,fin⟩) hs
theorem yK:IxR X AV:=by
 intro value slice pins s σ H x y v u Q I rx ry h hs
 obtain⟨z,i,c,rfl,rfl,hz,he,q⟩:=h
 obtain⟨t,rfl⟩:=rx
 obtain⟨t',rfl⟩:=ry
 obtain⟨j,h1,h2,h3,h4,h5⟩:=mW he
 have hl:z.cps.toList.length=z.length:=by simp [Str.length]
 rw [hl] at h1 h4 h5
 have hn:=gC
 exact tail_any (typeIs_str s z t) slot_str_getitem.lookup (getItem_str (c:=c) (by
  have e1:decide (i < -(2 ^ 63:Int))=false:=decide_eq_false (by lia)
  have e2:decide (i>=2 ^ 63)=false:=decide_eq_false (by lia)
  rw [e1,e2,Bool.or_false]) (by rw [h1];simpa using h2) ⟨.str ⟨#[c]⟩,H,I.tok _,⟨_,rfl⟩,q⟩) hs
noncomputable def rIx (K:PySem.W.Frag):R2:=λx y H Q=>AU K x y H Q\/AN K x y H Q\/AV x y H Q
theorem qN:IxR X (rIx X.K):=wG.or (ze.or yK)
theorem qv (its:List Value) (n j:Nat) (u:Value):Obj.mapSeq (·.setIfInBounds j u) { cls:=.type "list",data:=.seq its.toArray n }={ cls:=.type "list",data:=.seq (its.set j u).toArray n }:=by
 simp [Obj.mapSeq]
theorem Inv.lst {pins:List (Addr×Obj)}{σ:St}{H:Hp}{s:Shared}{p:Addr}{xs:List V} (I:Inv X pins σ H s) (h:H p=some (.lst xs)) :
  ∃ (its:List Value) (n:Nat),ay xs its/\s.heap.get? p=some { cls:=.type "list",data:=.seq its.toArray n }/\xs.length<=sizeLine:=by
 obtain⟨z,its,n,r,e⟩:=I.hok p _ h
 exact⟨its,n,r,e,z⟩
theorem Inv.lstUpd {pins:List (Addr×Obj)}{σ:St}{H:Hp}{s:Shared}{p:Addr}{xs ys:List V}{its its':List Value}{n n':Nat}{f:Obj->Obj} (I:Inv X pins σ H s) (h:H p=some (.lst xs))
  (ho:s.heap.get? p=some { cls:=.type "list",data:=.seq its.toArray n }) (hf:f { cls:=.type "list",data:=.seq its.toArray n }={ cls:=.type "list",data:=.seq its'.toArray n' }) (r:ay ys its') (hz:ys.length<=sizeLine) (t:Nat) :
  Inv X pins σ (upd H p (.lst ys)) { s with heap:=s.heap.update p f,toks:=t }:=by
 have e:(s.heap.update p f).get? p=some { cls:=.type "list",data:=.seq its'.toArray n' }:=by
  rw [Heap.get?_update_self f ho (by rw [hf]<;>rfl),hf]
 refine I.write (x:=p) (e:=p) (by rw [h];trivial) (.inl rfl) (λb u hb q=>(Heap.get?_update_other _ _ (Ne.symm hb)).trans q) ⟨_,e⟩ ?_
 exact⟨hz,its',n',r,e⟩
noncomputable def Bd:V->V->V->Hp->(Hp->Prop)->Prop:=λo i v H Q=>∃ p xs k j,o=.ref p/\i=.int k/\H p=some (.lst xs)/\ixN xs.length k=some j/\Q (upd H p (.lst (xs.set j v)))
theorem oT:Bf X Bd:=by
 intro pins s σ H o i v ov iv u Q I ro ri rv h
 obtain⟨p,xs,k,j,rfl,rfl,hp,hj,q⟩:=h
 cases ro
 obtain⟨t,rfl⟩:=ri
 obtain⟨its,n,r,ho,hz⟩:=I.lst hp
 obtain⟨h1,h2,h3,h4⟩:=m8 hj
 have hl:=r.length
 have hn:=gC
 have I':Inv X pins σ (upd H p (.lst (xs.set j v))) { s with heap:=s.heap.update p (Obj.mapSeq (·.setIfInBounds j u)) }:=
  I.lstUpd hp ho (qv its n j u) (r.set rv j) (by rw [List.length_set];exact hz) s.toks
 by_cases h0:0<=k
 ·have hk:k.toNat=j:=by
   rw [seqIndex_of h0 h4] at h1
   exact Option.some.inj h1
  exact PySem.W.ki_setAt ho h0 (by lia) (by rw [List.size_toArray,<-hl];exact h4) (by rw [hk];exact⟨_,I',q⟩)
 ·have hk:(k+(its.toArray.size:Int)).toNat=j:=by
   rw [seqIndex_neg (by lia) h3] at h1
   rw [List.size_toArray,<-hl]
   exact Option.some.inj h1
  exact PySem.W.ki_setBack ho (by lia) (by rw [List.size_toArray,<-hl];exact h3) (by lia) (by rw [hk];exact⟨_,I',q⟩)
theorem mM (lo hi:Option Int) (n:Nat):(sliceBounds lo hi none n).1=((HT.sIx n 0 lo:Nat):Int)/\(sliceBounds lo hi none n).2.1=((HT.sIx n n hi:Nat):Int)/\(sliceBounds lo hi none n).2.2=1:=by
 refine⟨?_,?_,rfl⟩
 ·cases lo with
  | none=>simp [sliceBounds,HT.sIx]
  | some i=>
   simp only [sliceBounds,HT.sIx,Option.getD_none,show (1:Int) > 0 by decide,if_true]
   by_cases h:i < 0
   ·simp only [h,if_true]<;>lia
   ·simp only [h,if_false]<;>lia
 ·cases hi with
  | none=>simp [sliceBounds,HT.sIx]
  | some i=>
   simp only [sliceBounds,HT.sIx,Option.getD_none,show (1:Int) > 0 by decide,if_true]
   by_cases h:i < 0
   ·simp only [h,if_true]<;>lia
   ·simp only [h,if_false]<;>lia
theorem lE (its:List Value) (lo hi:Option Int):slicePick its.toArray lo hi none=((its.drop (HT.sIx its.length 0 lo)).take (HT.sIx its.length its.length hi - HT.sIx its.length 0 lo)).toArray:=by
 obtain⟨h1,h2,h3⟩:=mM lo hi its.toArray.size
 unfold slicePick
 rw [h1,h2,h3]
 simp only [sliceRange_one,pick_run,List.size_toArray]<;>rfl
noncomputable def BM (K:PySem.W.Frag):V->Option Int->Option Int->Hp->VK->Prop:=λx lo hi H Q=>∃ a xs,x=.ref a/\SqL K H a xs/\∀ p,H p=none->Q (.ref p) (upd H p (.lst (no xs lo hi)))
theorem xp:SlR X (BM X.K):=by
 intro pins s σ H x v vl vu lo hi sl Q I rx hs pl pu h
 obtain⟨a,xs,rfl,hx,q⟩:=h
 cases rx
 obtain⟨its,r,ht,hz⟩:=I.list hx
 have hlen:=r.length
 refine⟨"list",_,slot_list_getitem.lookup,ht.isList.typeIs,?_⟩
 refine wpAny_getItem_list_slice ht.isList hs pl pu .none (by simp) ?_ (by rw [List.size_toArray]<;>lia)
 rw [lE,<-hlen]
 refine⟨.ref s.heap.objs.size,_,I.laid (t':=s.toks) (o:=.lst (no xs lo hi)) (λb ob q=>Heap.get?_push_of_some _ q) (Nat.le_refl _) ?_,rfl,q _ (I.hok.fresh (Nat.le_refl _))⟩
 exact⟨Nat.le_trans (jl xs lo hi) hz,_,0,(r.drop (HT.sIx xs.length 0 lo)).take (HT.sIx xs.length xs.length hi - HT.sIx xs.length 0 lo),Heap.get?_push_size _ rfl⟩
noncomputable def dB:V->Bool
 | .non=>true
 | .bl _=>true
 | .int _=>true
 | .str _=>true
 | _=>false
noncomputable def eqV:V->V->Bool
 | .non,.non=>true
 | .bl a,.bl b=>a==b
 | .bl a,.int b=>(if a then 1 else 0)==b
 | .int a,.bl b=>a==(if b then 1 else 0)
 | .int a,.int b=>a==b
 | .str a,.str b=>a==b
 | _,_=>false
theorem qP {A:Around}{s:Shared}{y x:V}{u v:Value} (ry:az y u) (rx:az x v) (fy:dB y=true) (fx:dB x=true):SeqAt.EqAt A s u v (eqV y x):=by
 cases y with
 | non=>
  cases ry
  cases x with
  | non=>cases rx;exact SeqAt.EqAt.same _
  | bl b=>cases rx;exact SeqAt.EqAt.none_bool b
  | int b=>obtain⟨t,rfl⟩:=rx;exact SeqAt.EqAt.none_int b t
  | str b=>obtain⟨t,rfl⟩:=rx;exact SeqAt.EqAt.none_str b t
  | _=>exact absurd (show false=true from fx) Bool.false_ne_true
 | bl a=>
  cases ry
  cases x with
  | non=>cases rx;exact SeqAt.EqAt.bool_none a
  | bl b=>cases rx;exact SeqAt.EqAt.bool_bool a b
  | int b=>obtain⟨t,rfl⟩:=rx;exact SeqAt.EqAt.bool_int a b t
  | str b=>obtain⟨t,rfl⟩:=rx;exact SeqAt.EqAt.bool_str a b t
  | _=>exact absurd (show false=true from fx) Bool.false_ne_true
 | int a=>
  obtain⟨t',rfl⟩:=ry
  cases x with
  | non=>cases rx;exact SeqAt.EqAt.int_none a t'
  | bl b=>cases rx;exact SeqAt.EqAt.int_bool a t' b
  | int b=>obtain⟨t,rfl⟩:=rx;exact SeqAt.EqAt.int_int a t' b t
  | str b=>obtain⟨t,rfl⟩:=rx;exact SeqAt.EqAt.int_str a t' b t
  | _=>exact absurd (show false=true from fx) Bool.false_ne_true
 | str a=>
  obtain⟨t',rfl⟩:=ry
  cases x with
  | non=>cases rx;exact SeqAt.EqAt.str_none a t'
  | bl b=>cases rx;exact SeqAt.EqAt.str_bool a t' b
  | int b=>obtain⟨t,rfl⟩:=rx;exact SeqAt.EqAt.str_int a t' b t
  | str b=>obtain⟨t,rfl⟩:=rx;exact SeqAt.EqAt.str_str a t' b t
  | _=>exact absurd (show false=true from fx) Bool.false_ne_true
 | _=>exact absurd (show false=true from fy) Bool.false_ne_true
noncomputable def eqU (x:V) (u:Value):Bool:=match u with
 | .none=>eqV .non x
 | .bool b=>eqV (.bl b) x
 | .int i _=>eqV (.int i) x
 | .str z _=>eqV (.str z) x
 | _=>false
theorem t9 {x y:V}{u:Value} (r:az y u) (f:dB y=true):eqU x u=eqV y x:=by
 cases y with
 | non=>cases r;rfl
 | bl b=>cases r;rfl
 | int i=>obtain⟨t,rfl⟩:=r;rfl
 | str z=>obtain⟨t,rfl⟩:=r;rfl
 | _=>exact absurd (show false=true from f) Bool.false_ne_true
theorem nD {x:V}:∀ {xs:List V}{us:List Value},ay xs us->xs.all dB=true->us.any (eqU x)=xs.any λy=>eqV y x
 | _,_,.nil,_=>rfl
 | y::xs,u::us,.cons r t,f=>by
  rw [List.all_cons,Bool.and_eq_true] at f
  rw [List.any_cons,List.any_cons,t9 r f.1,nD t f.2]
theorem kD {A:Around}{s:Shared}{x:V}{v:Value} (rx:az x v) (fx:dB x=true):∀ {xs:List V}{us:List Value},ay xs us->xs.all dB=true->∀ u ∈ us,SeqAt.EqAt A s u v (eqU x u)
 | _,_,.nil,_=>λu hu=>by cases hu
 | y::xs,u::us,.cons r t,f=>λu' hu=>by
  rw [List.all_cons,Bool.and_eq_true] at f
  rcases List.mem_cons.mp hu with rfl | hu
  ·rw [t9 r f.1];exact qP r rx f.1 fx
  ·exact kD rx fx t f.2 u' hu
noncomputable def inV (x:V) (xs:List V):Bool:=xs.any λy=>eqV y x
noncomputable def rIn (K:PySem.W.Frag) (neg:Bool):R2:=λx y H Q=>∃ p xs,y=.ref p/\(SqL K H p xs\/SqT K H p xs)/\dB x=true/\xs.all dB=true/\Q (.bl (if neg then !inV x xs else inV x xs)) H
theorem m9:OpR X (compareOp .NotIn) (rIn X.K true):=by
 intro pins s σ H x y v u Q I rx ry h
 obtain⟨p,xs,rfl,hq,fx,fs,q⟩:=h
 cases ry
 rcases hq with hq | hq
 ·obtain⟨its,r,pl,hz⟩:=I.list hq
  refine SeqAt.notIn_listAt (eqU x) pl.isList (λw hw=>kD rx fx r fs w (by simpa using hw)) ⟨.bl _,H,I,rfl,?_⟩
  rw [show its.toArray.any (eqU x)=its.any (eqU x) by simp,nD r fs]
  exact q
 ·obtain⟨its,r,pl,hz⟩:=I.tuple hq
  refine SeqAt.notIn_tupleAt (eqU x) pl (λw hw=>kD rx fx r fs w (by simpa using hw)) ⟨.bl _,H,I,rfl,?_⟩
  rw [show its.toArray.any (eqU x)=its.any (eqU x) by simp,nD r fs]
  exact q
theorem mK:cW X (.builtin "len") (λxs H Q=>∃ p ys,xs=[.ref p]/\(SqL X.K H p ys\/SqT X.K H p ys)/\Q (.int ys.length) H):=by
 intro pins s σ H xs us Q I r h
 obtain⟨p,ys,rfl,hq,q⟩:=h
 obtain⟨u,rfl,rx⟩:=g9 r
 cases rx
 have hn:=gC
 rcases hq with hq | hq
 ·obtain⟨its,r',pl,hz⟩:=I.list hq
  have hlen:=r'.length
  exact Calls.call_len_list pl.isList (by simp only [List.size_toArray]<;>lia) ⟨.int ys.length,H,I.tok _,⟨s.toks+1,by rw [List.size_toArray,hlen]⟩,q⟩
 ·obtain⟨its,r',pl,hz⟩:=I.tuple hq
  have hlen:=r'.length
  exact len_tuple pl (by simp only [List.size_toArray]<;>lia) ⟨.int ys.length,H,I.tok _,⟨s.toks+1,by rw [List.size_toArray,hlen]⟩,q⟩
theorem mZ:cW X (.builtin "len") (λxs H Q=>∃ z,xs=[.str z]/\z.length<=sizeLine/\Q (.int z.length) H):=by
 intro pins s σ H xs us Q I r h
 obtain⟨z,rfl,hz,q⟩:=h
 obtain⟨u,rfl,t,rfl⟩:=g9 r
 have hn:=gC
 exact len_str (by lia) ⟨.int z.length,H,I.tok _,⟨_,rfl⟩,q⟩
theorem lQ:cW X (.type "tuple") (λxs H Q=>∃ p ys,xs=[.ref p]/\((SqL X.K H p ys/\∀ l,H l=none->Q (.ref l) (upd H l (.tup ys)))\/(SqT X.K H p ys/\Q (.ref p) H))):=by
 intro pins s σ H xs us Q I r h
 obtain⟨p,ys,rfl,h⟩:=h
 obtain⟨u,rfl,rx⟩:=g9 r
 cases rx
 rcases h with⟨hq,q⟩ | ⟨hq,q⟩
 ·obtain⟨its,r',pl,hz⟩:=I.list hq
  have hlen:=r'.length
  refine call_tuple_list pl.isList (λh' kp=>?_) (by simp only [List.size_toArray]<;>lia)
  have I1:Inv X pins σ H { s with heap:=h' }:=I.kept (t':=s.toks) kp
  have I2:Inv X pins σ (upd H h'.objs.size (.tup ys)) { s with heap:=h'.push { cls:=.type "tuple",data:=.seq its.toArray } }:=
   I1.laid (t':=s.toks) (λb o e=>Heap.get?_push_of_some _ e) (Nat.le_refl _) (show bP X.prog X.w _ _ _ (.tup ys) from ⟨hz,its,r',eR.new _ _⟩)
  exact⟨.ref h'.objs.size,_,I2,rfl,q _ (I1.hok.fresh (Nat.le_refl _))⟩
 ·obtain⟨its,r',pl,hz⟩:=I.tuple hq
  exact call_tuple_same pl ⟨.ref p,H,I,rfl,q⟩
noncomputable def tyV (K:PySem.W.Frag) (T:String) (x:V) (H:Hp):Prop:=match x with
 | .str _=>T = "str"
 | .int _=>T = "int"
 | .ref p=>(T = "list"/\∃ xs,SqL K H p xs)\/(T = "tuple"/\((∃ o,K.lookup p=some o/\o.cls=.type "tuple"/\o.dict=none)\/∃ xs,SqT K H p xs))\/
   (T = "dict"/\((∃ kvs,H p=some (.dK kvs))\/∃ kvs,H p=some (.dT kvs)))\/(T = "set"/\∃ S n,H p=some (.set S n))
 | _=>False
theorem z6 {pins:List (Addr×Obj)}{σ:St}{H:Hp}{s:Shared}{T:String}{x:V}{v:Value} (I:Inv X pins σ H s) (r:az x v) (ty:tyV X.K T x H) :
  s.TypeIs v T/\∀ a,v=.ref a->∃ ob,s.heap.get? a=some ob/\ob.dict=none:=by
 cases x with
 | str z=>
  obtain⟨t,rfl⟩:=r
  cases (show T = "str" from ty)
  exact⟨typeIs_str s z t,λ_ e=>nomatch e⟩
 | int i=>
  obtain⟨t,rfl⟩:=r
  cases (show T = "int" from ty)
  exact⟨typeIs_int s i t,λ_ e=>nomatch e⟩
 | ref p=>
  cases r
  rcases ty with⟨rfl,xs,hq⟩ | ⟨rfl,ht⟩ | ⟨rfl,hk⟩ | ⟨rfl,S,n,hk⟩
  ·obtain⟨its,_,pl,_⟩:=I.list hq
   refine⟨pl.isList.typeIs,λa e=>?_⟩
   cases e
   obtain⟨o,n,e,c,hd,_⟩:=pl
   exact⟨o,e,hd⟩
  ·have z:∃ o:Obj,s.heap.get? p=some o/\o.cls=.type "tuple"/\o.dict=none:=by
    rcases ht with⟨o,hk,hc,hd⟩ | ⟨xs,hq⟩
    ·exact⟨o,I.kIn p o hk,hc,hd⟩
    ·exact I.tuple1 hq
   obtain⟨o,e1,hc,hd⟩:=z
   refine⟨⟨o,e1,hc⟩,λa e=>?_⟩
   cases e
   exact⟨o,e1,hd⟩
  ·have z:∃ o,s.heap.get? p=some o/\o.ExactDict:=by
    rcases hk with⟨kvs,hk⟩ | ⟨kvs,hk⟩
    ·obtain⟨_,_,_,_,o,_,_,e,ex,_⟩:=I.hok p _ hk
     exact⟨o,e,ex⟩
    ·obtain⟨_,_,_,_,o,_,_,e,ex,_⟩:=I.hok p _ hk
     exact⟨o,e,ex⟩
   obtain⟨o,e,ex⟩:=z
   refine⟨⟨o,e,ex.1⟩,λa e2=>?_⟩
   cases e2
   exact⟨o,e,ex.2.1⟩
  ·obtain⟨o,_,_,_,e,ex,_⟩:=I.hok p _ hk
   refine⟨⟨o,e,ex.1⟩,λa e2=>?_⟩
   cases e2
   exact⟨o,e,ex.2.1⟩
 | _=>exact False.elim ty
noncomputable def tBM (K:PySem.W.Frag) (T:String) (r:V->List V->Hp->VK->Prop) (to:TE) (t:TA):TE:=λσ H Q=>to σ H λx H1=>tyV K T x H1/\t σ H1 λxs H2=>r x xs H2 Q
variable {o e:Expr}{es:List Expr}{to:TE}{t:TA}{name:Str}{apos cpos:Pos}{T id:String}{r:V->List V->Hp->VK->Prop}
theorem At (pa:PlainAttrs T) (slot:Slot T name id) (hty:typeOf (.builtin id)=pure (.type "method_descriptor")) (hm:MtR X id r) (ho:PE X o to) (ha:PA X (e::es) t)
  (hbase:attributeBase o name X.env (eval o X.env)=eval o X.env:=by rfl)
  (hfew:((backTo cpos (starEach (e::es) X.env)).all (λx=>!x.1) && (backToKw cpos (keywordEach [] X.env)).all (λx=>x.1.isSome)
    && decide ((e::es).length+([]:List Keyword).length+(if ([]:List Keyword).isEmpty then 0 else 1) < 30))=true:=by rfl)
  (hline:(apos.endLine==cpos.line)=true:=by rfl) (hs:starEach (e::es) X.env=(false,eval e X.env)::starEach es X.env:=by rfl) (hplain:(backTo cpos (starEach es X.env)).any (·.1)=false:=by rfl) :
  PE X (.Call (.Attribute o name apos) (e::es) [] cpos) (tBM X.K T r to t):=by
 intro pins s σ H Q I h
 refine wpAny_Call_method_late hbase hfew hline rfl (thn (ho pins s σ H _ I h) λv s1 ⟨x,H1,I1,r1,ty,q1⟩=>?_)
 obtain⟨h1,h2⟩:=z6 I1 r1 ty
 refine⟨T,id,pa,slot,hty,h1,h2,?_⟩
 have hA:=ha cpos pins s1 σ H1 _ I1 q1
 rw [hs] at hA ⊢
 refine Calls.callWith_builtin (by show (false || (backTo cpos (starEach es X.env)).any (·.1))=false;rw [hplain]<;>rfl) (Calls.evalArgs_plain ?_)
 exact thn hA λus s2 ⟨vs,H2,I2,r2,q2⟩=>hm pins s2 σ H2 x vs v us Q I2 r1 r2 q2
end
end L2
namespace L2
open PySem PySem.Spec PyProof.Rows
noncomputable def MtM (X:Cx) (id:String) (r:V->List V->Hp->VK->Prop):Prop:=
 ∀ (pins:List (Addr×Obj)) (s:Shared) (σ:St) (H:Hp) (x:V) (xs:List V) (v:Value) (us:List Value) (Q:VK),Inv X pins σ H s->az x v->ay xs us->r x xs H Q->
  wpAny (model X.prog X.w) X.A (call (.builtin id) (v::us)) (EP X pins σ Q) X.xe s
theorem ay.one {x:V}{us:List Value} (h:ay [x] us):∃ u,us=[u]/\az x u:=by
 cases h with
 | cons r t=>cases t;exact⟨_,rfl,r⟩
theorem ay.two {x y:V}{us:List Value} (h:ay [x,y] us):∃ u v,us=[u,v]/\az x u/\az y v:=by
 cases h with
 | cons r t=>cases t with
  | cons q t2=>cases t2;exact⟨_,_,rfl,r,q⟩
theorem ay.eraseIdx:∀ {xs:List V}{us:List Value} (i:Nat),ay xs us->ay (xs.eraseIdx i) (us.eraseIdx i)
 | _,_,_,.nil=>.nil
 | _,_,0,.cons _ t=>t
 | _,_,i+1,.cons r t=>.cons r (ay.eraseIdx i t)
theorem ay.rep {xs:List V}{us:List Value} (h:ay xs us):∀ k:Nat,ay (List.replicate k xs).flatten (List.replicate k us).flatten
 | 0=>.nil
 | k+1=>by
  rw [List.replicate_succ,List.replicate_succ,List.flatten_cons,List.flatten_cons]
  exact ay.append h (ay.rep h k)
theorem lV {α:Type}:∀ (l:List α) (i:Nat),(l.eraseIdx i).length<=l.length
 | [],_=>Nat.le_refl _
 | _::_,0=>Nat.le_succ _
 | _::r,i+1=>Nat.succ_le_succ (lV r i)
theorem iN (its:List Value):∀ (k:Nat) (acc:List Value),
  List.foldl (λx1 x2=>x1++x2) acc.toArray (List.replicate k its.toArray)=(acc++(List.replicate k its).flatten).toArray
 | 0,acc=>by simp
 | k+1,acc=>by
  have e:acc.toArray++its.toArray=(acc++its).toArray:=by simp
  have e2:(acc++its)++(List.replicate k its).flatten=acc++(List.replicate (k+1) its).flatten:=by
   rw [List.replicate_succ,List.flatten_cons,List.append_assoc]
  rw [<-e2,<-iN its k (acc++its),<-e,List.replicate_succ,List.foldl_cons]
section
variable {X:Cx}{pins:List (Addr×Obj)}{σ:St}{H:Hp}{s:Shared}{l b:Addr}{xs ys zs:List V}
theorem Inv.lset {its its':List Value}{n:Nat}{f:Array Value->Array Value}{t':Nat} (I:Inv X pins σ H s) (hH:H l=some (.lst xs))
  (e:s.heap.get? l=some { cls:=.type "list",data:=.seq its.toArray n }) (hf:f its.toArray=its'.toArray) (hv:ay ys its') (hz:ys.length<=sizeLine) :
  Inv X pins σ (upd H l (.lst ys)) { s with heap:=s.heap.update l (Obj.mapSeq f),toks:=t' }:=by
 have q:=PySem.IsL.update e f
 rw [hf] at q
 refine I.write (x:=l) (e:=l) (by rw [hH];exact trivial) (.inl rfl) (λb' u hb hu=>(Heap.get?_update_other s.heap (Obj.mapSeq f) (Ne.symm hb)).trans hu) ⟨_,q⟩ ?_
 exact⟨hz,its',_,hv,q⟩
theorem Inv.lnew {its:List Value}{t':Nat} (I:Inv X pins σ H s) (hv:ay ys its) (hz:ys.length<=sizeLine) :
  Inv X pins σ (upd H s.heap.objs.size (.lst ys)) { s with heap:=s.heap.push { cls:=.type "list",data:=.seq its.toArray },toks:=t' }:=
 I.laid (λ_ _ q=>Heap.get?_push_of_some _ q) (Nat.le_refl _) ⟨hz,its,0,hv,Heap.get?_push_size _ rfl⟩
theorem Inv.fresh (I:Inv X pins σ H s):H s.heap.objs.size=none:=I.hok.fresh (Nat.le_refl _)
theorem Inv.lstM (I:Inv X pins σ H s) (hH:H l=some (.lst xs)):xs.length<=sizeLine/\∃ (its:List Value) (n:Nat),ay xs its/\xs.length=its.length/\s.heap.get? l=some { cls:=.type "list",data:=.seq its.toArray n }:=by
 obtain⟨z,its,n,r,e⟩:=I.hok l _ hH
 exact⟨z,its,n,r,r.length,e⟩
theorem pI {n:Nat} (h:n<=sizeLine):Builtin.List.listTooLong n=false:=by
 unfold Builtin.List.listTooLong
 exact decide_eq_false (by lia)
end
section
variable {X:Cx}
noncomputable def xI:V->List V->Hp->VK->Prop:=λx vs H Q=>∃ l xs y,x=.ref l/\vs=[y]/\H l=some (.lst xs)/\xs.length < sizeLine/\Q .non (upd H l (.lst (xs++[y])))
theorem tm:MtM X "list.append" xI:=by
 intro pins s σ H x vs v us Q I rx rv h
 obtain⟨l,xs,y,rfl,rfl,hH,hz,q⟩:=h
 cases rx
 obtain⟨u,rfl,ru⟩:=rv.one
 obtain⟨z,its,n,r,hl,e⟩:=I.lstM hH
 refine call_meets F.slot_list_append ⟨_,e,rfl⟩ F.entry_list_append (F.args_list_append_2 _ _) (PySem.list_append l its.toArray n u (by rw [List.size_toArray];lia)) ⟨e,?_⟩
 refine⟨.non,_,I.lset (its':=its++[u]) hH e (by simp) (r.append (.cons ru .nil)) ?_,rfl,q⟩
 rw [List.length_append,List.length_singleton]
 lia
noncomputable def zP:V->List V->Hp->VK->Prop:=λx vs H Q=>∃ l xs i k y,x=.ref l/\vs=[.int i]/\H l=some (.lst xs)/\-(2 ^ 63)<=i/\i < 2 ^ 63/\seqIndex? i xs.length=some k/\xs[k]?=some y/\Q y (upd H l (.lst (xs.eraseIdx k)))
theorem vC:MtM X "list.pop" zP:=by
 intro pins s σ H x vs v us Q I rx rv h
 obtain⟨l,xs,i,k,y,rfl,rfl,hH,h1,h2,hk,hy,q⟩:=h
 cases rx
 obtain⟨u,rfl,ru⟩:=rv.one
 obtain⟨t,rfl⟩:=ru
 obtain⟨z,its,n,r,hl,e⟩:=I.lstM hH
 obtain⟨w,hw,rw'⟩:=r.get hy
 refine call_meets F.slot_list_pop ⟨_,e,rfl⟩ F.entry_list_pop (F.args_list_pop_2 _ _)
  (MeetsSeq.list_pop_at l its.toArray n i t k w (fitsIndex_both h1 h2) (by rw [List.size_toArray,<-hl];exact hk) (by rw [<-Array.getElem?_toList];exact hw) (by rw [List.size_toArray];lia)) ⟨e,?_⟩
 refine⟨y,_,I.lset (its':=its.eraseIdx k) hH e ?_ (r.eraseIdx k) ?_,rw',q⟩
 ·show its.toArray.eraseIdxIfInBounds k=(its.eraseIdx k).toArray
  rw [List.eraseIdxIfInBounds_toArray]
 ·have:=lV xs k
  lia
theorem nH {α:Type} (xs:List α) (k:Nat):(List.replicate k xs).flatten.length=k*xs.length:=by
 induction k with
 | zero=>simp
 | succ k ih=>rw [List.replicate_succ,List.flatten_cons,List.length_append,ih,Nat.succ_mul,Nat.add_comm]
end
section
variable {prog:Program}{w:World}{A:Around}{E:Value->Shared->Prop}{s:Shared}
end
section
variable {X:Cx}
end
end L2
namespace Att
open PySem PySem.W PySem.Calls PyProof.Rows
theorem ju {P:Params}{h:Heap}:∀ (ns:List Int) (vs:List Value),WellAll P h vs (ns.map WData.int)->IntsAre vs ns:=by
 intro ns
 induction ns with
 | nil=>
  intro vs w
  rw [List.map_nil] at w
  cases w
  exact .nil
 | cons n ns ih=>
  intro vs w
  rw [List.map_cons] at w
  cases w with
  | cons a b=>
   cases a
   exact .cons _ _ (ih _ b)
theorem tH {l:OpenLaw}{n:Nat} (hn:l.most=some n) {P:Params}{h:Heap}{args:List WData}{vals:List Value}
  (hpre:l.row.toRowW.claim.pre args=true) (hwl:WellAll P h vals args) :
  ∃ a vs ns,vals=[Value.ref a]/\args=[WData.list (ns.map WData.int)]/\h.get? a=some { cls:=.type "list",data:=.seq vs.toArray }/\IntsAre vs ns/\ns.length<=n:=by
 have hsh:WShape.hasAll [] args [.list .int]=true:=(pre_splitW hpre).1
 have hc:l.pre.holds [] { args:=args }=true:=(pre_splitW hpre).2
 obtain⟨d,r,rfl,h1,h2⟩:=hasAllW_cons hsh
 obtain rfl:=hasAllW_nil h2
 obtain⟨xs,rfl,h3⟩:=hasW_list h1
 obtain⟨ns,rfl⟩:=items_int h3
 have hlen:ns.length<=n:=by
  unfold OpenLaw.pre at hc
  have h4:(WTm.not (.lt (.lit (.int (n:Int))) (.len (.arg 0)))).holds [] { args:=[.list (ns.map .int)] }=true:=by
   have h4:=(holds_andW hc).1
   rw [hn] at h4
   exact h4
  have h5:=condW_of h4 (w_not (w_lt w_lit (w_len_list (w_arg rfl))))
  rw [List.length_map] at h5
  refine Nat.le_of_not_lt λq=>?_
  have q':(n:Int) < ((ns.length:Nat):Int):=by lia
  first
   | (rw [decide_eq_true q'] at h5;exact absurd h5 (by decide))
   | (simp at h5;lia)
 cases hwl with
 | cons w1 w2=>
  cases w2
  cases w1 with
  | list ho hall=>exact⟨_,_,ns,rfl,rfl,ho,ju ns _ hall,hlen⟩
theorem sN (l:OpenLaw) (args:List WData):l.row.toRowW.claim.post args (.bool true) args=true:=
 postW_of (r:=l.row.toRowW) (X:=(true==true))
  (show WShape.has [] (.bool true) .bool=true by first | rfl | decide | simp [WShape.has,WShape.arms,WShape.armsAll])
  (show (WTm.eq .res (.lit (.bool true))).value [] { args:=args,res:=some (.bool true),after:=args }=some (.bool (true==true)) from w_eq_bool (w_res rfl) w_lit) rfl
theorem attach_call {l:OpenLaw}{n:Nat}{q:Program}{loose:List Str}{XP:(Str->Option Value)->Heap->Prop}{YP:World->Heap->Prop}{d:DefRec}
  (hn:l.most=some n) (hdf:d.params.defaults=[])
  (call:∀ (w:World) (s₀ s₁:Shared) (mg mb:Str->Option Value) (fa:Addr) (o:Obj) (pm cd doc:Value) (a:Addr) (vs:List Value) (ns:List Int),
    Ground q loose [] XP w s₀ mg mb s₁.heap->YP w s₁.heap->
    s₁.heap.get? fa=some o->o.data=.func (docDef d.name d.params d.body d.scope pm cd doc)->s₁.heap.CodeRec cd d.name->mg d.name=some (.ref fa)->
    s₁.heap.get? a=some { cls:=.type "list",data:=.seq vs.toArray }->IntsAre vs ns->ns.length<=n->s₁.gens=#[]->
    codeAny (model l.prog w) callerA (.call (.ref fa) ⟨[.ref a],[]⟩) (λr s'=>r=.ok (.ret (.bool true))/\OldK s₁.heap s'.heap/\s'.os=s₁.os/\AllBare s'.gens) s₁) :
  WalkO q loose XP YP l.row.toRowW d [] (λf vs=>PySem.call f vs):=by
 intro w s₀ s₁ mg mb G Y fa o pm cd doc dV kV ho hd hcd hD hmg hg args vals as hpre hlay hrd hwl hlo
 obtain rfl:dV=.none:=Dflts.none hD hdf
 obtain rfl:kV=.none:=Dflts.noKw hD
 obtain⟨a,vs,ns,rfl,rfl,hobj,hints,hlen⟩:=tH hn hpre hwl
 refine enter_call (codeAny_mono (call w s₀ s₁ mg mb fa o pm cd doc a vs ns G Y ho (fd_plain hd) hcd hmg hobj hints hlen hg) λr s' hq=>?_)
 obtain⟨rfl,h2,h3,h4⟩:=hq
 exact⟨.inl ⟨.bool true,.bool true,[],rfl,λ_=>rfl,.bool true,sN l _,λ_=>⟨List.Pairwise.nil,λ_ hm=>(nomatch hm)⟩⟩,h2,h3,h4⟩
section
variable {prog:Program}{w:World}{A:Around}{E:Value->Shared->Prop}{s:Shared}{K:Frag}
end
end Att
namespace L2
open PySem PySem.Spec PyProof.Rows
theorem mi:∀ {vs:List Value}{ns:List Int},IntsAre vs ns->ay (ns.map V.int) vs
 | _,_,.nil=>.nil
 | _,_,.cons n t h=>.cons ⟨t,rfl⟩ (mi h)
noncomputable def wP (H:Hp):Prop:=∀ b,H b=none\/∃ o xs,H b=some (.frz o (.lst xs))
theorem uO {P:Program}{w:World}{K:PySem.W.Frag}{mg mb:Str->Option Value}{CX:CXT}{k:Nat}{fa a:Addr}{fd:FuncData}{x:Str}{sp:Sp}{s₁:Shared}{vs:List Value}{ns:List Int}
  (KX:K.In s₁.heap) (hns:s₁.heap.Ns mainGlobals mg) (hb:s₁.heap.Ns builtinsNs mb) (hbb:∀ x:Str,x≠"__name__"->mb x=bootBuiltins x) (hlim:s₁.heap.NoLimit) (hg:s₁.gens=#[])
  (ha:s₁.heap.get? a=some { cls:=.type "list",data:=.seq vs.toArray }) (hi:IntsAre vs ns) (hl:ns.length<=sizeLine) (hr:bu k callerA)
  (F:∀ base:Heap,K.In base->base.Ns mainGlobals mg->bE P w K mg base CX k fa fd [x] sp) (hbind:∀ (s:Shared) (u:Value),BindsTo s fd ⟨[u],[]⟩ [(x,u)])
  (hsp:∀ H:Hp,wP H->SqL K H a (ns.map V.int)->sp [.ref a] H (λv _=>v=.bl true) λ_ _ _=>False)
  (hCX:∀ H e s',CX [] H s₁ (λ_ _ _=>False) e s'->False) :
  codeAny (model P w) callerA (.call (.ref fa) ⟨[.ref a],[]⟩) (λr s'=>r=.ok (.ret (.bool true))/\OldK s₁.heap s'.heap/\s'.os=s₁.os/\AllBare s'.gens) s₁:=by
 have rv:=mi hi
 have lenV:=hi.length
 -- from an abstract heap in which nothing but the script may be tracked
 have core:∀ H:Hp,wP H->SqL K H a (ns.map V.int)->HOk P w H s₁.heap->(∀ b,H b≠none->b=a)->(H a≠none->K.lookup a=none)->
   codeAny (model P w) callerA (.call (.ref fa) ⟨[.ref a],[]⟩) (λr s'=>r=.ok (.ret (.bool true))/\OldK s₁.heap s'.heap/\s'.os=s₁.os/\AllBare s'.gens) s₁:=by
  intro H hO hS hok hA hK
  have base_of:∀ {b:Addr}{o:Obj},s₁.heap.get? b=some o->H b=none->(mJ s₁.heap H).get? b=some o:=λe n=>vq e n
  have noA:∀ {b:Addr}{o:Obj}{es:Array DictEntry}{ep:Nat},s₁.heap.get? b=some o->o.data=.dict es ep->H b=none:=λ{b o es ep} e d=>by
   cases q:H b with
   | none=>rfl
   | some u=>
    have e':b=a:=hA b (by rw [q];simp)
    subst e'
    rw [ha] at e;cases e
    have d':Data.seq vs.toArray _=Data.dict es ep:=d
    cases d'
  have nsK:∀ {b:Addr}{m:Str->Option Value},s₁.heap.Ns b m->(mJ s₁.heap H).Ns b m:=λ{b m} ⟨o,es,ep,e,d,r⟩=>⟨o,es,ep,base_of e (noA e d),d,r⟩
  have hKb:K.In (mJ s₁.heap H):=λb o e=>base_of (KX b o e) (by
   cases q:H b with
   | none=>rfl
   | some u=>
    have e':b=a:=hA b (by rw [q];simp)
    subst e'
    rw [hK (by rw [q];simp)] at e;cases e)
  have hM:Mod K mg (mJ s₁.heap H):=⟨hKb,nsK hns,⟨mb,nsK hb,hbb⟩,let ⟨mc,h1,h2⟩:=hlim;⟨mc,nsK h1,h2⟩⟩
  have e0:wO P w K mg (mJ s₁.heap H) callerA [] s₁ H:=⟨rfl,hM,λb o e=>wH e,Nat.le_of_eq (sA _ _),trivial,λb hb=>absurd (show b ∈ ([]:List Addr) from hb) (by simp),hok,.of_eq hg⟩
  refine codeAny_mono ((F _ hKb (nsK hns)).run callerA [] s₁ H ⟨[.ref a],[]⟩ [.ref a] [.ref a] _ _ hr e0 (hbind s₁ (.ref a)) (.cons rfl .nil) (hsp H hO hS)) λr s' h=>?_
  cases r with
  | error e=>exact (hCX H e s' h).elim
  | ok fl=>
   cases fl with
   | next=>exact False.elim h
   | brk=>exact False.elim h
   | cont=>exact False.elim h
   | ret u=>
    obtain⟨v,H',os,bare,un,hok',r',q⟩:=h
    have q':v=.bl true:=q
    subst q'
    obtain rfl:u=Value.bool true:=r'
    refine⟨rfl,OldK.of_keep λb o e=>?_,os,bare⟩
    cases q:H b with
    | none=>exact un.keep b o e q (by intro z;exact absurd (show b ∈ ([]:List Addr) from z) (by simp)) (by simp)
    | some u=>
     rcases hO b with z | ⟨ob,xs,z⟩
     ·rw [q] at z;cases z
     ·have z2:=un.frzs b ob _ z
      obtain⟨e1,_⟩:=hok b _ z
      obtain⟨e2,_⟩:=hok' b _ z2
      rw [e] at e1;cases e1
      exact e2
 cases hk:K.lookup a with
 | some o=>
  -- the script is one of the module's own objects
  have e:=KX a o hk
  rw [ha] at e
  cases e
  refine core (λ_=>none) (λ_=>.inl rfl) (.inr ⟨_,vs.toArray,_,hk,rfl,rfl,rfl,by rw [List.size_toArray,lenV];exact hl,by simpa using rv⟩) (λb u z=>by have z':(none:Option HO)=some u:=z;cases z') (λb z=>absurd rfl z) λz=>absurd rfl z
 | none=>
  refine core (λb=>if b=a then some (.frz { cls:=.type "list",data:=.seq vs.toArray } (.lst (ns.map V.int))) else none) (λb=>?_) (.inl (.inr ⟨{ cls:=.type "list",data:=.seq vs.toArray },if_pos rfl⟩)) (λb u z=>?_) (λb z=>?_) λ_=>hk
  ·by_cases hb:b=a
   ·exact .inr ⟨_,_,if_pos hb⟩
   ·exact .inl (if_neg hb)
  ·by_cases hb:b=a
   ·have z':=(if_pos hb).symm.trans z
    cases z'
    subst hb
    exact⟨ha,by rw [List.length_map];exact hl,vs,_,rv,ha⟩
   ·have z':=(if_neg hb).symm.trans z
    cases z'
  ·by_cases hb:b=a
   ·exact hb
   ·exact absurd (if_neg hb) z
end L2
namespace L2
open PySem PySem.Spec PyProof.Rows
theorem walk_of {l:PySem.W.OpenLaw}{n k:Nat}{q:Program}{loose:List Str}{XP:(Str->Option Value)->Heap->Prop}{YP:World->Heap->Prop}{d:DefRec}{K:Params->PySem.W.Frag}{CX:World->CXT}{sp:World->Sp}{x:Str}
  (hn:l.most=some n) (hn2:n<=sizeLine) (hdf:d.params.defaults=[]) (hr:bu k callerA)
  (hY:∀ (w:World) (h:Heap),YP w h->(K w.params).In h)
  (F:∀ (w:World) (mg:Str->Option Value) (fa:Addr) (h:Heap),(K w.params).In h->h.Ns mainGlobals mg->mg d.name=some (.ref fa)->
    ∃ fd:FuncData,(∀ (s:Shared) (u:Value),BindsTo s fd ⟨[u],[]⟩ [(x,u)])/\
     ∀ base:Heap,(K w.params).In base->base.Ns mainGlobals mg->bE l.prog w (K w.params) mg base (CX w) k fa fd [x] (sp w))
  (hsp:∀ (w:World) (H:Hp) (a:Addr) (ns:List Int),ns.length<=n->wP H->SqL (K w.params) H a (ns.map V.int)->sp w [.ref a] H (λv _=>v=.bl true) λ_ _ _=>False)
  (hCX:∀ (w:World) (H:Hp) (s:Shared) (e:Value) (s':Shared),CX w [] H s (λ_ _ _=>False) e s'->False) :
  PySem.W.WalkO q loose XP YP l.row.toRowW d [] (λf vs=>PySem.call f vs):=by
 refine Att.attach_call hn hdf λw s₀ s₁ mg mb fa o pm cd doc a vs ns G Y ho hd hcd hmg hobj hints hlen hg=>?_
 have KX:=hY w _ Y
 obtain⟨fd,hb,hF⟩:=F w mg fa _ KX G.T.g hmg
 exact uO KX G.T.g G.T.b G.T.builtins G.T.nolimit hg hobj hints (Nat.le_trans hlen hn2) hr hF hb (λH hO hS=>hsp w H a ns hlen hO hS) λH e s'=>hCX w H s₁ e s'
end L2
namespace L2
open PySem PySem.Spec PyProof.Rows
noncomputable def bm (s:Stmt):Arguments:=match s with
 | .FunctionDef _ a _ _ _ _ _ _ _ _=>a
 | _=>{ posonlyargs:=[],args:=[],vararg:=none,kwonlyargs:=[],kw_defaults:=[],kwarg:=none,defaults:=[] }
noncomputable def aq (s:Stmt):List Stmt:=match s with
 | .FunctionDef _ _ b _ _ _ _ _ _ _=>b
 | _=>[]
noncomputable def ae (s:Stmt):Scope:=match s with
 | .FunctionDef _ _ _ _ _ _ sc _ _ _=>sc
 | _=>{ kind:=.function,names:=[],isGenerator:=false,isCoroutine:=false }
abbrev CX0:CXT:=λ_ _ _ _ _ _=>False
abbrev E0:XK:=λ_ _ _=>False
theorem AT {X:Cx}:qD CX0 X E0:=λ_ _ _ _ _ _ _ h=>h.elim
structure Fun (K:PySem.W.Frag) (x qual:Str) (st:Stmt) (f:Addr) (fd:FuncData):Prop where
 ex:∃ (oc:Value) (od:Option Addr) (kV doc pm:Value) (an:Option Addr) (cdv ct:Value) (osl:Array (Option Value)),
  fd=PySem.W.fnOf x qual (bm st) (aq st) (ae st) .none kV doc pm an cdv ct/\K.lookup f=some ⟨oc,od,.func fd,osl⟩/\PySem.W.codeIn K cdv qual=true
 kp:PySem.W.keepIn K (.ref f)=true
section
variable {P:Program}{w:World}{K:PySem.W.Frag}{mg:Str->Option Value}{base:Heap}
theorem Fun.ok {x qual:Str}{st:Stmt}{f:Addr}{fd:FuncData}{N ps:List Str}{k:Nat}{sp:Sp} (F:Fun K x qual st f fd) (S:bg N ps (ae st)) (len:∀ vs H Q E,sp vs H Q E->vs.length=ps.length)
  (hbody:∀ (cdv:Value) (A:Around) (outer:List Env) (s:Shared) (H:Hp) (vs:List V) (Q:VK) (E:XK),bu k (A.deeper (envOfC qual (ae st) s.heap.objs.size f cdv))->sp vs H Q E->
    ∃ t,PSs (de CX0 P w K mg base N qual (ae st) f cdv A outer s H E).nox (aq st) t/\t { nx:=λ_ H'=>Q .non H',rt:=Q } (start N vs) H):bE P w K mg base CX0 (k+1) f fd ps sp:=by
 obtain⟨oc,od,kV,doc,pm,an,cdv,ct,osl,rfl,lk,hcd⟩:=F.ex
 refine AD lk hcd S len λA outer s H vs Q E hr hsp=>?_
 obtain⟨t,h,q⟩:=hbody cdv A outer s H vs Q E hr hsp
 exact⟨t,h.nox,q⟩
theorem Fun.binds {x qual:Str}{st:Stmt}{f:Addr}{fd:FuncData}{ps:List Str} (F:Fun K x qual st f fd)
  (h:∀ (kV doc pm:Value) (an:Option Addr) (cdv ct:Value) (us:List Value),us.length=ps.length->bindArgs (PySem.W.fnOf x qual (bm st) (aq st) (ae st) .none kV doc pm an cdv ct) ⟨us,[]⟩=pure (ps.zip us)):b9 K fd ps []:=by
 obtain⟨oc,od,kV,doc,pm,an,cdv,ct,osl,rfl,lk,hcd⟩:=F.ex
 exact .all (h kV doc pm an cdv ct)
theorem cb {x qual:Str}{st:Stmt}{f:Addr}{oc:Value}{od an:Option Addr}{osl:Array (Option Value)}{kV doc pm cdv ct:Value} (l:K.lookup f=some ⟨oc,od,.func (PySem.W.fnOf x qual (bm st) (aq st) (ae st) .none kV doc pm an cdv ct),osl⟩)
  (c:PySem.W.codeIn K cdv qual=true) (k:PySem.W.keepIn K (.ref f)=true):Fun K x qual st f (PySem.W.fnOf x qual (bm st) (aq st) (ae st) .none kV doc pm an cdv ct):=⟨⟨oc,od,kV,doc,pm,an,cdv,ct,osl,rfl,l,c⟩,k⟩
end
theorem vp {A:Around}{k:Nat} (hr:bu k A):A.units+1 < cLine:=Nat.lt_of_le_of_lt (Nat.add_le_add_left (by decide:1<=64) _) hr.units
theorem sC {n:Nat} (h:n<=1000):n < sizeLine:=Nat.lt_of_le_of_lt h (by decide)
section
variable {X:Cx}
end
theorem tX {A B:Prop} (h:B):if false=true then A else B:=by
 rw [if_neg Bool.false_ne_true]
 exact h
theorem sK {A B:Prop} (h:A):if true=true then A else B:=by
 rw [if_pos rfl]
 exact h
noncomputable def br (H H':Hp):Prop:=∀ b o,H b=some o->H' b=some o
theorem br.refl (H:Hp):br H H:=λ_ _ h=>h
end L2
namespace L2
open PySem PySem.Spec PyProof.Rows
noncomputable def bF (cells:List (Str×Addr)):List (Str×NameKind)->List (Str×Addr)->List (Str×Addr)
 | [],acc=>acc
 | (n,k)::r,acc=>if k==.free then bF cells r ((n,(cells.lookup n).getD 0)::acc) else bF cells r acc
theorem gL {env:Env} (f:Str×NameKind->List (Str×Addr)->Sem (ForInStep (List (Str×Addr))))
  (hf:∀ n k cs,f (n,k) cs=if k==.free then (do let c <-cellOf env n;pure (.yield ((n,c)::cs))) else pure (.yield cs)) :
  ∀ (names:List (Str×NameKind)) (acc:List (Str×Addr)),(∀ x ∈ names,x.2=.free->∃ c,env.cells.lookup x.1=some c)->
   forIn names acc f=pure (bF env.cells names acc)
 | [],acc,_=>by rw [List.forIn_nil];rfl
 | (n,k)::r,acc,h=>by
  rw [List.forIn_cons,hf]
  unfold bF
  by_cases hk:(k==.free)=true
  ·obtain⟨c,hc⟩:=h (n,k) List.mem_cons_self (beq_iff_eq.mp hk)
   have hc':env.cells.lookup n=some c:=hc
   rw [if_pos hk,if_pos hk]
   have:cellOf env n=pure c:=by unfold cellOf;rw [hc']
   rw [this,hc']
   simp only [pure_bind,Option.getD_some]
   exact gL f hf r _ λx hx=>h x (List.mem_cons_of_mem _ hx)
  ·rw [if_neg hk,if_neg hk]
   simp only [pure_bind]
   exact gL f hf r _ λx hx=>h x (List.mem_cons_of_mem _ hx)
theorem gq {scope:Scope}{env:Env} (h:∀ x ∈ scope.names,x.2=.free->∃ c,env.cells.lookup x.1=some c) :
  closureFor scope env=pure (bF env.cells scope.names []):=by
 simp only [closureFor]
 rw [gL (env:=env) _ (λn k cs=>by cases hk:k==NameKind.free<;>simp [hk]) scope.names [] h]
 simp
theorem dR {cells:List (Str×Addr)}:∀ (names:List (Str×NameKind)) (acc:List (Str×Addr)) {x:Str}{c:Addr},(bF cells names acc).lookup x=some c->
  acc.lookup x=some c\/((x,NameKind.free) ∈ names/\c=(cells.lookup x).getD 0)
 | [],_,_,_,h=>.inl h
 | (n,k)::r,acc,x,c,h=>by
  unfold bF at h
  by_cases hk:(k==.free)=true
  ·rw [if_pos hk] at h
   rcases dR r _ h with q | ⟨q1,q2⟩
   ·rw [List.lookup_cons] at q
    cases hx:x==n with
    | true=>
     rw [hx] at q
     have e:=beq_iff_eq.mp hx
     subst e
     exact .inr ⟨by rw [<-beq_iff_eq.mp hk];exact List.mem_cons_self,(Option.some.inj q).symm⟩
    | false=>rw [hx] at q;exact .inl q
   ·exact .inr ⟨List.mem_cons_of_mem _ q1,q2⟩
  ·rw [if_neg hk] at h
   rcases dR r _ h with q | ⟨q1,q2⟩
   ·exact .inl q
   ·exact .inr ⟨List.mem_cons_of_mem _ q1,q2⟩
theorem dI {cells:List (Str×Addr)}{x:Str}:∀ (names:List (Str×NameKind)) (acc:List (Str×Addr)),((x,NameKind.free) ∈ names\/(acc.lookup x).isSome=true)->((bF cells names acc).lookup x).isSome=true
 | [],_,h=>h.elim (λz=>nomatch z) id
 | (n,k)::r,acc,h=>by
  unfold bF
  by_cases hk:(k==.free)=true
  ·rw [if_pos hk]
   refine dI r _ ?_
   rcases h with h | h
   ·rcases List.mem_cons.mp h with e | h
    ·cases e
     exact .inr (by rw [List.lookup_cons,beq_self_eq_true];rfl)
    ·exact .inl h
   ·refine .inr ?_
    rw [List.lookup_cons]
    cases x==n
    ·exact h
    ·rfl
  ·rw [if_neg hk]
   refine dI r _ ?_
   rcases h with h | h
   ·rcases List.mem_cons.mp h with e | h
    ·cases e;exact absurd rfl hk
    ·exact .inl h
   ·exact .inr h
theorem cK:∀ (names:List (Str×NameKind)) (n:Nat) (acc:List (Str×Addr)) {x:Str}{c:Addr},(cellsFrom n names acc).lookup x=some c->acc.lookup x=some c\/((x,NameKind.cell) ∈ names/\n<=c)
 | [],_,_,_,_,h=>.inl h
 | (m,k)::r,n,acc,x,c,h=>by
  unfold cellsFrom at h
  by_cases hk:(k==.cell)=true
  ·rw [if_pos hk] at h
   rcases cK r _ _ h with q | ⟨q1,q2⟩
   ·rw [List.lookup_cons] at q
    cases hx:x==m with
    | true=>
     rw [hx] at q
     have e:=beq_iff_eq.mp hx
     subst e
     exact .inr ⟨by rw [<-beq_iff_eq.mp hk];exact List.mem_cons_self,by rw [Option.some.inj q];exact Nat.le_refl _⟩
    | false=>rw [hx] at q;exact .inl q
   ·exact .inr ⟨List.mem_cons_of_mem _ q1,Nat.le_of_succ_le q2⟩
  ·rw [if_neg hk] at h
   rcases cK r _ _ h with q | ⟨q1,q2⟩
   ·exact .inl q
   ·exact .inr ⟨List.mem_cons_of_mem _ q1,q2⟩
theorem lI:∀ (names:List (Str×NameKind)) (n:Nat) (acc:List (Str×Addr)),(∀ p ∈ acc,p.2 < n)->∀ {x y:Str}{c:Addr},(cellsFrom n names acc).lookup x=some c->(cellsFrom n names acc).lookup y=some c->n<=c->x=y:=by
 have key:∀ (names:List (Str×NameKind)) (n:Nat) (acc:List (Str×Addr)) (lo:Nat),lo<=n->(∀ p ∈ acc,p.2 < n)->(∀ p ∈ acc,∀ q ∈ acc,lo<=p.2->p.2=q.2->p.1=q.1)->
   ∀ p ∈ cellsFrom n names acc,∀ q ∈ cellsFrom n names acc,lo<=p.2->p.2=q.2->p.1=q.1:=by
  intro names
  induction names with
  | nil=>intro n acc lo _ _ h;exact h
  | cons z r ih=>
   intro n acc lo hlo hlt h
   obtain⟨m,k⟩:=z
   unfold cellsFrom
   by_cases hk:(k==.cell)=true
   ·rw [if_pos hk]
    refine ih _ _ lo (Nat.le_succ_of_le hlo) (λp hp=>?_) (λp hp q hq l e=>?_)
    ·rcases List.mem_cons.mp hp with e | hp
     ·rw [e];exact Nat.lt_succ_self _
     ·exact Nat.lt_succ_of_lt (hlt p hp)
    ·rcases List.mem_cons.mp hp with e1 | hp<;>rcases List.mem_cons.mp hq with e2 | hq
     ·rw [e1,e2]
     ·rw [e1] at e;exact absurd (hlt q hq) (by rw [<-e];exact Nat.lt_irrefl _)
     ·rw [e2] at e;exact absurd (hlt p hp) (by rw [e];exact Nat.lt_irrefl _)
     ·exact h p hp q hq l e
   ·rw [if_neg hk]
    exact ih _ _ lo hlo hlt h
 intro names n acc hlt x y c hx hy hc
 exact key names n acc n (Nat.le_refl _) hlt (λp hp q hq l _=>absurd (hlt p hp) (Nat.not_lt.mpr l)) _ (PySem.mem_of_lookup hx) _ (PySem.mem_of_lookup hy) hc rfl
theorem dc:∀ (names:List (Str×NameKind)) (h:Heap) (acc:List (Str×Addr)),(∀ p ∈ acc,∃ v,h.IsCell p.2 v)->∀ p ∈ cellsFrom h.objs.size names acc,∃ v,(pushCells h names).IsCell p.2 v
 | [],_,_,h=>h
 | (m,k)::r,h,acc,hc=>by
  unfold cellsFrom pushCells
  by_cases hk:(k==.cell)=true
  ·rw [if_pos hk,if_pos hk]
   have:=dc r (h.push { cls:=.type "cell",data:=.cell none }) ((m,h.objs.size)::acc) (λp hp=>by
    rcases List.mem_cons.mp hp with e | hp
    ·rw [e];exact⟨none,_,Heap.get?_push_size _ rfl,rfl⟩
    ·obtain⟨v,z⟩:=hc p hp
     exact⟨v,z.keeps λb o e=>Heap.get?_push_of_some _ e⟩)
   rwa [Heap.size_push] at this
  ·rw [if_neg hk,if_neg hk]
   exact dc r h acc hc
theorem dk {names:List (Str×NameKind)} (nd:(names.map (·.1)).Nodup):∀ {x:Str}{k:NameKind},(x,k) ∈ names->names.lookup x=some k:=by
 induction names with
 | nil=>intro x k h;cases h
 | cons z r ih=>
  intro x k h
  obtain⟨m,k'⟩:=z
  rw [List.map_cons,List.nodup_cons] at nd
  rw [List.lookup_cons]
  rcases List.mem_cons.mp h with e | h
  ·cases e;rw [beq_self_eq_true]
  ·have:(x==m)=false:=beq_eq_false_iff_ne.mpr λe=>nd.1 (e ▸ List.mem_map.mpr ⟨(x,k),by assumption,rfl⟩)
   rw [this]
   exact ih nd.2 h
theorem cD {env:Env}:∀ {names:List (Str×NameKind)}{x:Str}{k:NameKind},
  (names.map λ(n,k)=>if (k==NameKind.free && env.scope.kind==.function && env.kindOf n==some .cell) then (n,NameKind.cell) else (n,k)).lookup x=some k->
  ∃ k0,names.lookup x=some k0/\(k=k0\/(k0=.free/\k=.cell))
 | [],_,_,h=>by cases h
 | (n,k0)::r,x,k,h=>by
  rw [List.map_cons] at h
  dsimp only at h
  rw [List.lookup_cons]
  by_cases hc:(k0==NameKind.free && env.scope.kind==.function && env.kindOf n==some .cell)=true
  ·rw [if_pos hc,List.lookup_cons] at h
   cases hx:x==n with
   | true=>
    rw [hx] at h
    refine⟨k0,rfl,.inr ⟨?_,(Option.some.inj h).symm⟩⟩
    simp only [Bool.and_eq_true] at hc
    exact beq_iff_eq.mp hc.1.1
   | false=>rw [hx] at h;exact cD h
  ·rw [if_neg hc,List.lookup_cons] at h
   cases hx:x==n with
   | true=>rw [hx] at h;exact⟨k0,rfl,.inl (Option.some.inj h).symm⟩
   | false=>rw [hx] at h;exact cD h
theorem eE {env:Env}:∀ {names:List (Str×NameKind)}{x:Str},names.lookup x=some .free->
  (names.map λ(n,k)=>if (k==NameKind.free && env.scope.kind==.function && env.kindOf n==some .cell) then (n,NameKind.cell) else (n,k)).lookup x=some .free\/
  (names.map λ(n,k)=>if (k==NameKind.free && env.scope.kind==.function && env.kindOf n==some .cell) then (n,NameKind.cell) else (n,k)).lookup x=some .cell
 | [],_,h=>by cases h
 | (n,k0)::r,x,h=>by
  rw [List.map_cons]
  dsimp only
  rw [List.lookup_cons] at h
  by_cases hc:(k0==NameKind.free && env.scope.kind==.function && env.kindOf n==some .cell)=true
  ·rw [if_pos hc,List.lookup_cons]
   cases hx:x==n with
   | true=>exact .inr rfl
   | false=>rw [hx] at h;exact eE h
  ·rw [if_neg hc,List.lookup_cons]
   cases hx:x==n with
   | true=>rw [hx] at h;exact .inl h
   | false=>rw [hx] at h;exact eE h
theorem h8 {M:Model}{A:Around}{E:Value->Shared->Prop}{s:Shared}{scope:Scope}{env:Env}{cl:List (Str×Addr)}{Q:Env->Shared->Prop}
  (hQ:Q (newEnv scope s.heap.objs.size env.globals (cellsFrom (s.heap.objs.size+1) scope.names cl) env.qual none .none (some env) builtinsNs)
    { s with heap:=pushCells (s.heap.push { cls:=.type "dict",data:=.dict #[] }) scope.names }) :
  wpAny M A (newFunctionEnv scope env.globals cl [] env.qual none .none (some env)) Q E s:=by
 simp only [newFunctionEnv,Option.isSome_some,if_true]
 refine wpAny_bind (wpAny_alloc ?_)
 refine wpAny_bind (wpAny_layCells _ (λname kind cells=>by cases hkc:kind==NameKind.cell<;>simp [hkc]) _ _ _ _ ?_)
 rw [show ({ s with heap:=s.heap.push { cls:=.type "dict",data:=.dict #[] } }:Shared).heap.objs.size=s.heap.objs.size+1 from Heap.size_push ..]
 refine wpAny_bind ?_
 rw [List.forIn_nil]
 exact wpAny_pure (wpAny_pure hQ)
theorem cY {prog:Program}{w:World}{A:Around}{R:Result->Shared->Prop}{s:Shared}{elt target iter:Expr}{ifs:List Expr}{scope:Scope}{pos:Pos}{it acc:Value}{env:Env} (I:Nat->Shared->Prop)
  (turn:∀ n s,I n s->wpAny (model prog w) A (pyNext it) (λr s₁=>match r with
    | none=>R (.ok .next) s₁
    | some v=>wpAny (model prog w) A (letOwnedTupleGo target it v) (λ_ s₁'=>wpAny (model prog w) A (assign target env v) (λ_ s₂=>
      wpAny (model prog w) A (forIn ifs true λc r=>if r=true then do let ok <-isTrue c env (eval c env);pure (ForInStep.yield ok) else pure (ForInStep.yield r)) (λok s₃=>
       if ok=true then wpAny (model prog w) A (eval elt env) (λx s₄=>
        wpAny (model prog w) A (call (.builtin "list.append") [acc,x]) (λ_ s₅=>∃ m,m < n/\I m s₅) (λ_ _=>False) s₄) (λ_ _=>False) s₃
       else ∃ m,m < n/\I m s₃) (λ_ _=>False) s₂) (λ_ _=>False) s₁') (λ_ _=>False) s₁) (λ_ _=>False) s)
  (n:Nat) (h:I n s) :
  codeAny (model prog w) A (.compLoop (.ListComp elt [⟨target,iter,ifs,0⟩] scope pos) 0 it acc env) R s:=by
 refine codeAny_loop rfl I (λn s hI=>?_) n h
 show wpAny _ A ((compTurn (.ListComp elt [⟨target,iter,ifs,0⟩] scope pos) 0 it acc env).onRaise (λx=>do noteFrame x env;theTreesLotGoes x)) _ _ s
 refine wpAny_noted ?_
 rw [compTurn_list]
 refine wpAny_bind (wpAny_standAt (wpAny_bind (wpAny_mono (turn n s hI) (λr s₁ h₁=>?_) λ_ _ h'=>h'.elim)))
 cases r with
 | none=>exact wpAny_pure h₁
 | some v=>
  refine wpAny_bind (wpAny_mono h₁ (λ_ s₁' h₁'=>?_) λ_ _ h'=>h'.elim)
  refine wpAny_bind (wpAny_mono h₁' (λ_ s₂ h₂=>wpAny_bind (wpAny_mono h₂ (λok s₃ h₃=>?_) λ_ _ h'=>h'.elim)) λ_ _ h'=>h'.elim)
  cases ok with
  | false=>exact wpAny_pure ⟨rfl,h₃⟩
  | true=>
   exact wpAny_bind (wpAny_bind (wpAny_mono h₃ (λx s₄ h₄=>wpAny_bind (wpAny_mono h₄ (λ_ s₅ h₅=>wpAny_pure (wpAny_pure ⟨rfl,h₅⟩)) λ_ _ h'=>h'.elim)) λ_ _ h'=>h'.elim))
noncomputable def lcX (X:Cx) (scope:Scope) (cells:List (Str×Addr)) (Nc:List Str) (s:Shared) (H:Hp) (C:Addr) (fp:List Addr):Cx where
 prog:=X.prog
 w:=X.w
 K:=X.K
 mg:=X.mg
 base:=X.base
 A:=X.A
 N:=Nc
 s₀:=s
 H₀:=H
 env:=compEnvC scope cells C X.env
 outer:=X.stack
 stack:=X.stack
 ex:=fp
 fn:=λx=>scope.names.lookup x==some .cell
 calm:=X.calm
 pn:=[]
 xe:=λ_ _=>False
structure dJ (X:Cx) (scope:Scope) (Nc:List Str) (emb:St->St):Prop where
 kind:scope.kind=.function
 nd:(scope.names.map (·.1)).Nodup
 nN:Nc.Nodup
 free:∀ x ∈ scope.names,x.2=.free->X.env.kindOf x.1=some .cell\/X.env.kindOf x.1=some .free
 len:∀ σ:St,σ.length=X.N.length->(emb σ).length=Nc.length
 emb:∀ σ:St,σ.length=X.N.length->∀ (i:Nat) (x:Str) (v:V),Nc[i]?=some x->(emb σ)[i]?=some (some v)->∃ j:Nat,X.N[j]?=some x/\σ[j]?=some (some v)/\scope.names.lookup x=some .free
section
variable {X:Cx}{pins:List (Addr×Obj)}{σ:St}{H:Hp}{s:Shared}{scope:Scope}{Nc:List Str}{emb:St->St}
theorem dJ.clos (S:dJ X scope Nc emb) (ok:X.Ok):∀ x ∈ scope.names,x.2=.free->∃ c,X.env.cells.lookup x.1=some c:=λx hx h=>ok.has x.1 (S.free x hx h)
theorem pv (S:dJ X scope Nc emb) (I:Inv X pins σ H s) {fp:List Addr} (hf:∀ b ∈ fp,ig X pins H b) (hfo:∀ b ∈ fp,∃ o,s.heap.get? b=some o) {lo:Obj} (hlo:∀ v,lo.data≠.cell v) (hfr:lo.isFreed=false) :
  Inv (lcX X scope (cellsFrom (s.heap.objs.size+2) scope.names (bF X.env.cells scope.names [])) Nc s H (s.heap.objs.size+1) fp) [(s.heap.objs.size,lo)] (emb σ) H
   { s with heap:=pushCells ((s.heap.push lo).push { cls:=.type "dict",data:=.dict #[] }) scope.names }:=by
 have hsz2:((s.heap.push lo).push { cls:=.type "dict",data:=.dict #[] }).objs.size=s.heap.objs.size+2:=by rw [Heap.size_push,Heap.size_push]
 have hsz1:(s.heap.push lo).objs.size=s.heap.objs.size+1:=by rw [Heap.size_push]
 have hk:∀ b o,s.heap.get? b=some o->(pushCells ((s.heap.push lo).push { cls:=.type "dict",data:=.dict #[] }) scope.names).get? b=some o:=λb o e=>
  pushCells_keeps _ _ b o (Heap.get?_push_of_some _ (Heap.get?_push_of_some _ e))
 have has:=S.clos I.ok
 have cl_old:∀ {x:Str}{c:Addr},(bF X.env.cells scope.names []).lookup x=some c->X.env.cells.lookup x=some c/\(x,NameKind.free) ∈ scope.names:=λ{x c} h=>by
  rcases dR _ _ h with q | ⟨q1,q2⟩
  ·cases q
  ·obtain⟨c',hc'⟩:=has _ q1 rfl
   have hc'':X.env.cells.lookup x=some c':=hc'
   rw [hc''] at q2
   exact⟨by rw [hc'',q2];rfl,q1⟩
 have cells_cases:∀ {x:Str}{c:Addr},(cellsFrom (s.heap.objs.size+2) scope.names (bF X.env.cells scope.names [])).lookup x=some c->
   (X.env.cells.lookup x=some c/\(x,NameKind.free) ∈ scope.names)\/((x,NameKind.cell) ∈ scope.names/\s.heap.objs.size+2<=c):=λ{x c} h=>by
  rcases cK _ _ _ h with q | q
  ·exact .inl (cl_old q)
  ·exact .inr q
 have oldlt:∀ {x:Str}{c:Addr},X.env.cells.lookup x=some c->c < s.heap.objs.size:=λ{x c} h=>by
  obtain⟨v,z⟩:=I.cell x c h
  exact z.lt
 have fplt:∀ b ∈ fp,b < s.heap.objs.size:=λb hb=>by obtain⟨o,e⟩:=hfo b hb;exact Heap.lt_size e
 have accmem:∀ p ∈ bF X.env.cells scope.names [],∃ x,X.env.cells.lookup x=some p.2:=by
  have key:∀ (names:List (Str×NameKind)) (acc:List (Str×Addr)),(∀ x ∈ names,x.2=.free->∃ c,X.env.cells.lookup x.1=some c)->(∀ p ∈ acc,∃ x,X.env.cells.lookup x=some p.2)->∀ p ∈ bF X.env.cells names acc,∃ x,X.env.cells.lookup x=some p.2:=by
   intro names
   induction names with
   | nil=>intro acc _ h;exact h
   | cons z r ih=>
    intro acc hn h
    obtain⟨m,k⟩:=z
    unfold bF
    by_cases hk:(k==.free)=true
    ·rw [if_pos hk]
     refine ih _ (λx hx=>hn x (List.mem_cons_of_mem _ hx)) λp hp=>?_
     rcases List.mem_cons.mp hp with e | hp
     ·obtain⟨c,hc⟩:=hn _ List.mem_cons_self (beq_iff_eq.mp hk)
      have hc':X.env.cells.lookup m=some c:=hc
      exact⟨m,by rw [e,hc'];rfl⟩
     ·exact h p hp
    ·rw [if_neg hk]
     exact ih _ (λx hx=>hn x (List.mem_cons_of_mem _ hx)) h
  exact key _ _ has λp hp=>nomatch hp
 refine⟨⟨I.ok.mod,S.kind,I.ok.glob,I.ok.blt,Nat.le_succ _,λx y c h1 h2=>?_,λx hx=>?_,λx c hx h=>?_,I.ok.hd,I.ok.frames,.inl rfl,λb hb=>?_,I.bs,Nat.le_trans I.ok.bsz I.sz,λb o e hb=>?_,λb hb=>?_,I.stack,I.stkFree⟩,
  rfl,I.bare,Un.kept hk,⟨_,(Heap.Ns.new (s.heap.push lo) (.type "dict")).keeps (pushCells_keeps _ _) |> λq=>by rw [hsz1] at q;exact q,λi x v h1 h2 _=>?_⟩,λx c h=>?_,I.hok.fresh (Nat.le_succ _),λx c h=>?_,λp hp=>?_,I.hok.kept hk,S.len σ I.len⟩
 ·-- inj
  have h1':(cellsFrom (s.heap.objs.size+2) scope.names (bF X.env.cells scope.names [])).lookup x=some c:=h1
  have h2':(cellsFrom (s.heap.objs.size+2) scope.names (bF X.env.cells scope.names [])).lookup y=some c:=h2
  rcases cells_cases h1' with⟨q1,_⟩ | ⟨_,q1⟩
  ·rcases cells_cases h2' with⟨q2,_⟩ | ⟨_,q2⟩
   ·exact I.ok.inj x y c q1 q2
   ·exact absurd (Nat.lt_of_lt_of_le (Nat.lt_succ_of_lt (Nat.lt_succ_of_lt (oldlt q1))) q2) (Nat.lt_irrefl _)
  ·refine lI scope.names _ _ (λp hp=>?_) h1' h2' q1
   obtain⟨z,hz⟩:=accmem p hp
   exact Nat.lt_succ_of_lt (Nat.lt_succ_of_lt (oldlt hz))
 ·-- has
  have hx':(relabel scope X.env).names.lookup x=some .cell\/(relabel scope X.env).names.lookup x=some .free:=hx
  have:∃ k0,scope.names.lookup x=some k0/\(k0=.cell\/k0=.free):=by
   rcases hx' with q | q
   ·obtain⟨k0,h1,h2⟩:=cD q
    exact⟨k0,h1,h2.elim (λe=>.inl e.symm) λe=>.inr e.1⟩
   ·obtain⟨k0,h1,h2⟩:=cD q
    exact⟨k0,h1,h2.elim (λe=>.inr e.symm) λe=>by cases e.2⟩
  obtain⟨k0,h1,h2⟩:=this
  refine Option.isSome_iff_exists.mp (PySem.W.cellsFrom_some scope.names _ _ ?_)
  rcases h2 with rfl | rfl
  ·exact .inl h1
  ·exact .inr (dI _ _ (.inl (PySem.mem_of_lookup h1)))
 ·-- cab
  have hx':scope.names.lookup x=some .cell:=beq_iff_eq.mp hx
  rcases cells_cases h with⟨_,q⟩ | ⟨_,q⟩
  ·have:=dk S.nd q
   rw [hx'] at this;cases this
  ·exact Nat.le_trans (Nat.le_add_right _ 2) q
 ·-- exf
  refine⟨Nat.ne_of_lt (Nat.lt_succ_of_lt (fplt b hb)),λx c h=>?_⟩
  rcases cells_cases h with⟨q,_⟩ | ⟨_,q⟩
  ·exact (hf b hb).2.2.2.2.1 x c q
  ·intro e
   exact absurd (Nat.lt_of_lt_of_le (Nat.lt_succ_of_lt (Nat.lt_succ_of_lt (fplt b hb))) (e ▸ q)) (Nat.lt_irrefl _)
 ·-- noex
  have hb':b ∈ fp:=hb
  rcases (hf b hb').2.2.2.1 with q | q
  ·exact I.ok.noex b o e q
  ·exact absurd (Nat.lt_of_lt_of_le (Heap.lt_size (I.ok.bs b o e).1) q) (Nat.lt_irrefl _)
 ·-- exfs
  intro hb2
  rcases List.mem_cons.mp (I.stkSub b hb2) with q | q
  ·exact (hf b hb).2.1 q
  ·exact (hf b hb).2.2.1 q
 ·-- loc
  obtain⟨j,e1,e2,e3⟩:=S.emb σ I.len i x v h1 h2
  have kx:=S.free (x,.free) (PySem.mem_of_lookup e3) rfl
  have kx':X.env.kindOf x=some .cell\/X.env.kindOf x=some .free:=kx
  obtain⟨m,hn,hl⟩:=I.loc
  obtain⟨u,ru,lk⟩:=hl j x v e1 e2 (.inr kx')
  refine⟨u,ru,.inr ⟨?_,?_⟩⟩
  ·rcases eE (env:=X.env) e3 with q | q
   ·exact .inr q
   ·exact .inl q
  ·rcases lk with⟨z,_⟩ | ⟨_,c,hc,hcell⟩
   ·rcases kx' with q | q<;>(rw [z] at q;cases q)
   ·obtain⟨c',hc'⟩:=Option.isSome_iff_exists.mp (PySem.W.cellsFrom_some scope.names (s.heap.objs.size+2) (bF X.env.cells scope.names []) (x:=x) (.inr (dI _ _ (.inl (PySem.mem_of_lookup e3)))))
    rcases cells_cases hc' with⟨q,_⟩ | ⟨q,_⟩
    ·rw [hc] at q
     cases q
     exact⟨c,hc',hcell.keeps hk⟩
    ·have:=dk S.nd q
     rw [e3] at this;cases this
 ·-- cell
  have h':(cellsFrom (s.heap.objs.size+2) scope.names (bF X.env.cells scope.names [])).lookup x=some c:=h
  have:=dc scope.names ((s.heap.push lo).push { cls:=.type "dict",data:=.dict #[] }) (bF X.env.cells scope.names []) (λp hp=>by
   obtain⟨z,hz⟩:=accmem p hp
   obtain⟨v,q⟩:=I.cell z p.2 hz
   exact⟨v,q.keeps λb o e=>Heap.get?_push_of_some _ (Heap.get?_push_of_some _ e)⟩) (x,c) (by rw [hsz2];exact PySem.mem_of_lookup h')
  exact this
 ·-- freeC
  rcases cells_cases h with⟨q,_⟩ | ⟨_,q⟩
  ·exact I.freeC x c q
  ·exact I.hok.fresh (Nat.le_trans (Nat.le_add_right _ 2) q)
 ·-- pin
  have hp':p=(s.heap.objs.size,lo):=by
   have:p ∈ ([]:List (Addr×Obj))++[(s.heap.objs.size,lo)]:=hp
   simpa using this
  subst hp'
  refine⟨pushCells_keeps _ _ _ _ (Heap.get?_push_of_some _ (Heap.get?_push_size _ hfr)),I.hok.fresh (Nat.le_refl _),Nat.ne_of_lt (Nat.lt_succ_self _),λhb=>?_,hlo⟩
  rcases List.mem_cons.mp (I.stkSub _ hb) with q | q
  ·exact absurd I.lt (by rw [<-q];exact Nat.lt_irrefl _)
  ·exact I.nofs (Nat.le_refl _) q
end
end L2
namespace L2
open PySem PySem.Spec PyProof.Rows
noncomputable def PTs (X:Cx) (ifs:List Expr) (t:TT):Prop:=
 ∀ (pins:List (Addr×Obj)) (s:Shared) (σ:St) (H:Hp) (Q:Bool->Hp->Prop),Inv X pins σ H s->t σ H Q->
  wpAny (model X.prog X.w) X.A (forIn ifs true λc r=>if r=true then do let ok <-isTrue c X.env (eval c X.env);pure (ForInStep.yield ok) else pure (ForInStep.yield r)) (TP X pins σ Q) X.xe s
noncomputable def BI:TT:=λ_ H Q=>Q true H
theorem wR {X:Cx}:PTs X [] BI:=λ_ _ _ H _ I h=>wpAny_tests_nil ⟨H,I,h⟩
theorem xj {X:Cx}{c:Expr}{t:TT} (hc:PT X c t):PTs X [c] t:=λpins s σ H Q I h=>wpAny_tests_one (hc pins s σ H Q I h)
noncomputable def Sub (σ σ':St):Prop:=σ.length=σ'.length/\∀ (i:Nat) (v:V),σ[i]?=some (some v)->σ'[i]?=some (some v)
noncomputable def Ar (J:It) (σe:St) (g:TG) (tt:TT) (te:TE) (H1:Hp) (Q:VK):Prop:=∃ W:Nat->Nat->List V->Hp->Prop,(∃ m,W 0 m [] H1)/\∀ i m ys H,W i m ys H->
 (J.stop i H/\∀ D,H D=none->Q (.ref D) (upd H D (.lst ys)))\/
 (J.go i H/\ys.length < sizeLine/\∃ N:List V->Hp->Prop,(∀ ys' H',N ys' H'->∃ m',m' < m/\W (i+1) m' ys' H')/\∀ x H',J.yld i H x H'->g x σe H' λσ2 H2=>Sub σe σ2/\tt σ2 H2 λb H3=>if b=true then te σ2 H3 λv H4=>N (ys++[v]) H4 else N ys H3)
noncomputable def tLc (emb:St->St) (wi:TI) (g:TG) (tt:TT) (te:TE):TE:=λσ H Q=>wi σ H λJ H1=>Ar J (emb σ) g tt te H1 Q
section
variable {X:Cx}{scope:Scope}{Nc:List Str}{emb:St->St}{elt iter tg:Expr}{ifs:List Expr}{pos:Pos}{wi:TI}{g:TG}{tt:TT}{te:TE}
theorem AI (S:dJ X scope Nc emb) (hc:X.calm=true) (hi:PI X tg iter wi)
  (hg:∀ cells s H C fp,PG (lcX X scope cells Nc s H C fp) tg g) (ht:∀ cells s H C fp,PTs (lcX X scope cells Nc s H C fp) ifs tt) (he:∀ cells s H C fp,PE (lcX X scope cells Nc s H C fp) elt te)
  (hs:∀ x,foldedSetIterable iter X.env x=pure x:=by intro _;rfl):PE X (.ListComp elt [⟨tg,iter,ifs,0⟩] scope pos) (tLc emb wi g tt te):=by
 intro pins s σ H Q I h
 rw [eval_ListComp]
 refine wpAny_comprehension_free (use:=none) rfl hs (gq (S.clos I.ok)) S.kind (λx hx hl=>dk S.nd (by rw [<-hl];exact hx)) ?_
 refine thn (hi pins s σ H _ I h) λv s1 h1=>thn h1 λitv s2 h2=>?_
 obtain⟨it,fp,tn,J,H2,e,I2,T,st2,f2,W,⟨m0,w0⟩,turn⟩:=h2
 subst e
 refine wpAny_newObj_type (h8 ?_)
 rw [show (s2.heap.push { cls:=.type "list",dict:=none,data:=.seq ([]:List Value).toArray }).objs.size=s2.heap.objs.size+1 from Heap.size_push ..]
 generalize hD:s2.heap.objs.size=D
 generalize hlo:({ cls:=.type "list",dict:=none,data:=.seq ([]:List Value).toArray }:Obj)=lo
 have fplt:∀ b ∈ fp,b < s2.heap.objs.size:=λb hb=>by obtain⟨o,e,_⟩:=T.obj _ _ st2 b hb;exact Heap.lt_size e
 have I3:=pv (lo:=lo) S I2 f2 (λb hb=>by obtain⟨o,e,_⟩:=T.obj _ _ st2 b hb;exact⟨o,e⟩) (by rw [<-hlo];intro v z;cases z) (by rw [<-hlo];rfl)
 rw [hD] at I3
 generalize hcells:cellsFrom (D+2) scope.names (bF X.env.cells scope.names [])=cells at I3
 generalize hX':lcX X scope cells Nc s2 H2 (D+1) fp=X' at I3
 have hfpX:∀ {H':Hp}{ps:List (Addr×Obj)},(∀ b ∈ fp,H' b=none)->(∀ p ∈ ps,p.1=D)->∀ b ∈ fp,ig X' ps H' b:=λ{H' ps} hn hps b hb=>by
  have ok:=I3.ok
  refine⟨hn b hb,?_,?_,.inl (by rw [<-hX'];exact hb),?_,λp hp=>?_⟩
  ·exact (ok.exf b (by rw [<-hX'];exact hb)).1
  ·exact ok.exfs b (by rw [<-hX'];exact hb)
  ·exact (ok.exf b (by rw [<-hX'];exact hb)).2
  ·have hp':p ∈ ([]:List (Addr×Obj))++ps:=by rw [<-hX'] at hp;exact hp
   have e:p.1=D:=hps p (by simpa using hp')
   rw [e,<-hD]
   exact Nat.ne_of_gt (fplt b hb)
 have Dex:D ∈ X'.ex\/X'.s₀.heap.objs.size<=D:=.inr (by rw [<-hX',<-hD];exact Nat.le_refl _)
 have Dloc:D≠X'.env.locals:=by rw [<-hX'];exact Nat.ne_of_lt (Nat.lt_succ_self _)
 have pD:=I3.pin (D,lo) (by rw [<-hX'];exact List.mem_append_right _ List.mem_cons_self)
 have Dfs:D ∉ X'.fs:=pD.2.2.2.1
 have Dcell:∀ x c,X'.env.cells.lookup x=some c->c≠D:=λx c hc' e=>by
  obtain⟨v,o,ho,hd⟩:=I3.cell x c hc'
  rw [e,pD.1] at ho
  cases ho
  exact pD.2.2.2.2 v hd
 -- the loop
 have loop:∀ s3:Shared,s3={ s2 with heap:=pushCells ((s2.heap.push lo).push { cls:=.type "dict",data:=.dict #[] }) scope.names }->
   codeAny (model X.prog X.w) X.A (.compLoop (.ListComp elt [⟨tg,iter,ifs,0⟩] scope pos) 0 (.ref it) (.ref D) (compEnvC scope cells (D+1) X.env))
    (compPost (model X.prog X.w) X.A X.xe none (EP X pins σ Q) (.ref D) (D+1)) s3:=by
  rintro s3 rfl
  refine cY (λn s'=>∃ i ys its k H',Inv X' [(D,{ cls:=.type "list",data:=.seq its.toArray k })] (emb σ) H' s'/\ay ys its/\tn i s'.heap/\(∀ b ∈ fp,H' b=none)/\ys.length<=sizeLine/\W i n ys H') ?_ m0
   ⟨0,[],[],0,H2,?_,.nil,?_,λb hb=>(f2 b hb).1,Nat.zero_le _,w0⟩
  ·rintro n s4 ⟨i,ys,its,k,H4,I4,rv,st4,fr4,hlen,w4⟩
   have hps:∀ p ∈ [(D,({ cls:=.type "list",data:=.seq its.toArray k }:Obj))],p.1=D:=λp hp=>by
    have:=List.mem_singleton.mp hp
    rw [this]
   rcases turn i n ys H4 w4 with⟨stop,qn⟩ | ⟨go,hlt,N,hN,step⟩
   ·-- the end
    have TD:=T.done X' (by rw [<-hX'];rfl) (by rw [<-hX'];rfl) (by rw [<-hX'];rfl) (by rw [<-hX'];exact hc) i _ s4 (emb σ) H4 (λ_ _=>False) I4 (hfpX fr4 hps) st4 stop
    rw [show X'.A=X.A by rw [<-hX'];rfl] at TD
    refine thn TD λr s5 ⟨hr,I5⟩=>?_
    subst hr
    obtain⟨m5,hn5,_⟩:=id I5.loc
    have eC:X'.env.locals=D+1:=by rw [<-hX'];rfl
    rw [eC] at hn5
    refine⟨m5,hn5,λh' hsb=>?_⟩
    have pD5:=I5.pin (D,{ cls:=.type "list",data:=.seq its.toArray k }) (by rw [<-hX'];exact List.mem_append_right _ List.mem_cons_self)
    have neC:∀ b u,H4 b=some u->b≠D+1:=λb u e z=>by
     have:=I5.free
     rw [eC,<-z,e] at this
     cases this
    have hD4:H4 D=none:=pD5.2.1
    have un:=I5.base
    have un':Un (frs X.stack) fp H2 H4 s2.heap s5.heap:=by rw [<-hX'] at un;exact un
    have old_ne:∀ b o,s2.heap.get? b=some o->b≠D/\b≠D+1:=λb o e=>by
     have q:=Heap.lt_size e
     rw [hD] at q
     exact⟨Nat.ne_of_lt q,Nat.ne_of_lt (Nat.lt_succ_of_lt q)⟩
    have h2D:H2 D=none:=by rw [<-hD];exact I2.fresh
    have hok':HOk X.prog X.w H4 h':=λb u e=>by
     have ob:bP X.prog X.w H4 s5.heap b u:=by have:=I5.hok b u e;rw [<-hX'] at this;exact this
     refine ob.stay (λc v hcv q=>(hsb.2 c ?_).trans q) (λ_ q=>q) λ_ _ q=>q
     rcases hcv with z | z
     ·rw [z];exact neC b u e
     ·exact neC c _ z
    have hokD:HOk X.prog X.w (upd H4 D (.lst ys)) h':=λb u e=>by
     by_cases hb:b=D
     ·subst hb
      rw [aP] at e
      cases e
      exact⟨hlen,its,k,rv,(hsb.2 b (Nat.ne_of_lt (Nat.lt_succ_self _))).trans pD5.1⟩
     ·rw [aK hb] at e
      refine (hok' b u e).stay (λ_ _ _ q=>q) (λc q=>?_) λc z q=>?_
      all_goals first
       | (rw [aK (aN q hD4)];exact q)
       | (rw [aK (aN z hD4)];exact z)
    refine⟨.ref D,upd H4 D (.lst ys),?_,rfl,qn D hD4⟩
    refine I2.call' (s':={ s5 with heap:=h' }) (ch:=fp) ?_ ⟨λb o e nb hb hx=>?_,λb o e nb hb hx=>?_,λb o e nb hx=>?_,λb o e hx=>?_,λb xs e=>?_,λb o u e=>?_,λb ps e=>?_⟩ hokD I5.bare (λb hb=>?_)
    ·have:=I5.os
     rw [<-hX'] at this
     exact this
    ·exact (hsb.2 b (old_ne b o e).2).trans (un'.keep b o e nb hb hx)
    ·obtain⟨sl,q⟩:=un'.slot b o e nb hb hx
     exact⟨sl,(hsb.2 b (old_ne b o e).2).trans q⟩
    ·rw [aK (old_ne b o e).1]
     exact un'.free b o e nb hx
    ·obtain⟨o',q⟩:=un'.there b o e hx
     exact⟨o',(hsb.2 b (old_ne b o e).2).trans q⟩
    ·rw [aK (aN e h2D)]
     exact un'.tups b xs e
    ·rw [aK (aN e h2D)]
     exact un'.frzs b o u e
    ·obtain⟨m,q⟩:=un'.tbls b ps e
     exact⟨m,by rw [aK (aN e h2D)];exact q⟩
    ·obtain⟨q0,q1,q2,q3,q4,q5⟩:=f2 b hb
     exact⟨q3,q1,q4,q5⟩
   ·-- a turn
    have hA:X'.A=X.A:=by rw [<-hX'];rfl
    have hP:X'.prog=X.prog:=by rw [<-hX'];rfl
    have hw:X'.w=X.w:=by rw [<-hX'];rfl
    have hE:X'.env=compEnvC scope cells (D+1) X.env:=by rw [<-hX'];rfl
    have hxe:X'.xe=λ_ _=>False:=by rw [<-hX'];rfl
    have TI':=T.item X' hP hw (by rw [<-hX'];rfl) (by rw [<-hX'];exact hc) i _ s4 (emb σ) H4 (λ_ _=>False) I4 (hfpX fr4 hps) st4 go
    rw [hA] at TI'
    refine thn TI' λr s5 ⟨u,hr,h5⟩=>?_
    subst hr
    refine thn h5 λ_ s6 ⟨x,H6,I6,r6,y6,st6,fr6⟩=>?_
    have I6':=I6.pinned (hfpX fr6 hps) (T.obj _ _ st6)
    have G:=hg cells s2 H2 (D+1) fp
    have TT':=ht cells s2 H2 (D+1) fp
    have EE:=he cells s2 H2 (D+1) fp
    rw [hX'] at G TT' EE
    have G':=G _ s6 (emb σ) H6 x u _ I6' r6 (step x H6 y6)
    rw [hA,hP,hw,hE,hxe] at G'
    refine thn G' λ_ s7 ⟨σ7,H7,I7,sb7,q7⟩=>?_
    have T':=TT' _ s7 σ7 H7 _ I7 q7
    rw [hA,hP,hw,hE,hxe] at T'
    refine thn T' λok s8 ⟨H8,I8,q8⟩=>?_
    -- what is pinned
    have pin_fp:∀ {σ9:St}{H9:Hp}{s9:Shared},Inv X' ([(D,({ cls:=.type "list",data:=.seq its.toArray k }:Obj))]++iL fp s6.heap) σ9 H9 s9->tn (i+1) s9.heap/\∀ b ∈ fp,H9 b=none:=λ{σ9 H9 s9} I9=>
     ⟨T.keep _ _ _ st6 λb hb o e=>(I9.pin (b,o) (List.mem_append_right _ (List.mem_append_right _ (cq hb e)))).1,λb hb=>by
      obtain⟨o,e,_⟩:=T.obj _ _ st6 b hb
      exact (I9.pin (b,o) (List.mem_append_right _ (List.mem_append_right _ (cq hb e)))).2.1⟩
    cases ok with
    | false=>
     rw [if_neg (by decide)] at q8
     rw [if_neg (by decide)]
     obtain⟨m',hm,w8⟩:=hN _ _ q8
     exact⟨m',hm,i+1,ys,its,k,H8,I8.unpinned.weak sb7.1 sb7.2,rv,(pin_fp I8).1,(pin_fp I8).2,hlen,w8⟩
    | true=>
     rw [if_pos rfl] at q8
     rw [if_pos rfl]
     have E':=EE _ s8 σ7 H8 _ I8 q8
     rw [hA,hP,hw,hE,hxe] at E'
     refine thn E' λy s9 ⟨v9,H9,I9,r9,n9⟩=>?_
     obtain⟨m',hm,w9⟩:=hN _ _ n9
     have pD9:=I9.pin (D,{ cls:=.type "list",data:=.seq its.toArray k }) (List.mem_append_right _ (List.mem_append_left _ List.mem_cons_self))
     have hl:=rv.length
     have I9n:Inv X' [] σ7 H9 s9:=I9.pins_of λp hp=>nomatch hp
     refine call_meets F.slot_list_append ⟨_,pD9.1,rfl⟩ F.entry_list_append (F.args_list_append_2 _ _) (PySem.list_append D its.toArray k y (by rw [List.size_toArray];lia)) ⟨pD9.1,?_⟩
     have up:∃ k':Nat,(s9.heap.update D (Obj.mapSeq λxs=>xs.push y)).get? D=some { cls:=.type "list",data:=.seq (its++[y]).toArray k' }:=by
      have q:=PySem.IsL.update pD9.1 (λxs:Array Value=>xs.push y)
      simp only [List.push_toArray] at q
      exact⟨_,q⟩
     obtain⟨k',up⟩:=up
     have hoth:∀ b o,b≠D->s9.heap.get? b=some o->(s9.heap.update D (Obj.mapSeq λxs=>xs.push y)).get? b=some o:=λb o hb e=>(Heap.get?_update_other s9.heap _ (Ne.symm hb)).trans e
     have I10:=I9n.turned (t':=s9.toks) hoth pD9.2.1 Dloc Dex Dcell (λp hp=>absurd (show p ∈ ([]:List (Addr×Obj)) by rw [<-hX'] at hp;exact hp) (by simp))
     refine⟨m',hm,i+1,ys++[v9],its++[y],k',H9,(I10.weak sb7.1 sb7.2).pins_of (λp hp=>?_),rv.append (.cons r9 .nil),T.keep _ _ _ (pin_fp I9).1 (λb hb o e=>hoth b o (by rw [<-hD];exact Nat.ne_of_lt (fplt b hb)) e),(pin_fp I9).2,?_,w9⟩
     ·have:=List.mem_singleton.mp hp
      subst this
      exact⟨up,pD9.2.1,Dloc,Dfs,λv z=>by cases z⟩
     ·rw [List.length_append,List.length_singleton]
      lia
  ·have q:lo={ cls:=.type "list",data:=.seq ([]:List Value).toArray 0 }:=hlo.symm
   rw [<-q]
   exact I3
  ·exact T.keep _ _ _ st2 λb hb o e=>pushCells_keeps _ _ b o (Heap.get?_push_of_some _ (Heap.get?_push_of_some _ e))
 refine codeAny_compStart_list ?_ ?_
 ·exact loop _ rfl
 ·refine T.self X.A 0 _ _ _ (T.keep _ _ _ st2 λb hb o e=>pushCells_keeps _ _ b o (Heap.get?_push_of_some _ (Heap.get?_push_of_some _ e))) ?_
  exact loop _ rfl
end
end L2
namespace L2
open PySem PySem.Spec PyProof.Rows
open PySem.AutoSeq1 (wpAny_loadPart')
section
variable {prog:Program}{w:World}{A:Around}{E:Value->Shared->Prop}{s:Shared}
end
section
variable {X:Cx}{pins:List (Addr×Obj)}{σ:St}{H:Hp}{s:Shared}{h':Heap}{fp:List Addr}
theorem ig.ch (hf:∀ b ∈ fp,ig X pins H b):∀ b ∈ fp,(b ∈ X.ex\/X.s₀.heap.objs.size<=b)/\b≠X.env.locals/\(∀ x c,X.env.cells.lookup x=some c->c≠b)/\∀ p ∈ X.pn++pins,p.1≠b:=λb hb=>
 let ⟨_,f1,_,f3,f4,f5⟩:=hf b hb
 ⟨f3,f1,f4,f5⟩
theorem Inv.turns {t':Nat} (I:Inv X pins σ H s) (hf:∀ b ∈ fp,ig X pins H b) (k:∀ b o,b ∉ fp->s.heap.get? b=some o->h'.get? b=some o):Inv X pins σ H { s with heap:=h',toks:=t' }:=by
 have nit:∀ b u,H b=some u->b ∉ fp:=λb u e z=>by have:=(hf b z).1;rw [e] at this;cases this
 refine I.step (g':=s.gens) (d':=s.drawn) (ch:=fp) (ig.ch hf) (λb o _ _ hc e _=>k b o hc e) (λb o _ _ hc e _=>⟨o.slots,k b o hc e⟩) (λ_ _ _ _ n=>n)
  (λb o hc e=>⟨o,k b o hc e⟩) (λ_ _ e=>e) (λ_ _ _ e=>e) (λb ps e=>⟨#[],by rw [e];simp⟩) (λm hm=>?_) (λb u e=>?_) I.bare
 ·obtain⟨o,es,ep,ho,r⟩:=hm
  exact⟨o,es,ep,k _ o (λz=>(hf _ z).2.1 rfl) ho,r⟩
 ·refine (I.hok b u e).stay (λc v hc q=>k c v ?_ q) (λ_ q=>q) λ_ _ q=>q
  rcases hc with z | z
  ·rw [z];exact nit b u e
  ·exact nit c _ z
end
end L2
namespace L2
open PySem PySem.Spec PyProof.Rows
section
variable {X:Cx}
theorem qd {ns:List Int}:∀ {us:List Value},ay (ns.map V.int) us->∃ xs:Array (Int×Tok),us.toArray=intItems xs/\xs.toList.map (·.1)=ns:=by
 induction ns with
 | nil=>intro us r;cases r;exact⟨#[],by simp [intItems],rfl⟩
 | cons n ns ih=>
  intro us r
  rw [List.map_cons] at r
  cases r with
  | cons r rr=>
   obtain⟨t,rfl⟩:=r
   obtain⟨xs,e,e2⟩:=ih rr
   refine⟨#[(n,t)]++xs,?_,by simp [e2]⟩
   apply Array.toList_inj.mp
   have e':=congrArg Array.toList e
   simp [intItems] at e' ⊢
   exact e'
theorem vc:cW X (.builtin "sum") (λxs H Q=>X.calm=true/\∃ (a:Addr) (ns:List Int),xs=[.ref a]/\SqL X.K H a (ns.map V.int)/\Q (.int ns.sum) H):=by
 intro pins s σ H xs us Q I rv h
 obtain⟨hc,a,ns,rfl,hq,q⟩:=h
 cases rv with
 | cons r rr=>
  cases rr
  cases r
  obtain⟨its,rv,p,hz⟩:=I.list hq
  obtain⟨ps,e1,e2⟩:=qd rv
  have hl:=p.isList
  rw [e1] at hl
  refine sum_intListG (I.ok.hd hc) hl λh' tk t' hk=>?_
  refine⟨.int ns.sum,H,I.kept (t':=tk) hk,⟨t',?_⟩,q⟩
  rw [preSum_eq,List.take_of_length_le (by simp),e2]
end
end L2
namespace L2
open PySem PySem.Spec PyProof.Rows
noncomputable def eU (k:Nat) (js:List Nat) (σ:St):St:=List.replicate k none++js.map λj=>(σ[j]?).getD none
noncomputable def Be (scope:Scope) (ns:List (Str×NameKind)) (N Nc:List Str) (k:Nat) (js:List Nat):Bool:=
 decide ((scope.names.map (·.1)).Nodup) && decide Nc.Nodup && decide (Nc.length=k+js.length) &&
 (scope.names.all λx=>x.2 != .free || ns.lookup x.1==some .cell || ns.lookup x.1==some .free) &&
 ((List.range js.length).all λi=>match Nc[k+i]?,js[i]? with | some x,some j=>N[j]?==some x && scope.names.lookup x==some .free | _,_=>false)
theorem d9 {X:Cx}{scope:Scope} (ns:List (Str×NameKind)) (N Nc:List Str) (k:Nat) (js:List Nat) (hns:X.env.scope.names=ns) (hN:X.N=N) (hk:scope.kind=.function) (h:Be scope ns N Nc k js=true):dJ X scope Nc (eU k js):=by
 unfold Be at h
 simp only [Bool.and_eq_true,decide_eq_true_eq] at h
 obtain⟨⟨⟨⟨h1,h2⟩,h3⟩,h4⟩,h5⟩:=h
 refine⟨hk,h1,h2,λx hx hf=>?_,λσ _=>?_,λσ _ i x v e1 e2=>?_⟩
 ·have:=List.all_eq_true.mp h4 x hx
  rw [hf] at this
  simp only [Bool.or_eq_true,beq_iff_eq,bne_self_eq_false,Bool.false_eq_true,false_or] at this
  unfold Env.kindOf
  rw [hns]
  exact this
 ·unfold eU
  rw [List.length_append,List.length_replicate,List.length_map,h3]
 ·unfold eU at e2
  by_cases hi:i < k
  ·rw [List.getElem?_append_left (by simpa using hi),List.getElem?_replicate,if_pos hi] at e2
   cases e2
  ·rw [List.getElem?_append_right (by simpa using hi),List.length_replicate,List.getElem?_map] at e2
   cases ej:js[i - k]? with
   | none=>rw [ej] at e2;cases e2
   | some j=>
    rw [ej] at e2
    have hlt:=(List.getElem?_eq_some_iff.mp ej).1
    have:=List.all_eq_true.mp h5 (i - k) (List.mem_range.mpr hlt)
    rw [show k+(i - k)=i by lia,e1,ej] at this
    simp only [Bool.and_eq_true,beq_iff_eq] at this
    refine⟨j,by rw [hN];exact this.1,?_,this.2⟩
    have e3:(σ[j]?).getD none=some v:=Option.some.inj e2
    cases eq:σ[j]? with
    | none=>rw [eq] at e3;cases e3
    | some o=>rw [eq] at e3;rw [show o=some v from e3]
noncomputable def AS (names ns:List (Str×NameKind)):List (Str×NameKind):=names.map λx=>if (x.2==NameKind.free && ns.lookup x.1==some .cell) then (x.1,.cell) else x
theorem rp {X:Cx}{scope:Scope}{cells:List (Str×Addr)}{Nc:List Str}{s:Shared}{H:Hp}{C:Addr}{fp:List Addr}{ns:List (Str×NameKind)} (hk:X.env.scope.kind=.function) (hns:X.env.scope.names=ns) :
  (lcX X scope cells Nc s H C fp).env.scope.names=AS scope.names ns:=by
 show (scope.names.map _)=_
 unfold AS
 congr 1
 funext x
 obtain⟨n,k⟩:=x
 show (if (k==.free && X.env.scope.kind==.function && X.env.kindOf n==some .cell)=true then (n,NameKind.cell) else (n,k))=(if (k==.free && ns.lookup n==some .cell)=true then (n,NameKind.cell) else (n,k))
 unfold Env.kindOf
 rw [hk,hns,show (ScopeKind.function==ScopeKind.function)=true from rfl,Bool.and_true]
section
variable {σe tl:St}{tt:TT}{te:TE}{H:Hp}{Q:VK}
end
section
variable {X:Cx}
theorem wx:OpR X (binaryOp .Mult) (rI IntMulOk λi j=>.int (i*j)):=opI λ_ _ _ _ _ _ _ hc q=>mul_int q hc
end
theorem br.new {H:Hp}{p:Addr} (h:H p=none) (o:HO):br H (upd H p o):=λb u q=>by rw [aK (aN q h)];exact q
end L2
namespace L2
open PySem PySem.Spec PyProof.Rows
theorem eJ {n:Nat} (h:n<=1000):n<=sizeLine:=Nat.le_of_lt (sC h)
end L2
namespace L2
open PySem PySem.Spec PyProof.Rows
theorem p18:nP 10 18:=⟨by decide,by decide,by decide⟩
end L2
namespace L2
open PySem PySem.Spec PyProof.Rows
open PySem.AutoSeq1 (wpAny_loadPart')
theorem uk (l:Addr) (items:Array Value) (n:Nat) (dct:Option Addr) (sl:Array (Option Value)) (u:Tok) :
  Meets (Builtin.«tuple.__mul__» ⟨[.ref l,.int 1 u],[]⟩) (λ_ R s=>s.heap.get? l=some { cls:=.type "tuple",dict:=dct,data:=.seq items n,slots:=sl }/\R (.ok (.ret (.ref l))) s):=
 .of_wp λprog w A R s h=>by
  obtain⟨hp,g,d,tk,os⟩:=s;obtain⟨hl,h⟩:=h
  wp_walk using wpAny_loadPart' hl
  exact⟨_,rfl,h⟩
theorem t7 (l:Addr) (items:Array Value) (n:Nat) (dct:Option Addr) (sl:Array (Option Value)) (x:Int) (u:Tok) (h2:2<=x) (h3:x < 1000) (he:items.isEmpty=false) (hz:items.size<=1000)
  (hsz:((List.replicate x.toNat items).foldl (λx1 x2=>x1++x2) #[]).size<=sizeLine) :
  Meets (Builtin.«tuple.__mul__» ⟨[.ref l,.int x u],[]⟩) (λ_ R s=>s.heap.get? l=some { cls:=.type "tuple",dict:=dct,data:=.seq items n,slots:=sl }/\
   R (.ok (.ret (.ref s.heap.objs.size))) { s with heap:=s.heap.push { cls:=.type "tuple",data:=.seq ((List.replicate x.toNat items).foldl (λx1 x2=>x1++x2) #[]) } }):=
 .of_wp λprog w A R s h=>by
  obtain⟨hp,g,d,tk,os⟩:=s;obtain⟨hl,h⟩:=h
  have c1:(x < -(2 ^ 63) || x>=2 ^ 63)=false:=by simp;lia
  have c2:(items.isEmpty || x==1)=false:=by rw [he];simp;lia
  have c3:(x<=0 || items.isEmpty)=false:=by rw [he];simp;lia
  have hpr:(items.size:Int)*x<=1000000:=by
   have a1:(items.size:Int)*x<=1000*x:=Int.mul_le_mul_of_nonneg_right (by lia) (by lia)
   lia
  have c4:¬ ((items.size:Int)*x > (2 ^ 63 - 1) / 8):=by lia
  have c5:Builtin.Tuple.tupleTooMany ((items.size:Int)*x)=false:=by
   unfold Builtin.Tuple.tupleTooMany
   exact decide_eq_false (by have:(sizeLine:Nat)=16777216:=rfl
                             lia)
  wp_walk using wpAny_loadPart' hl
  refine wpAny_ite_false (decide_eq_false (by rw [c1];exact Bool.false_ne_true)) ?_
  wp_walk using wpAny_loadPart' hl
  refine wpAny_ite_false (decide_eq_false (by rw [c2];exact Bool.false_ne_true)) ?_
  wp_walk using wpAny_loadPart' hl
  refine wpAny_ite_false (decide_eq_false (by rw [c3];exact Bool.false_ne_true)) ?_
  wp_walk using wpAny_loadPart' hl
  refine wpAny_ite_false (decide_eq_false c4) ?_
  wp_walk using wpAny_loadPart' hl
  exact⟨_,rfl,h⟩
theorem iY:fillsNumberSlot (.type "tuple") "mul" = pure false:=
 PySem.fillsNumberSlot_seq (id:="tuple.__mul__") (r:=some (.builtin "tuple.__rmul__")) F.slot_tuple_mul.lookup (by decide +kernel) F.slot_tuple_rmul.lookup (by decide +kernel)
theorem mL:seqRepeat? (.type "tuple")=pure (some (.builtin "tuple.__mul__")):=by
 unfold seqRepeat?
 rw [PySem.seqSlot_of (T:="tuple") (name:="__mul__") (id:="tuple.__mul__") F.slot_tuple_mul.lookup (by decide +kernel),PySem.seqSlot_of (T:="tuple") (name:="__rmul__") (id:="tuple.__rmul__") F.slot_tuple_rmul.lookup (by decide +kernel)]
 rfl
theorem kA (a:Int) (t:Tok) (l:Addr) (items:Array Value) (n:Nat) (dct:Option Addr) (sl:Array (Option Value)) :
  Meets (Builtin.«int.__rmul__» ⟨[.int a t,.ref l],[]⟩) (λ_ R s=>s.heap.get? l=some { cls:=.type "tuple",dict:=dct,data:=.seq items n,slots:=sl }/\R (.ok (.ret Value.notImplemented)) s):=
 .of_wp λprog w A R s h=>by obtain⟨hp,g,d,tk,os⟩:=s;obtain⟨hl,h⟩:=h;wp_walk using wpAny_loadPart' hl;exact⟨_,rfl,h⟩
section
variable {X:Cx}
noncomputable def Ax (K:PySem.W.Frag):R2:=λx y H Q=>∃ l k xs,x=.ref l/\y=.int k/\SqT K H l xs/\xs≠[]/\xs.length<=1000/\1<=k/\k < 1000/\(k=1->Q (.ref l) H)/\
 (k≠1->∀ p,H p=none->Q (.ref p) (upd H p (.tup (List.replicate k.toNat xs).flatten)))
theorem xR:OpR X (binaryOp .Mult) (Ax X.K):=by
 intro pins s σ H x y v u Q I rx ry h
 obtain⟨l,k,xs,rfl,rfl,hq,hne,hl1,h1,h2,q1,q2⟩:=h
 cases rx
 obtain⟨t,rfl⟩:=ry
 obtain⟨its,rv,p,hz⟩:=I.tuple hq
 obtain⟨⟨c,dct,dt,sl⟩,e,hc,n,hd⟩:=p
 replace hc:c=.type "tuple":=hc
 replace hd:dt=.seq its.toArray n:=hd
 subst hc hd
 have hlen:=rv.length
 refine wpAny_binaryOp_repeat_ref (T:="tuple") (U:="int") (by decide) ⟨_,e,rfl⟩ (λs'=>typeIs_int s' k t) iY F.fills_int_mul F.slot_int_rmul mL F.slot_int_index.lookup
  (call_meets F.slot_int_rmul (typeIs_int s k t) F.entry_int_rmul (F.args_int_rmul_2 _ _) (kA k t l its.toArray n dct sl) ⟨e,rfl,⟨_,e,rfl⟩,?_⟩)
 by_cases hk:k=1
 ·subst hk
  exact call_meets F.slot_tuple_mul ⟨_,e,rfl⟩ F.entry_tuple_mul (F.args_tuple_mul_2 _ _) (uk l its.toArray n dct sl t) ⟨e,.ref l,H,I,rfl,q1 rfl⟩
 ·have f0:List.foldl (λx1 x2=>x1++x2) #[] (List.replicate k.toNat its.toArray)=(List.replicate k.toNat its).flatten.toArray:=by
   have:=iN its k.toNat []
   rw [List.nil_append] at this
   exact this
  have hsz:(List.replicate k.toNat xs).flatten.length<=sizeLine:=by
   rw [nH]
   have:k.toNat*xs.length<=1000*1000:=Nat.mul_le_mul (by lia) hl1
   have hs:sizeLine=16777216:=rfl
   lia
  have hsz2:(List.replicate k.toNat its).flatten.length<=sizeLine:=by
   rw [nH] at hsz ⊢
   rw [<-hlen];exact hsz
  refine call_meets F.slot_tuple_mul ⟨_,e,rfl⟩ F.entry_tuple_mul (F.args_tuple_mul_2 _ _) (t7 l its.toArray n dct sl k t (by lia) h2 ?_ (by rw [List.size_toArray];lia) (by rw [f0,List.size_toArray];exact hsz2)) ⟨e,?_⟩
  ·cases its with
   | nil=>cases xs with
    | nil=>exact absurd rfl hne
    | cons _ _=>cases hlen
   | cons _ _=>rfl
  ·rw [f0]
   refine⟨.ref _,_,I.laid (t':=s.toks) (o:=.tup (List.replicate k.toNat xs).flatten) (λ_ _ q=>Heap.get?_push_of_some _ q) (Nat.le_refl _) ⟨hsz,(List.replicate k.toNat its).flatten,rv.rep k.toNat,⟨_,Heap.get?_push_size _ rfl,rfl,⟨0,rfl⟩,rfl⟩⟩,rfl,q2 hk _ I.fresh⟩
end
end L2
namespace L2
open PySem PySem.Spec PyProof.Rows
end L2
namespace L2
open PySem PySem.Spec PyProof.Rows
section
variable {X:Cx}{K:PySem.W.Frag}
theorem Bb (hc:X.calm=true:=by rfl) (hK:X.K=K:=by rfl):cW X (.builtin "sum") (λxs H Q=>∃ (a:Addr) (ns:List Int),xs=[.ref a]/\SqL K H a (ns.map V.int)/\Q (.int ns.sum) H):=by
 subst hK
 intro pins s σ H xs us Q I rv h
 exact vc pins s σ H xs us Q I rv ⟨hc,h⟩
end
end L2
namespace L2
open PySem PySem.Spec PyProof.Rows
section
variable {X:Cx}
end
end L2
namespace L2
open PySem PySem.Spec PyProof.Rows
theorem su {n j:Nat} (h:j < n):ixN n (j:Int)=some j:=by
 unfold ixN
 rw [if_pos (by lia),if_pos (by lia),Int.toNat_natCast]
end L2
namespace L2
open PySem PySem.Spec PyProof.Rows
section
variable {X:Cx}{e:Expr}{ty:TE}{p1 p2 p3 p4 dpos apos cpos:Pos}{j1 j2 j3 j4:Nat}
end
end L2
namespace L2
open PySem PySem.Spec PyProof.Rows
end L2
namespace L2
open PySem PySem.Spec PyProof.Rows
open PySem.AutoSeq1 (wpAny_loadPart')
section
variable {prog:Program}{w:World}{A:Around}{E:Value->Shared->Prop}{s:Shared}
end
section
variable {X:Cx}
end
section
variable {prog:Program}{w:World}{A:Around}{E:Value->Shared->Prop}{s:Shared}
end
section
variable {X:Cx}{e:Expr}{te:TE}{p1 p2 p3 pos:Pos}{j:Nat}
end
end L2
namespace L2
open PySem PySem.Spec PyProof.Rows
end L2
namespace L2
open PySem PySem.Spec PyProof.Rows
theorem ay.at {xs:List V}{us:List Value} (r:ay xs us):∀ (j:Nat) (h:j < us.length) ,∃ h':j < xs.length,az xs[j] us[j]:=by
 induction r with
 | nil=>intro j h;exact absurd h (Nat.not_lt_zero j)
 | cons a t ih=>
  intro j h
  cases j with
  | zero=>exact⟨Nat.zero_lt_succ _,a⟩
  | succ j=>
   obtain⟨h1,r1⟩:=ih j (Nat.lt_of_succ_lt_succ h)
   exact⟨Nat.succ_lt_succ h1,r1⟩
theorem kr (e:Nat->Bool) (n:Nat):(List.range (n+1)).all e=(e 0 && (List.range n).all λj=>e (j+1)):=by
 rw [List.range_succ_eq_map,List.all_cons,List.all_map];rfl
section
variable {X:Cx}{K:PySem.W.Frag}{pins:List (Addr×Obj)}{σ:St}{H:Hp}{s:Shared}{A:Around}{a b:Addr}{xs ys:List V}
end
end L2
namespace L2
open PySem PySem.Spec PyProof.Rows
section
variable {X:Cx}{pos p1 p2:Pos}{j1 j2:Nat}
end
section
variable {K:PySem.W.Frag}{H:Hp}
end
section
variable {X:Cx}{K:PySem.W.Frag}
end
end L2
namespace HT
open PySem PySem.Spec PyProof.Rows L2
section
variable {prog:Program}{w:World}{A:Around}{E:Value->Shared->Prop}{s:Shared}
theorem getItem_tuple_all {t sl:Addr}{items:Array Value}{vl vu:Value}{lo hi:Option Int}{Q:Value->Shared->Prop} (ht:IsTup s.heap t items) (hs:s.heap.IsSliceOf sl vl vu .none) (pl:IsPart vl lo) (pu:IsPart vu hi)
  (hw:sIx items.size 0 lo=0/\sIx items.size items.size hi=items.size) (h:Q (.ref t) s):wpAny (model prog w) A (getItem (.ref t) (.ref sl)) Q E s:=by
 obtain⟨os,hos,hcs,hds⟩:=id hs
 have hTs:s.TypeIs (.ref sl) "slice":=⟨os,hos,hcs⟩
 unfold getItem
 try with_reducible refine wpAny_holding ?_
 first | refine wpAny_bind (wpAny_pure ?_) | skip
 refine wpAny_bind (wpAny_sequenceKey ht.typeIs (by decide) ?_)
 refine wpAny_bind (wpAny_callSpecial?_slot (name:=Str.ofString "__getitem__") ht.typeIs PyProof.Rows.slot_tuple_getitem
  (wpAny_call_entry PyProof.Rows.slot_tuple_getitem ht.typeIs entry_tuple_getitem ?_ (args_tuple_getitem _ _)))
 show wpAny _ _ (Builtin.Tuple.tupleItemsOf (.ref t) >>= _) _ _ s
 refine wpAny_bind (tupleItemsOf_ ht ?_)
 refine wpAny_bind (wpAny_typeOf hTs ?_)
 rw [if_pos (by decide)]
 refine wpAny_bind (eA hs pl pu ?_)
 have hyes:(((sIx items.size 0 lo:Nat):Int)==0 && (1:Int)==1 && (sIx items.size items.size hi - sIx items.size 0 lo)==items.size)=true:=by
  rw [hw.1,hw.2]
  simp
 show wpAny _ _ (if (((sIx items.size 0 lo:Nat):Int)==0 && (1:Int)==1 && (sIx items.size items.size hi - sIx items.size 0 lo)==items.size)=true then _ else _) _ _ s
 rw [if_pos hyes]
 unfold Builtin.Tuple.tupleIsExact
 refine wpAny_bind (wpAny_bind (wpAny_typeOf ht.typeIs (wpAny_pure ?_)))
 show wpAny _ _ (if ((Value.type "tuple")==(Value.type "tuple"))=true then _ else _) _ _ s
 rw [if_pos (beq_self_eq_true _)]
 first
  | exact wpAny_bind (wpAny_rule (wpAny_pure ⟨_,rfl,wpAny_pure h⟩))
  | exact wpAny_bind (wpAny_bind (wpAny_rule (wpAny_pure (wpAny_pure ⟨_,rfl,wpAny_pure h⟩))))
  | exact wpAny_bind (wpAny_rule (wpAny_bind (wpAny_pure (wpAny_pure ⟨_,rfl,wpAny_pure h⟩))))
  | exact wpAny_bind (wpAny_rule (wpAny_bind (wpAny_pure ⟨_,rfl,wpAny_pure h⟩)))
end
end HT
namespace L2
open PySem PySem.Spec PyProof.Rows
noncomputable def As (K:PySem.W.Frag):V->Option Int->Option Int->Hp->VK->Prop:=λx lo hi H Q=>∃ a xs,x=.ref a/\SqT K H a xs/\
 ((¬ (HT.sIx xs.length 0 lo=0/\HT.sIx xs.length xs.length hi=xs.length)/\∀ p,H p=none->Q (.ref p) (upd H p (.tup (no xs lo hi))))\/
   ((HT.sIx xs.length 0 lo=0/\HT.sIx xs.length xs.length hi=xs.length)/\Q (.ref a) H))
theorem Ag {X:Cx}{K:PySem.W.Frag} (hK:X.K=K:=by rfl):SlR X (As K):=by
 subst hK
 intro pins s σ H x v vl vu lo hi sl Q I rx hs pl pu h
 obtain⟨a,xs,rfl,hx,h⟩:=h
 rcases h with⟨hw,q⟩ | ⟨hw,q⟩
 ·exact zI pins s σ H _ v vl vu lo hi sl Q I rx hs pl pu ⟨a,xs,rfl,hx,hw,q⟩
 ·cases rx
  obtain⟨its,r,ht,hz⟩:=I.tuple hx
  have hlen:its.toArray.size=xs.length:=by rw [List.size_toArray];exact r.length.symm
  refine⟨"tuple",_,PyProof.Rows.slot_tuple_getitem.lookup,ht.typeIs,?_⟩
  exact HT.getItem_tuple_all ht hs pl pu (by rw [hlen];exact hw) ⟨.ref a,H,I,rfl,q⟩
end L2
namespace L2
open PySem PySem.Spec PyProof.Rows
section
variable {X:Cx}{scope:Scope}{Nc:List Str}{emb:St->St}{elt iter tg:Expr}{ifs:List Expr}{pos:Pos}{wi:TI}{g:TG}{tt:TT}{te:TE}
theorem Au {i0:Nat}{x0:Str}{py spos:Pos} (hN0:X.N.Nodup) (hi0:X.N[i0]?=some x0) (hx0:Loc X.env.scope x0) (S:dJ X scope Nc emb) (hc:X.calm=true) (hi:PI X tg iter wi)
  (hg:∀ cells s H C fp,PG (lcX X scope cells Nc s H C fp) tg g) (ht:∀ cells s H C fp,PTs (lcX X scope cells Nc s H C fp) ifs tt) (he:∀ cells s H C fp,PE (lcX X scope cells Nc s H C fp) elt te)
  (hsw:swapsWith (.ListComp elt [⟨tg,iter,ifs,0⟩] scope pos) (some (.Name x0 py)) spos.line X.env=pure true:=by rfl)
  (hf0:X.fn x0=true\/X.env.scope.names.lookup x0=some .local:=by first | exact .inl rfl | exact .inr rfl | assumption)
  (hs:∀ x,foldedSetIterable iter X.env x=pure x:=by intro _;rfl):PS X (.Assign [.Name x0 py] (.ListComp elt [⟨tg,iter,ifs,0⟩] scope pos) spos) (yP (tLc emb wi g tt te) (oR i0)):=by
 intro pins s σ H DD I h
 rw [exec_Assign_Name_used _ _ _ _ hsw]
 refine wpAny_bind (wpAny_standAt (wpAny_bind ?_))
 show wpAny _ X.A (do let _ <-comprehension (.ListComp elt [⟨tg,iter,ifs,0⟩] scope pos) scope X.env _ (newList []) false (eval iter X.env) (some (assign (.Name x0 py) X.env))) _ _ s
 refine wpAny_bind (wpAny_mono (wpAny_comprehension_free (use:=some (assign (.Name x0 py) X.env)) (Q:=λ_ s'=>SP X pins DD .next s') rfl hs (gq (S.clos I.ok)) S.kind (λx hx hl=>dk S.nd (by rw [<-hl];exact hx)) ?_) (λ_ s' hq=>wpAny_pure (wpAny_pure hq)) λ_ _ e=>e)
 refine thn (hi pins s σ H _ I h) λv s1 h1=>thn h1 λitv s2 h2=>?_
 obtain⟨it,fp,tn,J,H2,e,I2,T,st2,f2,W,⟨m0,w0⟩,turn⟩:=h2
 subst e
 refine wpAny_newObj_type (h8 ?_)
 rw [show (s2.heap.push { cls:=.type "list",dict:=none,data:=.seq ([]:List Value).toArray }).objs.size=s2.heap.objs.size+1 from Heap.size_push ..]
 generalize hD:s2.heap.objs.size=D
 generalize hlo:({ cls:=.type "list",dict:=none,data:=.seq ([]:List Value).toArray }:Obj)=lo
 have fplt:∀ b ∈ fp,b < s2.heap.objs.size:=λb hb=>by obtain⟨o,e,_⟩:=T.obj _ _ st2 b hb;exact Heap.lt_size e
 have I3:=pv (lo:=lo) S I2 f2 (λb hb=>by obtain⟨o,e,_⟩:=T.obj _ _ st2 b hb;exact⟨o,e⟩) (by rw [<-hlo];intro v z;cases z) (by rw [<-hlo];rfl)
 rw [hD] at I3
 generalize hcells:cellsFrom (D+2) scope.names (bF X.env.cells scope.names [])=cells at I3
 generalize hX':lcX X scope cells Nc s2 H2 (D+1) fp=X' at I3
 have hfpX:∀ {H':Hp}{ps:List (Addr×Obj)},(∀ b ∈ fp,H' b=none)->(∀ p ∈ ps,p.1=D)->∀ b ∈ fp,ig X' ps H' b:=λ{H' ps} hn hps b hb=>by
  have ok:=I3.ok
  refine⟨hn b hb,?_,?_,.inl (by rw [<-hX'];exact hb),?_,λp hp=>?_⟩
  ·exact (ok.exf b (by rw [<-hX'];exact hb)).1
  ·exact ok.exfs b (by rw [<-hX'];exact hb)
  ·exact (ok.exf b (by rw [<-hX'];exact hb)).2
  ·have hp':p ∈ ([]:List (Addr×Obj))++ps:=by rw [<-hX'] at hp;exact hp
   have e:p.1=D:=hps p (by simpa using hp')
   rw [e,<-hD]
   exact Nat.ne_of_gt (fplt b hb)
 have Dex:D ∈ X'.ex\/X'.s₀.heap.objs.size<=D:=.inr (by rw [<-hX',<-hD];exact Nat.le_refl _)
 have Dloc:D≠X'.env.locals:=by rw [<-hX'];exact Nat.ne_of_lt (Nat.lt_succ_self _)
 have pD:=I3.pin (D,lo) (by rw [<-hX'];exact List.mem_append_right _ List.mem_cons_self)
 have Dfs:D ∉ X'.fs:=pD.2.2.2.1
 have Dcell:∀ x c,X'.env.cells.lookup x=some c->c≠D:=λx c hc' e=>by
  obtain⟨v,o,ho,hd⟩:=I3.cell x c hc'
  rw [e,pD.1] at ho
  cases ho
  exact pD.2.2.2.2 v hd
 -- the loop
 have loop:∀ s3:Shared,s3={ s2 with heap:=pushCells ((s2.heap.push lo).push { cls:=.type "dict",data:=.dict #[] }) scope.names }->
   codeAny (model X.prog X.w) X.A (.compLoop (.ListComp elt [⟨tg,iter,ifs,0⟩] scope pos) 0 (.ref it) (.ref D) (compEnvC scope cells (D+1) X.env))
    (compPost (model X.prog X.w) X.A X.xe (some (assign (.Name x0 py) X.env)) (λ_ s'=>SP X pins DD .next s') (.ref D) (D+1)) s3:=by
  rintro s3 rfl
  refine cY (λn s'=>∃ i ys its k H',Inv X' [(D,{ cls:=.type "list",data:=.seq its.toArray k })] (emb σ) H' s'/\ay ys its/\tn i s'.heap/\(∀ b ∈ fp,H' b=none)/\ys.length<=sizeLine/\W i n ys H') ?_ m0
   ⟨0,[],[],0,H2,?_,.nil,?_,λb hb=>(f2 b hb).1,Nat.zero_le _,w0⟩
  ·rintro n s4 ⟨i,ys,its,k,H4,I4,rv,st4,fr4,hlen,w4⟩
   have hps:∀ p ∈ [(D,({ cls:=.type "list",data:=.seq its.toArray k }:Obj))],p.1=D:=λp hp=>by
    have:=List.mem_singleton.mp hp
    rw [this]
   rcases turn i n ys H4 w4 with⟨stop,qn⟩ | ⟨go,hlt,N,hN,step⟩
   ·-- the end
    have TD:=T.done X' (by rw [<-hX'];rfl) (by rw [<-hX'];rfl) (by rw [<-hX'];rfl) (by rw [<-hX'];exact hc) i _ s4 (emb σ) H4 (λ_ _=>False) I4 (hfpX fr4 hps) st4 stop
    rw [show X'.A=X.A by rw [<-hX'];rfl] at TD
    refine thn TD λr s5 ⟨hr,I5⟩=>?_
    subst hr
    obtain⟨m5,hn5,_⟩:=id I5.loc
    have eC:X'.env.locals=D+1:=by rw [<-hX'];rfl
    rw [eC] at hn5
    suffices inv5:∀ h',Heap.SameBut (D+1) s5.heap h'->Inv X pins σ (upd H4 D (.lst ys)) { s5 with heap:=h' } by
     have I5X:Inv X pins σ (upd H4 D (.lst ys)) s5:=inv5 s5.heap ⟨rfl,λ_ _=>rfl⟩
     have hD4':H4 D=none:=(I5.pin (D,{ cls:=.type "list",data:=.seq its.toArray k }) (by rw [<-hX'];exact List.mem_append_right _ List.mem_cons_self)).2.1
     have hC4:upd H4 D (.lst ys) (D+1)=none:=by
      have:=I5.free
      rw [eC] at this
      rw [aK (Nat.ne_of_gt (Nat.lt_succ_self D))]
      exact this
     have fpC:∀ b ∈ [D+1],ig X pins (upd H4 D (.lst ys)) b:=λb hb=>by
      have e:=List.mem_singleton.mp hb
      subst e
      exact I2.fpOk (by rw [hD];exact Nat.le_succ D) hC4
     obtain⟨oC,esC,epC,getC,datC,relC⟩:=id hn5
     have I5p:=I5X.pinned fpC λb hb=>by
      have e:=List.mem_singleton.mp hb
      subst e
      exact⟨oC,getC,λv z=>by rw [datC] at z;cases z⟩
     refine wpAny_assign_Name (fJ I5p hN0 hi0 hx0 (v:=.ref D) rfl (λs6 I6=>?_) hf0)
     have pC:=(I6.pin (D+1,oC) (List.mem_append_right _ (List.mem_append_right _ (cq List.mem_cons_self getC)))).1
     refine⟨m5,⟨oC,esC,epC,pC,datC,relC⟩,λh' hsb=>?_⟩
     have I6u:=I6.unpinned
     exact⟨_,_,I6u.turns (t':=s6.toks) fpC (λb o hb e=>(hsb.2 b (λz=>hb (by rw [z];exact List.mem_cons_self))).trans e),qn D hD4'⟩
    intro h' hsb
    have pD5:=I5.pin (D,{ cls:=.type "list",data:=.seq its.toArray k }) (by rw [<-hX'];exact List.mem_append_right _ List.mem_cons_self)
    have neC:∀ b u,H4 b=some u->b≠D+1:=λb u e z=>by
     have:=I5.free
     rw [eC,<-z,e] at this
     cases this
    have hD4:H4 D=none:=pD5.2.1
    have un:=I5.base
    have un':Un (frs X.stack) fp H2 H4 s2.heap s5.heap:=by rw [<-hX'] at un;exact un
    have old_ne:∀ b o,s2.heap.get? b=some o->b≠D/\b≠D+1:=λb o e=>by
     have q:=Heap.lt_size e
     rw [hD] at q
     exact⟨Nat.ne_of_lt q,Nat.ne_of_lt (Nat.lt_succ_of_lt q)⟩
    have h2D:H2 D=none:=by rw [<-hD];exact I2.fresh
    have hok':HOk X.prog X.w H4 h':=λb u e=>by
     have ob:bP X.prog X.w H4 s5.heap b u:=by have:=I5.hok b u e;rw [<-hX'] at this;exact this
     refine ob.stay (λc v hcv q=>(hsb.2 c ?_).trans q) (λ_ q=>q) λ_ _ q=>q
     rcases hcv with z | z
     ·rw [z];exact neC b u e
     ·exact neC c _ z
    have hokD:HOk X.prog X.w (upd H4 D (.lst ys)) h':=λb u e=>by
     by_cases hb:b=D
     ·subst hb
      rw [aP] at e
      cases e
      exact⟨hlen,its,k,rv,(hsb.2 b (Nat.ne_of_lt (Nat.lt_succ_self _))).trans pD5.1⟩
     ·rw [aK hb] at e
      refine (hok' b u e).stay (λ_ _ _ q=>q) (λc q=>?_) λc z q=>?_
      all_goals first
       | (rw [aK (aN q hD4)];exact q)
       | (rw [aK (aN z hD4)];exact z)
    refine I2.call' (s':={ s5 with heap:=h' }) (ch:=fp) ?_ ⟨λb o e nb hb hx=>?_,λb o e nb hb hx=>?_,λb o e nb hx=>?_,λb o e hx=>?_,λb xs e=>?_,λb o u e=>?_,λb ps e=>?_⟩ hokD I5.bare (λb hb=>?_)
    ·have:=I5.os
     rw [<-hX'] at this
     exact this
    ·exact (hsb.2 b (old_ne b o e).2).trans (un'.keep b o e nb hb hx)
    ·obtain⟨sl,q⟩:=un'.slot b o e nb hb hx
     exact⟨sl,(hsb.2 b (old_ne b o e).2).trans q⟩
    ·rw [aK (old_ne b o e).1]
     exact un'.free b o e nb hx
    ·obtain⟨o',q⟩:=un'.there b o e hx
     exact⟨o',(hsb.2 b (old_ne b o e).2).trans q⟩
    ·rw [aK (aN e h2D)]
     exact un'.tups b xs e
    ·rw [aK (aN e h2D)]
     exact un'.frzs b o u e
    ·obtain⟨m,q⟩:=un'.tbls b ps e
     exact⟨m,by rw [aK (aN e h2D)];exact q⟩
    ·obtain⟨q0,q1,q2,q3,q4,q5⟩:=f2 b hb
     exact⟨q3,q1,q4,q5⟩
   ·-- a turn
    have hA:X'.A=X.A:=by rw [<-hX'];rfl
    have hP:X'.prog=X.prog:=by rw [<-hX'];rfl
    have hw:X'.w=X.w:=by rw [<-hX'];rfl
    have hE:X'.env=compEnvC scope cells (D+1) X.env:=by rw [<-hX'];rfl
    have hxe:X'.xe=λ_ _=>False:=by rw [<-hX'];rfl
    have TI':=T.item X' hP hw (by rw [<-hX'];rfl) (by rw [<-hX'];exact hc) i _ s4 (emb σ) H4 (λ_ _=>False) I4 (hfpX fr4 hps) st4 go
    rw [hA] at TI'
    refine thn TI' λr s5 ⟨u,hr,h5⟩=>?_
    subst hr
    refine thn h5 λ_ s6 ⟨x,H6,I6,r6,y6,st6,fr6⟩=>?_
    have I6':=I6.pinned (hfpX fr6 hps) (T.obj _ _ st6)
    have G:=hg cells s2 H2 (D+1) fp
    have TT':=ht cells s2 H2 (D+1) fp
    have EE:=he cells s2 H2 (D+1) fp
    rw [hX'] at G TT' EE
    have G':=G _ s6 (emb σ) H6 x u _ I6' r6 (step x H6 y6)
    rw [hA,hP,hw,hE,hxe] at G'
    refine thn G' λ_ s7 ⟨σ7,H7,I7,sb7,q7⟩=>?_
    have T':=TT' _ s7 σ7 H7 _ I7 q7
    rw [hA,hP,hw,hE,hxe] at T'
    refine thn T' λok s8 ⟨H8,I8,q8⟩=>?_
    -- what is pinned
    have pin_fp:∀ {σ9:St}{H9:Hp}{s9:Shared},Inv X' ([(D,({ cls:=.type "list",data:=.seq its.toArray k }:Obj))]++iL fp s6.heap) σ9 H9 s9->tn (i+1) s9.heap/\∀ b ∈ fp,H9 b=none:=λ{σ9 H9 s9} I9=>
     ⟨T.keep _ _ _ st6 λb hb o e=>(I9.pin (b,o) (List.mem_append_right _ (List.mem_append_right _ (cq hb e)))).1,λb hb=>by
      obtain⟨o,e,_⟩:=T.obj _ _ st6 b hb
      exact (I9.pin (b,o) (List.mem_append_right _ (List.mem_append_right _ (cq hb e)))).2.1⟩
    cases ok with
    | false=>
     rw [if_neg (by decide)] at q8
     rw [if_neg (by decide)]
     obtain⟨m',hm,w8⟩:=hN _ _ q8
     exact⟨m',hm,i+1,ys,its,k,H8,I8.unpinned.weak sb7.1 sb7.2,rv,(pin_fp I8).1,(pin_fp I8).2,hlen,w8⟩
    | true=>
     rw [if_pos rfl] at q8
     rw [if_pos rfl]
     have E':=EE _ s8 σ7 H8 _ I8 q8
     rw [hA,hP,hw,hE,hxe] at E'
     refine thn E' λy s9 ⟨v9,H9,I9,r9,n9⟩=>?_
     obtain⟨m',hm,w9⟩:=hN _ _ n9
     have pD9:=I9.pin (D,{ cls:=.type "list",data:=.seq its.toArray k }) (List.mem_append_right _ (List.mem_append_left _ List.mem_cons_self))
     have hl:=rv.length
     have I9n:Inv X' [] σ7 H9 s9:=I9.pins_of λp hp=>nomatch hp
     refine call_meets F.slot_list_append ⟨_,pD9.1,rfl⟩ F.entry_list_append (F.args_list_append_2 _ _) (PySem.list_append D its.toArray k y (by rw [List.size_toArray];lia)) ⟨pD9.1,?_⟩
     have up:∃ k':Nat,(s9.heap.update D (Obj.mapSeq λxs=>xs.push y)).get? D=some { cls:=.type "list",data:=.seq (its++[y]).toArray k' }:=by
      have q:=PySem.IsL.update pD9.1 (λxs:Array Value=>xs.push y)
      simp only [List.push_toArray] at q
      exact⟨_,q⟩
     obtain⟨k',up⟩:=up
     have hoth:∀ b o,b≠D->s9.heap.get? b=some o->(s9.heap.update D (Obj.mapSeq λxs=>xs.push y)).get? b=some o:=λb o hb e=>(Heap.get?_update_other s9.heap _ (Ne.symm hb)).trans e
     have I10:=I9n.turned (t':=s9.toks) hoth pD9.2.1 Dloc Dex Dcell (λp hp=>absurd (show p ∈ ([]:List (Addr×Obj)) by rw [<-hX'] at hp;exact hp) (by simp))
     refine⟨m',hm,i+1,ys++[v9],its++[y],k',H9,(I10.weak sb7.1 sb7.2).pins_of (λp hp=>?_),rv.append (.cons r9 .nil),T.keep _ _ _ (pin_fp I9).1 (λb hb o e=>hoth b o (by rw [<-hD];exact Nat.ne_of_lt (fplt b hb)) e),(pin_fp I9).2,?_,w9⟩
     ·have:=List.mem_singleton.mp hp
      subst this
      exact⟨up,pD9.2.1,Dloc,Dfs,λv z=>by cases z⟩
     ·rw [List.length_append,List.length_singleton]
      lia
  ·have q:lo={ cls:=.type "list",data:=.seq ([]:List Value).toArray 0 }:=hlo.symm
   rw [<-q]
   exact I3
  ·exact T.keep _ _ _ st2 λb hb o e=>pushCells_keeps _ _ b o (Heap.get?_push_of_some _ (Heap.get?_push_of_some _ e))
 refine codeAny_compStart_list ?_ ?_
 ·exact loop _ rfl
 ·refine T.self X.A 0 _ _ _ (T.keep _ _ _ st2 λb hb o e=>pushCells_keeps _ _ b o (Heap.get?_push_of_some _ (Heap.get?_push_of_some _ e))) ?_
  exact loop _ rfl
end
end L2
namespace L2
open PySem PySem.Spec PyProof.Rows
noncomputable def aA:Expr->Bool
 | .Starred _ _=>false
 | _=>true
theorem aX {e:Expr}{es:List Expr}{env:Env} (h:aA e=true):starEach (e::es) env=(false,eval e env)::starEach es env:=by
 cases e<;>first | (cases h;done) | rfl
theorem bY {pos:Pos}{env:Env}:∀ {es:List Expr},es.all aA=true->(backTo pos (starEach es env)).any (·.1)=false
 | [],_=>by simp [starEach,backTo]
 | e::es,h=>by
  rw [List.all_cons,Bool.and_eq_true] at h
  rw [aX h.1]
  have:=bY (pos:=pos) (env:=env) h.2
  unfold backTo at this ⊢
  rw [List.map_cons,List.any_cons,this]
  rfl
theorem ud {pos:Pos}{env:Env}{es:List Expr} (h:es.all aA=true) (hl:es.length < 30):((backTo pos (starEach es env)).all (λx=>!x.1) && (backToKw pos (keywordEach [] env)).all (λx=>x.1.isSome)
   && decide (es.length+([]:List Keyword).length+(if ([]:List Keyword).isEmpty then 0 else 1) < 30))=true:=by
 have h1:(backTo pos (starEach es env)).all (λx=>!x.1)=true:=by
  have:=bY (pos:=pos) (env:=env) h
  rw [List.all_eq_true]
  intro x hx
  rw [List.any_eq_false] at this
  simpa using this x hx
 have h2:(backToKw pos (keywordEach [] env)).all (λx=>x.1.isSome)=true:=by simp [keywordEach,backToKw]
 rw [h1,h2]
 simpa using hl
theorem v5 {e:Expr}{env:Env} (h:aA e=true):starEach [e] env=[(false,eval e env)]:=by rw [aX h];rfl
noncomputable def uz:Expr->Bool
 | .UnaryOp .Not _ _=>false
 | .BoolOp _ _ _=>false
 | .IfExp _ _ _ _=>false
 | .Compare _ _ _ _=>false
 | _=>true
theorem sH {a:Expr}{env:Env} (h:uz a=true):∀ whole,PySem.isTrue a env whole=(do let v <-whole;standAt a.pos;holding [v] (truthy v)):=by
 intro whole
 cases a with
 | UnaryOp op x p=>cases op<;>first | (cases h;done) | rfl
 | BoolOp _ _ _=>cases h
 | IfExp _ _ _ _=>cases h
 | Compare _ _ _ _=>cases h
 | _=>rfl
theorem lw {t:Expr}{ts:List Expr}{env:Env} (h:aA t=true):assignEach (t::ts) env=(false,assign t env)::assignEach ts env:=by
 cases t<;>first | (cases h;done) | rfl
theorem nk {env:Env}:∀ {ts:List Expr},ts.all aA=true->(assignEach ts env).length=ts.length
 | [],_=>by simp [assignEach]
 | t::ts,h=>by
  rw [List.all_cons,Bool.and_eq_true] at h
  rw [lw h.1,List.length_cons,nk h.2,List.length_cons]
theorem kF {env:Env}:∀ {ts:List Expr},ts.all aA=true->(assignEach ts env).findIdx? (·.1)=none
 | [],_=>by simp [assignEach]
 | t::ts,h=>by
  rw [List.all_cons,Bool.and_eq_true] at h
  rw [lw h.1,List.findIdx?_cons,kF h.2]
  rfl
theorem rP {t:Expr}{ts:List Expr}{env:Env} (h:aA t=true):(assignEach (t::ts) env).map (·.2)=assign t env::(assignEach ts env).map (·.2):=by rw [lw h];rfl
theorem np {t:Expr}{env:Env} (h:aA t=true):(assignEach [t] env).map (·.2)=[assign t env]:=by rw [rP h];simp [assignEach]
noncomputable def i5:Expr->Bool
 | .Slice _ _ _ _=>false
 | _=>true
theorem rf {o i:Expr}{pos:Pos}{env:Env} (h:i5 i=true) (v:Value):assign (.Subscript o i pos) env v=(do
   let ov <-holding [v] (eval o env)
   let iv <-holding [v,ov] (eval i env)
   standAt pos
   holding [v,ov,iv] (setItem ov iv v)
   release [v,ov,iv] []):=by
 cases i<;>first | (cases h;done) | rfl
theorem pz {i:Expr} (h:i5 i=true):rW i:=by
 intro o j
 cases i<;>first | (cases h;done) | rfl
end L2
namespace L2
open PySem PySem.Spec PyProof.Rows
inductive D where
 | non | bl (b:Bool) | int (i:Int) | str (x:Str) | ty (n:String) | dct | scr (ns:List Int) | tup (ds:List D) | lst (ds:List D)
 deriving Inhabited
inductive W where
 | d (x:D) | h (n:Nat)
 deriving Inhabited
inductive C where
 | l (ds:List D) | n (ws:List W) | m (kvs:List (List Int×D)) | k (kvs:List (Int×D))
 deriving Inhabited
abbrev Sto:=List C
noncomputable def lg (st:Sto) (n:Nat):Option (List D):=match st[n]? with
 | some (.l ds)=>some ds
 | _=>none
noncomputable def dP (l:List Int):List Key:=l.map Sum.inl
abbrev Ev:=List (Option W)
noncomputable def KLs (K:PySem.W.Frag) (a:Addr) (xs:List V):Prop:=
 ∃ (o:Obj) (its:Array Value) (n:Nat),K.lookup a=some o/\o.cls=.type "list"/\o.dict=none/\o.data=.seq its n/\its.size<=sizeLine/\ay xs its.toList
section
variable (K:PySem.W.Frag) (H:Hp) (φ:List Addr)
mutual
noncomputable def Rl:D->V->Prop
 | .non,v=>v=.non
 | .bl b,v=>v=.bl b
 | .int i,v=>v=.int i
 | .str x,v=>v=.str x
 | .ty n,v=>v=.ty n
 | .dct,v=>∃ a,v=.ref a/\a ∉ φ/\((∃ d,H a=some (.dK d))\/∃ d,H a=some (.dT d))
 | .scr ns,v=>∃ a,v=.ref a/\((∃ o,H a=some (.frz o (.lst (ns.map V.int))))\/KLs K a (ns.map V.int))
 | .tup ds,v=>∃ a vs,v=.ref a/\H a=some (.tup vs)/\Rls ds vs
 | .lst ds,v=>∃ a vs,v=.ref a/\a ∉ φ/\Rd H a (.lst vs)/\Rls ds vs
noncomputable def Rls:List D->List V->Prop
 | [],vs=>vs=[]
 | d::ds,vs=>∃ v r,vs=v::r/\Rl d v/\Rls ds r
end
noncomputable def Rw:W->V->Prop
 | .d x,v=>Rl K H φ x v
 | .h n,v=>∃ a,φ[n]?=some a/\v=.ref a
noncomputable def Rws:List W->List V->Prop
 | [],vs=>vs=[]
 | d::ds,vs=>∃ v r,vs=v::r/\Rw K H φ d v/\Rws ds r
noncomputable def Rkv:List (List Int×D)->List (List Key×V)->Prop
 | [],vs=>vs=[]
 | (k,d)::ds,vs=>∃ v r,vs=(dP k,v)::r/\Rl K H φ d v/\Rkv ds r
noncomputable def Rkk:List (Int×D)->List (Key×V)->Prop
 | [],vs=>vs=[]
 | (k,d)::ds,vs=>∃ v r,vs=(Sum.inl k,v)::r/\Rl K H φ d v/\Rkk ds r
noncomputable def Rc (k:Nat) (a:Addr):C->Prop
 | .l ds=>∃ vs,H a=some (.lst vs)/\Rls K H φ ds vs
 | .n ws=>∃ vs,H a=some (.lst vs)/\Rws K H φ ws vs/\∀ m,W.h m ∈ ws->m < k
 | .m kvs=>∃ vs,H a=some (.dT vs)/\Rkv K H φ kvs vs
 | .k kvs=>∃ vs,H a=some (.dK vs)/\Rkk K H φ kvs vs
structure Sr (st:Sto):Prop where
 nd:φ.Nodup
 len:φ.length=st.length
 at_:∀ (n:Nat) a c,φ[n]?=some a->st[n]?=some c->Rc K H φ n a c
structure Er (env:Ev) (σ:St):Prop where
 len:env.length=σ.length
 at_:∀ (i:Nat) w,env[i]?=some (some w)->∃ v,σ[i]?=some (some v)/\Rw K H φ w v
end
structure Fw (φ φ':List Addr) (H H':Hp):Prop where
 ext:∃ ψ,φ'=φ++ψ/\∀ a ∈ ψ,H a=none
 keep:∀ b o,b ∉ φ->H b=some o->H' b=some o
 there:∀ b o,H b=some o->∃ o',H' b=some o'
section
variable {K:PySem.W.Frag}{H H1 H2 H':Hp}{φ φ1 φ2 φ':List Addr}{st st':Sto}
theorem Fw.refl (φ:List Addr) (H:Hp):Fw φ φ H H:=⟨⟨[],by simp,by simp⟩,λ_ _ _ h=>h,λ_ o h=>⟨o,h⟩⟩
theorem Fw.trans (a:Fw φ φ1 H H1) (b:Fw φ1 φ2 H1 H2):Fw φ φ2 H H2:=by
 obtain⟨ψ,rfl,e1⟩:=a.ext
 obtain⟨ψ2,rfl,e2⟩:=b.ext
 refine⟨⟨ψ++ψ2,by rw [List.append_assoc],λc hc=>?_⟩,λc o hc h=>?_,λc o h=>?_⟩
 ·rcases List.mem_append.mp hc with z | z
  ·exact e1 c z
  ·cases q:H c with
   | none=>rfl
   | some o=>
    obtain⟨o',q'⟩:=a.there c o q
    rw [e2 c z] at q';cases q'
 ·refine b.keep c o (λz=>?_) (a.keep c o hc h)
  rcases List.mem_append.mp z with z | z
  ·exact hc z
  ·rw [e1 c z] at h;cases h
 ·obtain⟨o',q⟩:=a.there c o h
  exact b.there c o' q
theorem Fw.same (s:br H H'):Fw φ φ H H':=⟨⟨[],by simp,by simp⟩,λb o _ h=>s b o h,λb o h=>⟨o,s b o h⟩⟩
theorem Fw.new {p:Addr}{o:HO} (hp:H p=none):Fw φ φ H (upd H p o):=.same (br.new hp o)
theorem Fw.get (f:Fw φ φ' H H') {n:Nat}{a:Addr} (h:φ[n]?=some a):φ'[n]?=some a:=by
 obtain⟨ψ,rfl,_⟩:=f.ext
 rw [List.getElem?_append_left (List.getElem?_eq_some_iff.mp h).1];exact h
theorem Fw.nin (f:Fw φ φ' H H') {a:Addr}{o:HO} (h:a ∉ φ) (q:H a=some o):a ∉ φ':=by
 obtain⟨ψ,rfl,e⟩:=f.ext
 intro z
 rcases List.mem_append.mp z with z | z
 ·exact h z
 ·rw [e a z] at q;cases q
noncomputable def A6:HO->Bool
 | .lst _=>true
 | .dT _=>true
 | .dK _=>true
 | _=>false
theorem Rc.ob {k:Nat}{a:Addr}{c:C} (h:Rc K H φ k a c):∃ o,H a=some o/\A6 o=true:=by
 cases c with
 | l ds=>obtain⟨vs,q,_⟩:=h;exact⟨_,q,rfl⟩
 | n ds=>obtain⟨vs,q,_⟩:=h;exact⟨_,q,rfl⟩
 | m ds=>obtain⟨vs,q,_⟩:=h;exact⟨_,q,rfl⟩
 | k ds=>obtain⟨vs,q,_⟩:=h;exact⟨_,q,rfl⟩
theorem Sr.lst (S:Sr K H φ st) {a:Addr} (h:a ∈ φ):∃ o,H a=some o/\A6 o=true:=by
 obtain⟨n,hn,e⟩:=List.mem_iff_getElem.mp h
 have hs:n < st.length:=by rw [<-S.len];exact hn
 exact (S.at_ n a st[n] (by rw [List.getElem?_eq_getElem hn,e]) (by rw [List.getElem?_eq_getElem hs])).ob
theorem qW {st:Sto}{n:Nat}{ds:List D} (h:lg st n=some ds):st[n]?=some (.l ds):=by
 unfold lg at h
 split at h
 ·rename_i q;cases h;exact q
 ·cases h
theorem Sr.atl (S:Sr K H φ st) (n:Nat) (a:Addr) (ds:List D) (e1:φ[n]?=some a) (e2:lg st n=some ds):∃ vs,H a=some (.lst vs)/\Rls K H φ ds vs:=S.at_ n a _ e1 (qW e2)
theorem Sr.nin (S:Sr K H φ st) {a:Addr} (h:H a=none):a ∉ φ:=λz=>by
 obtain⟨vs,q,_⟩:=S.lst z
 rw [q] at h;cases h
theorem Rd.nin (S:Sr K H φ st) {a:Addr}{vs:List V} (h:Rd H a (.tup vs)):a ∉ φ:=λz=>by
 obtain⟨ws,q,qm⟩:=S.lst z
 rcases h with h | ⟨o,h⟩<;>(rw [q] at h;cases h;cases qm)
theorem Rd.fw (f:Fw φ φ' H H') {a:Addr}{u:HO} (hn:a ∉ φ) (h:Rd H a u):Rd H' a u:=by
 rcases h with h | ⟨o,h⟩
 ·exact .inl (f.keep _ _ hn h)
 ·exact .inr ⟨o,f.keep _ _ hn h⟩
theorem SqT.fw (S:Sr K H φ st) (f:Fw φ φ' H H') {a:Addr}{vs:List V} (h:SqT K H a vs):SqT K H' a vs:=by
 rcases h with h | h
 ·exact .inl (f.keep _ _ (Rd.nin S (.inl h)) h)
 ·exact .inr h
theorem Rd.some {a:Addr}{u:HO} (h:Rd H a u):∃ o,H a=some o:=by
 rcases h with h | ⟨o,h⟩
 ·exact⟨_,h⟩
 ·exact⟨_,h⟩
mutual
theorem Rl.fw (S:Sr K H φ st) (f:Fw φ φ' H H'):∀ {d:D}{v:V},Rl K H φ d v->Rl K H' φ' d v
 | .non,_,h=>h
 | .bl _,_,h=>h
 | .int _,_,h=>h
 | .str _,_,h=>h
 | .ty _,_,h=>h
 | .dct,_,h=>by
  obtain⟨a,rfl,hn,h⟩:=h
  rcases h with⟨d,h⟩ | ⟨d,h⟩
  ·exact⟨a,rfl,f.nin hn h,.inl ⟨d,f.keep _ _ hn h⟩⟩
  ·exact⟨a,rfl,f.nin hn h,.inr ⟨d,f.keep _ _ hn h⟩⟩
 | .scr ns,_,h=>by
  obtain⟨a,rfl,h⟩:=h
  refine⟨a,rfl,?_⟩
  rcases h with⟨o,h⟩ | h
  ·refine .inl ⟨o,f.keep _ _ (λz=>?_) h⟩
   obtain⟨ws,q,qm⟩:=S.lst z
   rw [q] at h;cases h;cases qm
  ·exact .inr h
 | .tup ds,_,h=>by
  obtain⟨a,vs,rfl,h1,h2⟩:=h
  exact⟨a,vs,rfl,f.keep _ _ (Rd.nin S (.inl h1)) h1,Rls.fw S f h2⟩
 | .lst ds,_,h=>by
  obtain⟨a,vs,rfl,h0,h1,h2⟩:=h
  obtain⟨o,e⟩:=h1.some
  exact⟨a,vs,rfl,f.nin h0 e,h1.fw f h0,Rls.fw S f h2⟩
theorem Rls.fw (S:Sr K H φ st) (f:Fw φ φ' H H'):∀ {ds:List D}{vs:List V},Rls K H φ ds vs->Rls K H' φ' ds vs
 | [],_,h=>h
 | d::ds,_,h=>by
  obtain⟨v,r,rfl,h1,h2⟩:=h
  exact⟨v,r,rfl,Rl.fw S f h1,Rls.fw S f h2⟩
end
theorem Rw.fw (S:Sr K H φ st) (f:Fw φ φ' H H') {w:W}{v:V} (h:Rw K H φ w v):Rw K H' φ' w v:=by
 cases w with
 | d x=>exact Rl.fw S f h
 | h n=>obtain⟨a,e,rfl⟩:=h;exact⟨a,f.get e,rfl⟩
theorem Rws.fw (S:Sr K H φ st) (f:Fw φ φ' H H'):∀ {ws:List W}{vs:List V},Rws K H φ ws vs->Rws K H' φ' ws vs
 | [],_,h=>h
 | d::ds,_,h=>by
  obtain⟨v,r,rfl,h1,h2⟩:=h
  exact⟨v,r,rfl,h1.fw S f,Rws.fw S f h2⟩
theorem Er.fw (S:Sr K H φ st) (f:Fw φ φ' H H') {env:Ev}{σ:St} (h:Er K H φ env σ):Er K H' φ' env σ:=
 ⟨h.len,λi w e=>let ⟨v,e1,r⟩:=h.at_ i w e;⟨v,e1,r.fw S f⟩⟩
theorem Rkv.fw (S:Sr K H φ st) (f:Fw φ φ' H H'):∀ {ds:List (List Int×D)}{vs:List (List Key×V)},Rkv K H φ ds vs->Rkv K H' φ' ds vs
 | [],_,h=>h
 | (k,d)::ds,_,h=>by
  obtain⟨v,r,rfl,h1,h2⟩:=h
  exact⟨v,r,rfl,Rl.fw S f h1,Rkv.fw S f h2⟩
theorem Rkk.fw (S:Sr K H φ st) (f:Fw φ φ' H H'):∀ {ds:List (Int×D)}{vs:List (Key×V)},Rkk K H φ ds vs->Rkk K H' φ' ds vs
 | [],_,h=>h
 | (k,d)::ds,_,h=>by
  obtain⟨v,r,rfl,h1,h2⟩:=h
  exact⟨v,r,rfl,Rl.fw S f h1,Rkk.fw S f h2⟩
theorem Rc.fw (S:Sr K H φ st) (f:Fw φ φ' H H') {k:Nat}{a:Addr}{c:C} (e:∀ o,H a=some o->H' a=some o) (h:Rc K H φ k a c):Rc K H' φ' k a c:=by
 cases c with
 | l ds=>obtain⟨vs,q,r⟩:=h;exact⟨vs,e _ q,r.fw S f⟩
 | n ds=>obtain⟨vs,q,r,b⟩:=h;exact⟨vs,e _ q,r.fw S f,b⟩
 | m ds=>obtain⟨vs,q,r⟩:=h;exact⟨vs,e _ q,r.fw S f⟩
 | k ds=>obtain⟨vs,q,r⟩:=h;exact⟨vs,e _ q,r.fw S f⟩
theorem Sr.same (S:Sr K H φ st) (s:br H H'):Sr K H' φ st:=
 ⟨S.nd,S.len,λn a c e1 e2=>(S.at_ n a c e1 e2).fw S (Fw.same s) λo h=>s _ _ h⟩
theorem Sr.new (S:Sr K H φ st) {p:Addr}{o:HO} (hp:H p=none):Sr K (upd H p o) φ st:=S.same (br.new hp o)
theorem Rls.length:∀ {ds:List D}{vs:List V},Rls K H φ ds vs->ds.length=vs.length
 | [],_,h=>by cases h;rfl
 | d::ds,_,h=>by
  obtain⟨v,r,rfl,h1,h2⟩:=h
  rw [List.length_cons,List.length_cons,Rls.length h2]
theorem Rws.length:∀ {ds:List W}{vs:List V},Rws K H φ ds vs->ds.length=vs.length
 | [],_,h=>by cases h;rfl
 | d::ds,_,h=>by
  obtain⟨v,r,rfl,h1,h2⟩:=h
  rw [List.length_cons,List.length_cons,Rws.length h2]
theorem Rls.append:∀ {ds es:List D}{vs us:List V},Rls K H φ ds vs->Rls K H φ es us->Rls K H φ (ds++es) (vs++us)
 | [],_,_,_,h,h'=>by cases h;exact h'
 | d::ds,_,_,_,h,h'=>by
  obtain⟨v,r,rfl,h1,h2⟩:=h
  exact⟨v,r++_,rfl,h1,Rls.append h2 h'⟩
theorem Rls.get:∀ {ds:List D}{vs:List V},Rls K H φ ds vs->∀ {i:Nat}{d:D},ds[i]?=some d->∃ v,vs[i]?=some v/\Rl K H φ d v
 | [],_,h,i,d,e=>by simp at e
 | d::ds,_,h,i,e,q=>by
  obtain⟨v,r,rfl,h1,h2⟩:=h
  cases i with
  | zero=>simp at q;subst q;exact⟨v,rfl,h1⟩
  | succ i=>simpa using Rls.get h2 (i:=i) (d:=e) (by simpa using q)
theorem Rls.take:∀ {ds:List D}{vs:List V} (n:Nat),Rls K H φ ds vs->Rls K H φ (ds.take n) (vs.take n)
 | _,_,0,_=>by rw [List.take_zero,List.take_zero];exact rfl
 | [],_,n+1,h=>by cases h;exact rfl
 | d::ds,_,n+1,h=>by
  obtain⟨v,r,rfl,h1,h2⟩:=h
  exact⟨v,_,rfl,h1,Rls.take n h2⟩
theorem Rls.drop:∀ {ds:List D}{vs:List V} (n:Nat),Rls K H φ ds vs->Rls K H φ (ds.drop n) (vs.drop n)
 | _,_,0,h=>h
 | [],_,n+1,h=>by cases h;exact rfl
 | d::ds,_,n+1,h=>by
  obtain⟨v,r,rfl,h1,h2⟩:=h
  exact Rls.drop n h2
theorem Rls.set:∀ {ds:List D}{vs:List V} (n:Nat) {d:D}{v:V},Rls K H φ ds vs->Rl K H φ d v->Rls K H φ (ds.set n d) (vs.set n v)
 | [],_,_,_,_,h,_=>by cases h;exact rfl
 | e::ds,_,0,d,v,h,hd=>by
  obtain⟨u,r,rfl,h1,h2⟩:=h
  exact⟨v,r,rfl,hd,h2⟩
 | e::ds,_,n+1,d,v,h,hd=>by
  obtain⟨u,r,rfl,h1,h2⟩:=h
  exact⟨u,_,rfl,h1,Rls.set n h2 hd⟩
theorem Rls.rep {ds:List D}{vs:List V} (h:Rls K H φ ds vs):∀ k:Nat,Rls K H φ (List.replicate k ds).flatten (List.replicate k vs).flatten
 | 0=>rfl
 | k+1=>by rw [List.replicate_succ,List.replicate_succ,List.flatten_cons,List.flatten_cons];exact h.append (Rls.rep h k)
theorem Rls.ints:∀ {ns:List Int}{vs:List V},Rls K H φ (ns.map D.int) vs->vs=ns.map V.int
 | [],_,h=>h
 | n::ns,_,h=>by
  obtain⟨v,r,rfl,h1,h2⟩:=h
  rw [show v=.int n from h1,Rls.ints h2];rfl
theorem Rls.of_ints:∀ (ns:List Int),Rls K H φ (ns.map D.int) (ns.map V.int)
 | []=>rfl
 | n::ns=>⟨_,_,rfl,rfl,Rls.of_ints ns⟩
theorem Rl.less {ψ:List Addr}:∀ {d:D}{v:V},Rl K H (φ++ψ) d v->Rl K H φ d v:=by
 intro d v
 refine (?_:∀ v,Rl K H (φ++ψ) d v->Rl K H φ d v) v
 refine D.rec (motive_1:=λd=>∀ v,Rl K H (φ++ψ) d v->Rl K H φ d v) (motive_2:=λds=>∀ vs,Rls K H (φ++ψ) ds vs->Rls K H φ ds vs) ?_ ?_ ?_ ?_ ?_ ?_ ?_ ?_ ?_ ?_ ?_ d
 ·exact λv h=>h
 ·exact λb v h=>h
 ·exact λb v h=>h
 ·exact λb v h=>h
 ·exact λb v h=>h
 ·rintro v ⟨a,e,hn,h⟩;exact⟨a,e,λz=>hn (List.mem_append_left _ z),h⟩
 ·exact λns v h=>h
 ·rintro ds ih v ⟨a,vs,rfl,h1,h2⟩;exact⟨a,vs,rfl,h1,ih vs h2⟩
 ·rintro ds ih v ⟨a,vs,rfl,h0,h1,h2⟩;exact⟨a,vs,rfl,λz=>h0 (List.mem_append_left _ z),h1,ih vs h2⟩
 ·exact λvs h=>h
 ·rintro d ds ih1 ih2 vs ⟨v,r,rfl,h1,h2⟩;exact⟨v,r,rfl,ih1 v h1,ih2 r h2⟩
theorem Rls.less {ψ:List Addr}:∀ {ds:List D}{vs:List V},Rls K H (φ++ψ) ds vs->Rls K H φ ds vs
 | [],_,h=>h
 | d::ds,_,h=>by
  obtain⟨v,r,rfl,h1,h2⟩:=h
  exact⟨v,r,rfl,Rl.less h1,Rls.less h2⟩
theorem Rkv.less {ψ:List Addr}:∀ {ds:List (List Int×D)}{vs:List (List Key×V)},Rkv K H (φ++ψ) ds vs->Rkv K H φ ds vs
 | [],_,h=>h
 | (k,d)::ds,_,h=>by
  obtain⟨v,r,rfl,h1,h2⟩:=h
  exact⟨v,r,rfl,Rl.less h1,Rkv.less h2⟩
theorem Rkk.less {ψ:List Addr}:∀ {ds:List (Int×D)}{vs:List (Key×V)},Rkk K H (φ++ψ) ds vs->Rkk K H φ ds vs
 | [],_,h=>h
 | (k,d)::ds,_,h=>by
  obtain⟨v,r,rfl,h1,h2⟩:=h
  exact⟨v,r,rfl,Rl.less h1,Rkk.less h2⟩
theorem Rws.less {ψ:List Addr}:∀ {ds:List W}{vs:List V},(∀ m,W.h m ∈ ds->m < φ.length)->Rws K H (φ++ψ) ds vs->Rws K H φ ds vs
 | [],_,_,h=>h
 | d::ds,_,hm,h=>by
  obtain⟨v,r,rfl,h1,h2⟩:=h
  refine⟨v,r,rfl,?_,Rws.less (λm z=>hm m (List.mem_cons_of_mem _ z)) h2⟩
  cases d with
  | d x=>exact Rl.less h1
  | h m=>
   obtain⟨a,e,rfl⟩:=h1
   rw [List.getElem?_append_left (hm m List.mem_cons_self)] at e
   exact⟨a,e,rfl⟩
theorem Rc.less {ψ:List Addr}{k:Nat}{a:Addr}{c:C} (hk:k < φ.length) (h:Rc K H (φ++ψ) k a c):Rc K H φ k a c:=by
 cases c with
 | l ds=>obtain⟨vs,q,r⟩:=h;exact⟨vs,q,r.less⟩
 | n ds=>obtain⟨vs,q,r,b⟩:=h;exact⟨vs,q,r.less λm z=>Nat.lt_trans (b m z) hk,b⟩
 | m ds=>obtain⟨vs,q,r⟩:=h;exact⟨vs,q,r.less⟩
 | k ds=>obtain⟨vs,q,r⟩:=h;exact⟨vs,q,r.less⟩
theorem Sr.less {ψ:List Addr} (S:Sr K H (φ++ψ) st):Sr K H φ (st.take φ.length):=by
 have hl:=S.len
 rw [List.length_append] at hl
 refine⟨(List.nodup_append.mp S.nd).1,by rw [List.length_take];lia,λn a ds e1 e2=>?_⟩
 have hn:=(List.getElem?_eq_some_iff.mp e1).1
 rw [List.getElem?_take_of_lt hn] at e2
 exact (S.at_ n a ds (by rw [List.getElem?_append_left hn];exact e1) e2).less hn
end
end L2
namespace L2
open PySem PySem.Spec PyProof.Rows
abbrev Ef:=Ev->Sto->Option (W×Sto)
abbrev Af:=Ev->Sto->Option (List W×Sto)
abbrev Tf:=Ev->Sto->Option (Bool×Sto)
abbrev Lf:=Ev->Sto->Option (List D×Sto)
abbrev Fn:=List W->Sto->Option (W×Sto)
section
variable (K:PySem.W.Frag)
noncomputable def tI (env:Ev) (st:Sto) (r:W×Sto):TE:=λσ H Q=>∃ φ,Er K H φ env σ/\Sr K H φ st/\∀ v H' φ',Fw φ φ' H H'->Sr K H' φ' r.2->Rw K H' φ' r.1 v->Q v H'
noncomputable def tIA (env:Ev) (st:Sto) (r:List W×Sto):TA:=λσ H Q=>∃ φ,Er K H φ env σ/\Sr K H φ st/\∀ vs H' φ',Fw φ φ' H H'->Sr K H' φ' r.2->Rws K H' φ' r.1 vs->Q vs H'
noncomputable def tIT (env:Ev) (st:Sto) (r:Bool×Sto):TT:=λσ H Q=>∃ φ,Er K H φ env σ/\Sr K H φ st/\∀ H' φ',Fw φ φ' H H'->Sr K H' φ' r.2->Q r.1 H'
noncomputable def tIL (env:Ev) (st:Sto) (r:List D×Sto):TE:=λσ H Q=>∃ φ,Er K H φ env σ/\Sr K H φ st/\∀ a vs H1 φ',Fw φ φ' H H1->Sr K H1 φ' r.2->H1 a=none->Rls K H1 φ' r.1 vs->Q (.ref a) (upd H1 a (.lst vs))
structure IE (X:Cx) (e:Expr) (f:Ef):Prop where
 run:∀ env st r,f env st=some r->PE X e (tI K env st r)
structure IA (X:Cx) (es:List Expr) (f:Af):Prop where
 run:∀ env st r,f env st=some r->PA X es (tIA K env st r)
structure IT (X:Cx) (e:Expr) (f:Tf):Prop where
 run:∀ env st r,f env st=some r->PT X e (tIT K env st r)
structure ITW (X:Cx) (e:Expr) (f:Tf):Prop where
 run:∀ env st r,f env st=some r->PW X e (tIT K env st r)
structure IL (X:Cx) (e:Expr) (f:Lf):Prop where
 run:∀ env st r,f env st=some r->PE X e (tIL K env st r)
noncomputable def rD (st:Sto) (x y:W) (d:D):R2:=λvx vy H Q=>∃ φ,Sr K H φ st/\Rw K H φ x vx/\Rw K H φ y vy/\∀ v H',br H H'->Rl K H' φ d v->Q v H'
structure OpD (X:Cx) (f:Value->Value->Sem Value) (g:Sto->W->W->Option D):Prop where
 run:∀ st x y d,g st x y=some d->OpR X f (rD K st x y d)
noncomputable def rCD (st:Sto) (ws:List W) (d:D):List V->Hp->VK->Prop:=λvs H Q=>∃ φ,Sr K H φ st/\Rws K H φ ws vs/\∀ v H',br H H'->Rl K H' φ d v->Q v H'
structure gZ (X:Cx) (f:Value) (g:Sto->List W->Option D):Prop where
 run:∀ st ws d,g st ws=some d->cW X f (rCD K st ws d)
noncomputable def rCL (st:Sto) (ws:List W) (ds:List D):List V->Hp->VK->Prop:=λvs H Q=>∃ φ,Sr K H φ st/\Rws K H φ ws vs/\∀ a us H1,br H H1->H1 a=none->Rls K H1 φ ds us->Q (.ref a) (upd H1 a (.lst us))
structure yt (X:Cx) (f:Value) (g:Sto->List W->Option (List D)):Prop where
 run:∀ st ws d,g st ws=some d->cW X f (rCL K st ws d)
end
noncomputable def iV (i:Nat):Ef
 | env,st=>(env.getD i none).map λw=>(w,st)
noncomputable def iC (d:D):Ef
 | _,st=>some (.d d,st)
noncomputable def iOp (g:Sto->W->W->Option D) (a b:Ef):Ef
 | env,st=>(a env st).bind λx=>(b env x.2).bind λy=>(g y.2 x.1 y.1).map λd=>(.d d,y.2)
noncomputable def mY:D->Option Bool
 | .bl b=>some b
 | _=>none
noncomputable def bX (g:Sto->W->W->Option D) (a b:Ef):Tf
 | env,st=>(a env st).bind λx=>(b env x.2).bind λy=>(g y.2 x.1 y.1).bind λd=>(mY d).map λk=>(k,y.2)
noncomputable def iUn (g:W->Option D) (a:Ef):Ef
 | env,st=>(a env st).bind λx=>(g x.1).map λd=>(.d d,x.2)
noncomputable def qf (c:Tf) (a b:Ef):Ef
 | env,st=>(c env st).bind λr=>if r.1=true then a env r.2 else b env r.2
noncomputable def gj (c:Tf):Tf
 | env,st=>(c env st).map λr=>(!r.1,r.2)
noncomputable def mB (a b:Tf):Tf
 | env,st=>(a env st).bind λr=>if r.1=true then b env r.2 else some (false,r.2)
noncomputable def jA (a b:Tf):Tf
 | env,st=>(a env st).bind λr=>if r.1=true then some (true,r.2) else b env r.2
noncomputable def kj (g:Sto->W->Option Bool) (a:Ef):Tf
 | env,st=>(a env st).bind λx=>(g x.2 x.1).map λk=>(k,x.2)
noncomputable def am:Af
 | _,st=>some ([],st)
noncomputable def ab (a:Ef) (r:Af):Af
 | env,st=>(a env st).bind λx=>(r env x.2).map λy=>(x.1::y.1,y.2)
noncomputable def iCB (g:Sto->List W->Option D) (a:Af):Ef
 | env,st=>(a env st).bind λr=>(g r.2 r.1).map λd=>(.d d,r.2)
noncomputable def iCL (g:Sto->List W->Option (List D)) (a:Af):Lf
 | env,st=>(a env st).bind λr=>(g r.2 r.1).map λd=>(d,r.2)
noncomputable def aZ (m:Fn) (a:Af):Ef
 | env,st=>(a env st).bind λr=>m r.1 r.2
noncomputable def iE:List W->Option (List D)
 | []=>some []
 | .d x::ws=>(iE ws).map λr=>x::r
 | .h _::_=>none
noncomputable def en (a:Af):Ef
 | env,st=>(a env st).bind λr=>(iE r.1).bind λds=>if ds.length<=1000 then some (.d (.tup ds),r.2) else none
noncomputable def dZ (a:Af):Lf
 | env,st=>(a env st).bind λr=>(iE r.1).bind λds=>if ds.length<=1000 then some (ds,r.2) else none
noncomputable def aV (a:Lf):Ef
 | env,st=>(a env st).map λr=>(.d (.lst r.1),r.2)
noncomputable def nL (a:Lf):Ef
 | env,st=>(a env st).map λr=>(.h r.2.length,r.2++[.l r.1])
section
variable {K:PySem.W.Frag}{X:Cx}{e a b c:Expr}{es:List Expr}{pos:Pos}{f fa fb fc:Ef}
theorem PE.imp {t t':TE} (h:PE X e t) (m:∀ σ H Q,t' σ H Q->t σ H Q):PE X e t':=λpins s σ H Q I q=>h pins s σ H Q I (m σ H Q q)
theorem PT.imp {t t':TT} (h:PT X e t) (m:∀ σ H Q,t' σ H Q->t σ H Q):PT X e t':=λpins s σ H Q I q=>h pins s σ H Q I (m σ H Q q)
theorem PW.imp {t t':TT} (h:PW X e t) (m:∀ σ H Q,t' σ H Q->t σ H Q):PW X e t':=λwh pins s σ H Q I q=>h wh pins s σ H Q I (m σ H Q q)
theorem PA.imp {t t':TA} (h:PA X es t) (m:∀ σ H Q,t' σ H Q->t σ H Q):PA X es t':=λpos pins s σ H Q I q=>h pos pins s σ H Q I (m σ H Q q)
theorem OpR.imp {g:Value->Value->Sem Value}{r r':R2} (h:OpR X g r) (m:∀ x y H Q,r' x y H Q->r x y H Q):OpR X g r':=λpins s σ H x y v u Q I rx ry q=>h pins s σ H x y v u Q I rx ry (m _ _ _ _ q)
theorem cW.imp {g:Value}{r r':List V->Hp->VK->Prop} (h:cW X g r) (m:∀ xs H Q,r' xs H Q->r xs H Q):cW X g r':=λpins s σ H xs us Q I rx q=>h pins s σ H xs us Q I rx (m _ _ _ q)
theorem oO:PE X e (λ_ _ _=>False):=λ_ _ _ _ _ _ q=>q.elim
theorem o8:PW X e (λ_ _ _=>False):=λ_ _ _ _ _ _ _ q=>q.elim
theorem zW {i:Nat}{x:Str}{t:TE} (h:PE X (.Name x pos) (Aj i)):IE K X (.Name x pos) (iV i):=by
 refine⟨λenv st r hr=>?_⟩
 unfold iV at hr
 obtain⟨w,hw,rfl⟩:=Option.map_eq_some_iff.mp hr
 refine h.imp ?_
 rintro σ H Q ⟨φ,hE,hS,q⟩
 have hi:env[i]?=some (some w):=by
  rw [List.getD] at hw
  cases q:env[i]? with
  | none=>rw [q] at hw;cases hw
  | some o=>rw [q] at hw;rw [show o=some w from hw]
 obtain⟨v,e1,r⟩:=hE.at_ i w hi
 exact⟨v,e1,q v H φ (Fw.refl φ H) hS r⟩
theorem iv (i:Nat) {x:Str} (hN:X.N[i]?=some x:=by rfl) (hv:Vis X.env.scope x:=by first | exact Or.inl rfl | exact Or.inr (Or.inl rfl) | exact Or.inr (Or.inr rfl)) (hd:(x==("__debug__" : Str))=false:=by decide)
  (hcd:(x==("__classdict__" : Str))=false:=by decide):IE K X (.Name x pos) (iV i):=zW (t:=Aj i) (zc hN hv hd hcd)
theorem xb {d:D}{v:V} (h:PE X e (tC v)) (r:∀ H φ,Rl K H φ d v):IE K X e (iC d):=by
 refine⟨λenv st r hr=>?_⟩
 cases hr
 refine h.imp ?_
 rintro σ H Q ⟨φ,hE,hS,q⟩
 exact q v H φ (Fw.refl φ H) hS (r H φ)
theorem ah {i j}:IE K X (.Constant (.int i) j pos) (iC (.int i)):=xb zh λ_ _=>rfl
theorem jt {i j}:IE K X (.Constant (.bool i) j pos) (iC (.bl i)):=xb A8 λ_ _=>rfl
theorem nK {x j}:IE K X (.Constant (.str x) j pos) (iC (.str x)):=xb zA λ_ _=>rfl
theorem ni {env:Ev}{st:Sto}{x y:W×Sto}{d:D}{σ:St}{H:Hp}{Q:VK} (h:tI K env st (.d d,y.2) σ H Q):tOp (rD K y.2 x.1 y.1 d) (tI K env st x) (tI K env x.2 y) σ H Q:=by
 obtain⟨φ,hE,hS,q⟩:=h
 refine⟨φ,hE,hS,λv H1 φ1 f1 s1 w1=>⟨φ1,hE.fw hS f1,s1,λu H2 φ2 f2 s2 w2=>⟨φ2,s2,w1.fw s1 f2,w2,λv3 H3 f3 w3=>?_⟩⟩⟩
 exact q v3 H3 φ2 ((f1.trans f2).trans (Fw.same f3)) (s2.same f3) w3
theorem aO {op:Operator}{g:Sto->W->W->Option D} (ho:OpD K X (binaryOp op) g) (ha:IE K X a fa) (hb:IE K X b fb):IE K X (.BinOp a op b pos) (iOp g fa fb):=by
 refine⟨λenv st r hr=>?_⟩
 simp only [iOp,Option.bind_eq_some_iff,Option.map_eq_some_iff] at hr
 obtain⟨x,hx,y,hy,d,hd,rfl⟩:=hr
 exact (Bn (ho.run _ _ _ _ hd) (ha.run _ _ _ hx) (hb.run _ _ _ hy)).imp λσ H Q h=>ni h
theorem vW {op:CmpOp}{g:Sto->W->W->Option D} (ho:OpD K X (compareOp op) g) (ha:IE K X a fa) (hb:IE K X b fb) (hm:behindInMarks op b=false):IE K X (.Compare a [op] [b] pos) (iOp g fa fb):=by
 refine⟨λenv st r hr=>?_⟩
 simp only [iOp,Option.bind_eq_some_iff,Option.map_eq_some_iff] at hr
 obtain⟨x,hx,y,hy,d,hd,rfl⟩:=hr
 exact (wA (ho.run _ _ _ _ hd) (ha.run _ _ _ hx) (hb.run _ _ _ hy) hm).imp λσ H Q h=>ni h
theorem t0 {d:D}{k:Bool} (h:mY d=some k):d=.bl k:=by
 cases d<;>first | (cases h;done) | (injection h with h;subst h;rfl)
theorem bU {op:CmpOp}{g:Sto->W->W->Option D} (ho:OpD K X (compareOp op) g) (ha:IE K X a fa) (hb:IE K X b fb) (hm:behindInMarks op b=false):IT K X (.Compare a [op] [b] pos) (bX g fa fb):=by
 refine⟨λenv st r hr=>?_⟩
 simp only [bX,Option.bind_eq_some_iff,Option.map_eq_some_iff] at hr
 obtain⟨x,hx,y,hy,d,hd,k,hk,rfl⟩:=hr
 cases t0 hk
 refine (wo (ho.run _ _ _ _ hd) (ha.run _ _ _ hx) (hb.run _ _ _ hy) hm).imp λσ H Q h=>?_
 obtain⟨φ,hE,hS,q⟩:=h
 refine ni ⟨φ,hE,hS,λv H1 φ1 f1 s1 w1=>⟨k,w1,q H1 φ1 f1 s1⟩⟩
noncomputable def oN:W->Option D
 | .d (.int i)=>some (.int (-i))
 | _=>none
theorem nQ (ha:IE K X a fa):IE K X (.UnaryOp .USub a pos) (iUn oN fa):=by
 refine⟨λenv st r hr=>?_⟩
 simp only [iUn,Option.bind_eq_some_iff,Option.map_eq_some_iff] at hr
 obtain⟨⟨x,s1⟩,hx,d,hd,rfl⟩:=hr
 cases x with
 | h n=>cases hd
 | d x=>
  cases x with
  | int i=>
   cases hd
   refine (AW yY (ha.run _ _ _ hx)).imp ?_
   rintro σ H Q ⟨φ,hE,hS,q⟩
   exact⟨φ,hE,hS,λv H1 φ1 f1 s1 w1=>⟨i,w1,q _ H1 φ1 f1 s1 rfl⟩⟩
  | _=>cases hd
variable {ta tb:Tf}
theorem i9 (ha:IT K X a ta):IT K X (.UnaryOp .Not a pos) (gj ta):=by
 refine⟨λenv st r hr=>?_⟩
 simp only [gj,Option.map_eq_some_iff] at hr
 obtain⟨x,hx,rfl⟩:=hr
 refine (Ae (ha.run _ _ _ hx)).imp ?_
 rintro σ H Q ⟨φ,hE,hS,q⟩
 exact⟨φ,hE,hS,λH1 φ1 f1 s1=>q H1 φ1 f1 s1⟩
theorem jX (h:ITW K X a ta):IT K X a ta:=⟨λenv st r hr=>(h.run env st r hr).pt⟩
theorem vZ (h:IT K X a ta):ITW K X (.BoolOp .And [a] pos) ta:=⟨λenv st r hr=>xr (h.run env st r hr)⟩
theorem jM (h:IT K X a ta):ITW K X (.BoolOp .Or [a] pos) ta:=⟨λenv st r hr=>zE (h.run env st r hr)⟩
theorem xS {rest:List Expr} (ha:IT K X a ta) (hb:ITW K X (.BoolOp .And (b::rest) pos) tb):ITW K X (.BoolOp .And (a::b::rest) pos) (mB ta tb):=by
 refine⟨λenv st r hr=>?_⟩
 simp only [mB,Option.bind_eq_some_iff] at hr
 obtain⟨⟨k,s1⟩,hx,hr⟩:=hr
 cases k with
 | false=>
  rw [if_neg Bool.false_ne_true] at hr
  cases hr
  refine (uJ (ha.run _ _ _ hx) o8).imp ?_
  rintro σ H Q ⟨φ,hE,hS,q⟩
  refine⟨φ,hE,hS,λH1 φ1 f1 s1=>?_⟩
  refine tX ?_
  exact q H1 φ1 f1 s1
 | true=>
  rw [if_pos rfl] at hr
  refine (uJ (ha.run _ _ _ hx) (hb.run _ _ _ hr)).imp ?_
  rintro σ H Q ⟨φ,hE,hS,q⟩
  refine⟨φ,hE,hS,λH1 φ1 f1 s1=>?_⟩
  refine sK ?_
  exact⟨φ1,hE.fw hS f1,s1,λH2 φ2 f2 s2=>q H2 φ2 (f1.trans f2) s2⟩
theorem fA {rest:List Expr} (ha:IT K X a ta) (hb:ITW K X (.BoolOp .Or (b::rest) pos) tb):ITW K X (.BoolOp .Or (a::b::rest) pos) (jA ta tb):=by
 refine⟨λenv st r hr=>?_⟩
 simp only [jA,Option.bind_eq_some_iff] at hr
 obtain⟨⟨k,s1⟩,hx,hr⟩:=hr
 cases k with
 | true=>
  rw [if_pos rfl] at hr
  cases hr
  refine (yn (ha.run _ _ _ hx) o8).imp ?_
  rintro σ H Q ⟨φ,hE,hS,q⟩
  refine⟨φ,hE,hS,λH1 φ1 f1 s1=>?_⟩
  refine sK ?_
  exact q H1 φ1 f1 s1
 | false=>
  rw [if_neg Bool.false_ne_true] at hr
  refine (yn (ha.run _ _ _ hx) (hb.run _ _ _ hr)).imp ?_
  rintro σ H Q ⟨φ,hE,hS,q⟩
  refine⟨φ,hE,hS,λH1 φ1 f1 s1=>?_⟩
  refine tX ?_
  exact⟨φ1,hE.fw hS f1,s1,λH2 φ2 f2 s2=>q H2 φ2 (f1.trans f2) s2⟩
theorem AZ {tc:Tf} (hc:IT K X c tc) (ha:IE K X a fa) (hb:IE K X b fb):IE K X (.IfExp c a b pos) (qf tc fa fb):=by
 refine⟨λenv st r hr=>?_⟩
 simp only [qf,Option.bind_eq_some_iff] at hr
 obtain⟨⟨k,s1⟩,hx,hr⟩:=hr
 cases k with
 | true=>
  rw [if_pos rfl] at hr
  refine (oW (hc.run _ _ _ hx) (ha.run _ _ _ hr) oO).imp ?_
  rintro σ H Q ⟨φ,hE,hS,q⟩
  refine⟨φ,hE,hS,λH1 φ1 f1 s1=>?_⟩
  refine sK ?_
  exact⟨φ1,hE.fw hS f1,s1,λu H2 φ2 f2 s2 w2=>q u H2 φ2 (f1.trans f2) s2 w2⟩
 | false=>
  rw [if_neg Bool.false_ne_true] at hr
  refine (oW (hc.run _ _ _ hx) oO (hb.run _ _ _ hr)).imp ?_
  rintro σ H Q ⟨φ,hE,hS,q⟩
  refine⟨φ,hE,hS,λH1 φ1 f1 s1=>?_⟩
  refine tX ?_
  exact⟨φ1,hE.fw hS f1,s1,λu H2 φ2 f2 s2 w2=>q u H2 φ2 (f1.trans f2) s2 w2⟩
noncomputable def el (st:Sto):W->Option (List D)
 | .d (.tup ds)=>some ds
 | .d (.lst ds)=>some ds
 | .d (.scr ns)=>some (ns.map D.int)
 | .h n=>lg st n
 | _=>none
theorem oz {st:Sto}{H:Hp}{φ:List Addr}{w:W}{v:V}{ds:List D} (S:Sr K H φ st) (r:Rw K H φ w v) (e:el st w=some ds):∃ a vs,v=.ref a/\(SqL K H a vs\/H a=some (.tup vs))/\Rls K H φ ds vs:=by
 cases w with
 | h n=>
  obtain⟨a,ea,rfl⟩:=r
  obtain⟨vs,q,rl⟩:=S.atl n a ds ea e
  exact⟨a,vs,rfl,.inl (SqL.of q),rl⟩
 | d x=>
  cases x with
  | tup es=>cases e;obtain⟨a,vs,rfl,h1,h2⟩:=r;exact⟨a,vs,rfl,.inr h1,h2⟩
  | lst es=>cases e;obtain⟨a,vs,rfl,h0,h1,h2⟩:=r;exact⟨a,vs,rfl,.inl (.inl h1),h2⟩
  | scr ns=>
   cases e
   obtain⟨a,rfl,h⟩:=r
   refine⟨a,_,rfl,.inl ?_,Rls.of_ints ns⟩
   rcases h with⟨o,h⟩ | h
   ·exact .inl (.inr ⟨o,h⟩)
   ·exact .inr h
  | _=>cases e
theorem im {st:Sto}{H:Hp}{φ:List Addr}{w:W}{v:V}{ds:List D} (S:Sr K H φ st) (r:Rw K H φ w v) (e:el st w=some ds):∃ a vs,v=.ref a/\(SqL K H a vs\/SqT K H a vs)/\Rls K H φ ds vs:=by
 obtain⟨a,vs,h0,h1,h2⟩:=oz S r e
 exact⟨a,vs,h0,h1.imp id SqT.of,h2⟩
noncomputable def kK (st:Sto):W->Option Bool
 | .d .non=>some false
 | .d (.bl b)=>some b
 | .d (.int i)=>some (i != 0)
 | w=>(el st w).map λds=>!ds.isEmpty
theorem wD {st:Sto}{H:Hp}{φ:List Addr}{w:W}{v:V}{k:Bool} (S:Sr K H φ st) (r:Rw K H φ w v) (e:kK st w=some k):x8 K v H k:=by
 have seq:∀ ds,el st w=some ds->k=!ds.isEmpty->x8 K v H k:=λds h hk=>by
  obtain⟨a,vs,rfl,h1,h2⟩:=im S r h
  have hl:=h2.length
  have e':k=!vs.isEmpty:=by
   rw [hk]
   cases ds<;>cases vs<;>first | rfl | cases hl
  rcases h1 with h1 | h1
  ·exact .inl ⟨vs,h1,e'⟩
  ·exact .inr (.inl ⟨vs,h1,e'⟩)
 cases w with
 | h n=>
  obtain⟨ds,h1,h2⟩:=Option.map_eq_some_iff.mp e
  exact seq ds h1 h2.symm
 | d x=>
  cases x with
  | non=>have r':v=.non:=r;subst r';cases e;exact rfl
  | bl b=>have r':v=.bl b:=r;subst r';cases e;exact rfl
  | int i=>have r':v=.int i:=r;subst r';cases e;exact rfl
  | tup ds=>exact seq ds rfl (Option.some.inj e).symm
  | lst ds=>exact seq ds rfl (Option.some.inj e).symm
  | scr ds=>exact seq _ rfl (Option.some.inj e).symm
  | _=>cases e
theorem gR (ha:IE K X a fa) (he:uz a=true:=by rfl) (hK:X.K=K:=by rfl):IT K X a (kj kK fa):=by
 subst hK
 refine⟨λenv st r hr=>?_⟩
 simp only [kj,Option.bind_eq_some_iff,Option.map_eq_some_iff] at hr
 obtain⟨x,hx,k,hk,rfl⟩:=hr
 refine (ul (ha.run _ _ _ hx) (sH he)).imp ?_
 rintro σ H Q ⟨φ,hE,hS,q⟩
 exact⟨φ,hE,hS,λv H1 φ1 f1 s1 w1=>⟨k,wD s1 w1 hk,q H1 φ1 f1 s1⟩⟩
variable {af:Af}
theorem aj:IA K X [] am:=by
 refine⟨λenv st r hr=>?_⟩
 cases hr
 refine zi.imp ?_
 rintro σ H Q ⟨φ,hE,hS,q⟩
 exact q [] H φ (Fw.refl φ H) hS rfl
theorem aa (ha:IE K X e fa) (hr:IA K X es af) (hs:aA e=true:=by rfl):IA K X (e::es) (ab fa af):=by
 refine⟨λenv st r h=>?_⟩
 simp only [ab,Option.bind_eq_some_iff,Option.map_eq_some_iff] at h
 obtain⟨x,hx,y,hy,rfl⟩:=h
 refine (wm (ha.run _ _ _ hx) (hr.run _ _ _ hy) (aX hs)).imp ?_
 rintro σ H Q ⟨φ,hE,hS,q⟩
 refine⟨φ,hE,hS,λv H1 φ1 f1 s1 w1=>⟨φ1,hE.fw hS f1,s1,λu H2 φ2 f2 s2 w2=>?_⟩⟩
 exact q _ H2 φ2 (f1.trans f2) s2 ⟨v,u,rfl,w1.fw s1 f2,w2⟩
theorem cJ {x:Str}{id:String}{p:Pos}{g:Sto->List W->Option D} (hc:gZ K X (.builtin id) g) (hg:Gl X x) (hm:X.mg x=none) (hv:bootBuiltins x=some (.builtin id)) (ha:IA K X (e::es) af)
  (hn:x≠"__name__":=by decide) (hdb:(x==("__debug__" : Str))=false:=by decide) (hs:aA e=true:=by rfl) (hp:es.all aA=true:=by rfl) :
  IE K X (.Call (.Name x p) (e::es) [] pos) (iCB g af):=by
 refine⟨λenv st r hr=>?_⟩
 simp only [iCB,Option.bind_eq_some_iff,Option.map_eq_some_iff] at hr
 obtain⟨y,hy,d,hd,rfl⟩:=hr
 refine (lj (hc.run _ _ _ hd) hg hm hv (ha.run _ _ _ hy) hn hdb (aX hs) (bY hp)).imp ?_
 rintro σ H Q ⟨φ,hE,hS,q⟩
 exact⟨φ,hE,hS,λv H1 φ1 f1 s1 w1=>⟨φ1,s1,w1,λu H2 f2 w2=>q u H2 φ1 (f1.trans (Fw.same f2)) (s1.same f2) w2⟩⟩
theorem jq {x:Str}{T:String}{p:Pos}{g:Sto->List W->Option D} (hc:gZ K X (.type T) g) (hg:Gl X x) (hm:X.mg x=none) (hv:bootBuiltins x=some (.type T)) (ha:IA K X (e::es) af)
  (hn:x≠"__name__":=by decide) (hdb:(x==("__debug__" : Str))=false:=by decide) (hs:aA e=true:=by rfl) (hp:es.all aA=true:=by rfl) :
  IE K X (.Call (.Name x p) (e::es) [] pos) (iCB g af):=by
 refine⟨λenv st r hr=>?_⟩
 simp only [iCB,Option.bind_eq_some_iff,Option.map_eq_some_iff] at hr
 obtain⟨y,hy,d,hd,rfl⟩:=hr
 refine (tj (hc.run _ _ _ hd) hg hm hv (ha.run _ _ _ hy) hn hdb (aX hs) (bY hp)).imp ?_
 rintro σ H Q ⟨φ,hE,hS,q⟩
 exact⟨φ,hE,hS,λv H1 φ1 f1 s1 w1=>⟨φ1,s1,w1,λu H2 f2 w2=>q u H2 φ1 (f1.trans (Fw.same f2)) (s1.same f2) w2⟩⟩
theorem Bh {x:Str}{id:String}{p:Pos}{g:Sto->List W->Option (List D)} (hc:yt K X (.builtin id) g) (hg:Gl X x) (hm:X.mg x=none) (hv:bootBuiltins x=some (.builtin id)) (ha:IA K X (e::es) af)
  (hn:x≠"__name__":=by decide) (hdb:(x==("__debug__" : Str))=false:=by decide) (hs:aA e=true:=by rfl) (hp:es.all aA=true:=by rfl) :
  IL K X (.Call (.Name x p) (e::es) [] pos) (iCL g af):=by
 refine⟨λenv st r hr=>?_⟩
 simp only [iCL,Option.bind_eq_some_iff,Option.map_eq_some_iff] at hr
 obtain⟨y,hy,d,hd,rfl⟩:=hr
 refine (lj (hc.run _ _ _ hd) hg hm hv (ha.run _ _ _ hy) hn hdb (aX hs) (bY hp)).imp ?_
 rintro σ H Q ⟨φ,hE,hS,q⟩
 exact⟨φ,hE,hS,λv H1 φ1 f1 s1 w1=>⟨φ1,s1,w1,λa us H2 f2 n2 w2=>q a us H2 φ1 (f1.trans (Fw.same f2)) (s1.same f2) n2 w2⟩⟩
theorem kN {H:Hp}{φ:List Addr}:∀ {ws:List W}{vs:List V}{ds:List D},iE ws=some ds->Rws K H φ ws vs->Rls K H φ ds vs
 | [],_,_,e,h=>by cases e;exact h
 | .d x::ws,_,_,e,h=>by
  obtain⟨v,r,rfl,h1,h2⟩:=h
  obtain⟨es,e1,rfl⟩:=Option.map_eq_some_iff.mp e
  exact⟨v,r,rfl,h1,kN e1 h2⟩
 | .h n::ws,_,_,e,h=>by cases e
theorem fz {x1} (h:IA K X es af):IE K X (.Tuple es x1 pos) (en af):=by
 refine⟨λenv st r hr=>?_⟩
 simp only [en,Option.bind_eq_some_iff] at hr
 obtain⟨y,hy,ds,hd,hr⟩:=hr
 split at hr
 ·cases hr
  rename_i hl
  refine (yE (h.run _ _ _ hy)).imp ?_
  rintro σ H Q ⟨φ,hE,hS,q⟩
  refine⟨φ,hE,hS,λvs H1 φ1 f1 s1 w1=>?_⟩
  have w:=kN hd w1
  refine⟨by rw [<-w.length];exact eJ hl,λp hp=>?_⟩
  exact q _ _ φ1 (f1.trans (Fw.new hp)) (s1.new hp) ⟨p,vs,rfl,aP,w.fw s1 (Fw.new hp)⟩
 ·cases hr
theorem fO (h:IA K X es af):IL K X (.List es pos) (dZ af):=by
 refine⟨λenv st r hr=>?_⟩
 simp only [dZ,Option.bind_eq_some_iff] at hr
 obtain⟨y,hy,ds,hd,hr⟩:=hr
 split at hr
 ·cases hr
  rename_i hl
  refine (uP (h.run _ _ _ hy)).imp ?_
  rintro σ H Q ⟨φ,hE,hS,q⟩
  refine⟨φ,hE,hS,λvs H1 φ1 f1 s1 w1=>?_⟩
  have w:=kN hd w1
  exact⟨by rw [<-w.length];exact eJ hl,λp hp=>q p vs H1 φ1 f1 s1 hp w⟩
 ·cases hr
theorem bp {lf:Lf} (h:IL K X e lf):IE K X e (aV lf):=by
 refine⟨λenv st r hr=>?_⟩
 simp only [aV,Option.map_eq_some_iff] at hr
 obtain⟨y,hy,rfl⟩:=hr
 refine (h.run _ _ _ hy).imp ?_
 rintro σ H Q ⟨φ,hE,hS,q⟩
 refine⟨φ,hE,hS,λa vs H1 φ1 f1 s1 n1 w1=>?_⟩
 exact q _ _ φ1 (f1.trans (Fw.new n1)) (s1.new n1) ⟨a,vs,rfl,s1.nin n1,.inl aP,w1.fw s1 (Fw.new n1)⟩
theorem Sr.moreC {H:Hp}{φ:List Addr}{st:Sto}{a:Addr}{o:HO}{c:C} (S:Sr K H φ st) (n:H a=none) (w:Rc K (upd H a o) (φ++[a]) φ.length a c):Sr K (upd H a o) (φ++[a]) (st++[c]):=by
 have f:Fw φ (φ++[a]) H (upd H a o):=⟨⟨[a],rfl,λb hb=>by rw [List.mem_singleton.mp hb];exact n⟩,λb o _ h=>br.new n _ b o h,λb o h=>⟨o,br.new n _ b o h⟩⟩
 refine⟨?_,by rw [List.length_append,List.length_append,S.len];rfl,λi b es e1 e2=>?_⟩
 ·rw [List.nodup_append]
  refine⟨S.nd,by simp,λx hx y hy e=>?_⟩
  rw [List.mem_singleton.mp hy] at e
  rw [e] at hx
  exact S.nin n hx
 ·by_cases hi:i < φ.length
  ·rw [List.getElem?_append_left hi] at e1
   rw [List.getElem?_append_left (by rw [<-S.len];exact hi)] at e2
   exact (S.at_ i b es e1 e2).fw S f λo h=>br.new n _ _ _ h
  ·have e:i=φ.length:=by
    have:=(List.getElem?_eq_some_iff.mp e1).1
    rw [List.length_append] at this
    simp at this
    lia
   subst e
   rw [List.getElem?_append_right (Nat.le_refl _)] at e1
   rw [S.len,List.getElem?_append_right (Nat.le_refl _)] at e2
   simp at e1 e2
   subst e1 e2
   exact w
theorem Fw.moreO {H:Hp}{φ:List Addr}{a:Addr}{o:HO} (n:H a=none):Fw φ (φ++[a]) H (upd H a o):=
 ⟨⟨[a],rfl,λb hb=>by rw [List.mem_singleton.mp hb];exact n⟩,λb o _ h=>br.new n _ b o h,λb o h=>⟨o,br.new n _ b o h⟩⟩
theorem Fw.more {H:Hp}{φ:List Addr}{a:Addr}{vs:List V} (n:H a=none):Fw φ (φ++[a]) H (upd H a (.lst vs)):=Fw.moreO n
theorem Sr.more {H:Hp}{φ:List Addr}{st:Sto}{a:Addr}{vs:List V}{ds:List D} (S:Sr K H φ st) (n:H a=none) (w:Rls K H φ ds vs):Sr K (upd H a (.lst vs)) (φ++[a]) (st++[.l ds]):=
 S.moreC n ⟨vs,aP,w.fw S (Fw.moreO n)⟩
theorem pU {lf:Lf} (h:IL K X e lf):IE K X e (nL lf):=by
 refine⟨λenv st r hr=>?_⟩
 simp only [nL,Option.map_eq_some_iff] at hr
 obtain⟨y,hy,rfl⟩:=hr
 refine (h.run _ _ _ hy).imp ?_
 rintro σ H Q ⟨φ,hE,hS,q⟩
 refine⟨φ,hE,hS,λa vs H1 φ1 f1 s1 n1 w1=>?_⟩
 exact q _ _ (φ1++[a]) (f1.trans (Fw.more n1)) (s1.more n1 w1) ⟨a,by rw [<-s1.len];simp,rfl⟩
noncomputable def spI (K:PySem.W.Frag) (m:Fn):Sp:=λvs H Q _=>∃ φ st ws r,m ws st=some r/\Rws K H φ ws vs/\Sr K H φ st/\∀ v H' φ',Fw φ φ' H H'->Sr K H' φ' r.2->Rw K H' φ' r.1 v->Q v H'
theorem aE {x:Str}{k j:Nat}{ff:Addr}{fd:FuncData}{ps:List Str}{m:Fn}{p:Pos} (F:bE X.prog X.w X.K X.mg X.base CX0 j ff fd ps (spI K m)) (hjk:j<=k) (hr:bu k X.A) (hg:Gl X x) (hm:X.mg x=some (.ref ff)) (hk:PySem.W.keepIn X.K (.ref ff)=true) (hb:b9 X.K fd ps [])
  (ha:IA K X (e::es) af) (hdb:(x==("__debug__" : Str))=false:=by decide) (hs:aA e=true:=by rfl) (hp:es.all aA=true:=by rfl) :
  IE K X (.Call (.Name x p) (e::es) [] pos) (aZ m af):=by
 refine⟨λenv st r h=>?_⟩
 simp only [aZ,Option.bind_eq_some_iff] at h
 obtain⟨y,hy,h⟩:=h
 refine (xz (F.mono hjk) hr hg hm hk hb .nil AT (ha.run _ _ _ hy) hdb (aX hs) (bY hp)).imp ?_
 rintro σ H Q ⟨φ,hE,hS,q⟩
 refine⟨φ,hE,hS,λvs H1 φ1 f1 s1 w1=>?_⟩
 show spI K m (vs++[]) H1 Q E0
 rw [List.append_nil]
 exact⟨φ1,y.2,y.1,r,h,w1,s1,λv H2 φ2 f2 s2 w2=>q v H2 φ2 (f1.trans f2) s2 w2⟩
end
end L2
namespace L2
open PySem PySem.Spec PyProof.Rows
inductive Fl where
 | nx (env:Ev) (st:Sto) | rt (w:W) (st:Sto) | bk (env:Ev) (st:Sto) | ct (env:Ev) (st:Sto)
abbrev Sf:=Ev->Sto->Option Fl
noncomputable def uX (K:PySem.W.Frag) (φ:List Addr) (H:Hp) (D:oQ):Fl->Prop
 | .nx e s=>∀ σ' H' φ',Fw φ φ' H H'->Er K H' φ' e σ'->Sr K H' φ' s->D.nx σ' H'
 | .rt w s=>∀ v H' φ',Fw φ φ' H H'->Sr K H' φ' s->Rw K H' φ' w v->D.rt v H'
 | .bk e s=>∀ σ' H' φ',Fw φ φ' H H'->Er K H' φ' e σ'->Sr K H' φ' s->D.bk σ' H'
 | .ct e s=>∀ σ' H' φ',Fw φ φ' H H'->Er K H' φ' e σ'->Sr K H' φ' s->D.ct σ' H'
theorem uX.fw {K:PySem.W.Frag}{φ φ1:List Addr}{H H1:Hp}{D:oQ}{r:Fl} (h:uX K φ H D r) (f:Fw φ φ1 H H1):uX K φ1 H1 D r:=by
 cases r with
 | nx e s=>exact λσ' H' φ' f'=>h σ' H' φ' (f.trans f')
 | rt w s=>exact λv H' φ' f'=>h v H' φ' (f.trans f')
 | bk e s=>exact λσ' H' φ' f'=>h σ' H' φ' (f.trans f')
 | ct e s=>exact λσ' H' φ' f'=>h σ' H' φ' (f.trans f')
noncomputable def tS (K:PySem.W.Frag) (env:Ev) (st:Sto) (r:Fl):TS:=λD σ H=>∃ φ,Er K H φ env σ/\Sr K H φ st/\uX K φ H D r
structure IS (K:PySem.W.Frag) (X:Cx) (s:Stmt) (g:Sf):Prop where
 run:∀ env st r,g env st=some r->PS X s (tS K env st r)
structure ISs (K:PySem.W.Frag) (X:Cx) (s:List Stmt) (g:Sf):Prop where
 run:∀ env st r,g env st=some r->PSs X s (tS K env st r)
inductive Tg where
 | nm (i:Nat) | tp (is:List Nat)
noncomputable def xB:Tg->List Nat
 | .nm i=>[i]
 | .tp is=>is
noncomputable def ln:List Nat->List D->Ev->Ev
 | i::is,d::ds,env=>ln is ds (env.set i (some (.d d)))
 | _,_,env=>env
noncomputable def d8:Tg->W->Ev->Option Ev
 | .nm i,w,env=>some (env.set i (some w))
 | .tp is,.d (.tup ds),env=>if is.length=ds.length then some (ln is ds env) else none
 | .tp is,.d (.lst ds),env=>if is.length=ds.length then some (ln is ds env) else none
 | _,_,_=>none
noncomputable def xG (is:List Nat) (σ σ':St):Prop:=σ'.length=σ.length/\∀ j,j ∉ is->σ'[j]?=σ[j]?
noncomputable def tG (K:PySem.W.Frag) (g:Tg):TG:=λv σ H Q=>∃ φ st env w env',Er K H φ env σ/\Sr K H φ st/\Rw K H φ w v/\d8 g w env=some env'/\∀ σ',Er K H φ env' σ'->xG (xB g) σ σ'->Q σ' H
noncomputable def tGs (K:PySem.W.Frag) (is:List Nat):TGs:=λvs σ H Q=>∃ φ st env ds,Er K H φ env σ/\Sr K H φ st/\Rls K H φ ds vs/\is.length=ds.length/\∀ σ',Er K H φ (ln is ds env) σ'->xG is σ σ'->Q σ' H
noncomputable def er:Sf
 | env,st=>some (.nx env st)
noncomputable def aJ (a b:Sf):Sf
 | env,st=>(a env st).bind λr=>match r with
 | .nx e s=>b e s
 | r=>some r
noncomputable def bO (g:Tg) (f:Ef):Sf
 | env,st=>(f env st).bind λr=>(d8 g r.1 env).map λe=>.nx e r.2
noncomputable def ue (i j:Nat) (a:Af):Sf
 | env,st=>(a env st).bind λr=>match r.1 with
 | [x,y]=>some (.nx ((env.set i (some x)).set j (some y)) r.2)
 | _=>none
noncomputable def pH (st:Sto) (o i v:W):Option Sto:=match o,i,v with
 | .h n,.d (.int k),.d x=>(lg st n).bind λds=>(ixN ds.length k).map λj=>st.set n (.l (ds.set j x))
 | _,_,_=>none
noncomputable def ka (o i v:Ef):Sf
 | env,st=>(v env st).bind λrv=>(o env rv.2).bind λro=>(i env ro.2).bind λri=>(pH ri.2 ro.1 ri.1 rv.1).map λs=>.nx env s
noncomputable def cj (f:Ef):Sf
 | env,st=>(f env st).map λr=>.rt r.1 r.2
noncomputable def gv (f:Ef):Sf
 | env,st=>(f env st).map λr=>.nx env r.2
noncomputable def eY (c:Tf) (a b:Sf):Sf
 | env,st=>(c env st).bind λr=>if r.1=true then a env r.2 else b env r.2
noncomputable def iS (g:Tg) (body:Sf):List D->Ev->Sto->Option Fl
 | [],env,st=>some (.nx env st)
 | d::ds,env,st=>(d8 g (.d d) env).bind λe=>(body e st).bind λr=>match r with
  | .nx e s=>iS g body ds e s
  | .ct e s=>iS g body ds e s
  | .bk e s=>some (.nx e s)
  | .rt w s=>some (.rt w s)
noncomputable def hX (fi:Lf) (g:Tg) (body:Sf):Sf
 | env,st=>(fi env st).bind λr=>iS g body r.1 env r.2
noncomputable def dU (c:Tf) (body:Sf):Nat->Ev->Sto->Option Fl
 | 0,_,_=>none
 | n+1,env,st=>(c env st).bind λk=>if k.1=true then (body env k.2).bind λr=>match r with
   | .nx e s=>dU c body n e s
   | .ct e s=>dU c body n e s
   | .bk e s=>some (.nx e s)
   | .rt w s=>some (.rt w s)
  else some (.nx env k.2)
noncomputable def lcI (g:Tg) (tt:Tf) (te:Ef) (env:Ev):List D->Sto->Option (List D×Sto)
 | [],st=>some ([],st)
 | d::ds,st=>(d8 g (.d d) env).bind λe=>(tt e st).bind λb=>if b.1=true then (te e b.2).bind λx=>(iE [x.1]).bind λys=>(lcI g tt te env ds x.2).map λr=>(ys++r.1,r.2)
   else lcI g tt te env ds b.2
noncomputable def jG (k:Nat) (js:List Nat) (env:Ev):Ev:=List.replicate k none++js.map λj=>env.getD j none
noncomputable def iLc (k:Nat) (js:List Nat) (fi:Lf) (g:Tg) (tt:Tf) (te:Ef):Lf
 | env,st=>(fi env st).bind λr=>if r.1.length<=1000000 then lcI g tt te (jG k js env) r.1 r.2 else none
noncomputable def dX:Tf
 | _,st=>some (true,st)
noncomputable def aR (f:Ef):Lf
 | env,st=>(f env st).bind λr=>match r.1 with
 | .d (.tup ds)=>some (ds,r.2)
 | .d (.lst ds)=>some (ds,r.2)
 | _=>none
noncomputable def gD (lo:Int) (n:Nat):List D:=(List.range n).map λk:Nat=>D.int (lo+k)
noncomputable def fS (a:Af):Lf
 | env,st=>(a env st).bind λr=>match r.1 with
 | [.d (.int j)]=>if -(2 ^ 62)<=j/\j < 2 ^ 62 then some (gD 0 j.toNat,r.2) else none
 | _=>none
section
variable {K:PySem.W.Frag}{X:Cx}{pos:Pos}
theorem PS.imp {s:Stmt}{t t':TS} (h:PS X s t) (m:∀ D σ H,t' D σ H->t D σ H):PS X s t':=λpins s σ H D I q=>h pins s σ H D I (m D σ H q)
theorem PSs.imp {s:List Stmt}{t t':TS} (h:PSs X s t) (m:∀ D σ H,t' D σ H->t D σ H):PSs X s t':=λpins s σ H D I q=>h pins s σ H D I (m D σ H q)
theorem Er.set {H:Hp}{φ:List Addr}{env:Ev}{σ:St} (h:Er K H φ env σ) (i:Nat) {w:W}{v:V} (r:Rw K H φ w v):Er K H φ (env.set i (some w)) (σ.set i (some v)):=by
 refine⟨by rw [List.length_set,List.length_set,h.len],λj w' e=>?_⟩
 by_cases hj:i=j
 ·subst hj
  have hi:i < env.length:=by
   have:=(List.getElem?_eq_some_iff.mp e).1
   rwa [List.length_set] at this
  rw [List.getElem?_set_self hi] at e
  cases e
  exact⟨v,by rw [List.getElem?_set_self (by rw [<-h.len];exact hi)],r⟩
 ·rw [List.getElem?_set_ne hj] at e
  obtain⟨v',e1,r1⟩:=h.at_ j w' e
  exact⟨v',by rw [List.getElem?_set_ne hj];exact e1,r1⟩
theorem v7 (i:Nat) (σ:St) (v:Option V):xG [i] σ (σ.set i v):=⟨by rw [List.length_set],λj hj=>by rw [List.getElem?_set_ne (by rintro rfl;simp at hj)]⟩
theorem b5 {i:Nat}{x:Str} (h:PG X (.Name x pos) (oR i)):PG X (.Name x pos) (tG K (.nm i)):=by
 intro pins s σ H v u Q I rv q
 obtain⟨φ,st,env,w,env',hE,hS,r,e,q⟩:=q
 cases e
 exact h pins s σ H v u Q I rv (q _ (hE.set i r) (v7 i σ _))
theorem eS:PGs X [] (tGs K []):=by
 intro pins s σ H vs us Q I rv q
 obtain⟨φ,st,env,ds,hE,hS,r,e,q⟩:=q
 cases ds with
 | nil=>cases r;exact wW pins s σ H [] us Q I rv ⟨rfl,q σ hE ⟨rfl,λ_ _=>rfl⟩⟩
 | cons _ _=>cases e
theorem bM {i:Nat}{is:List Nat}{x:Str}{es:List Expr} (h1:PG X (.Name x pos) (oR i)) (h2:PGs X es (tGs K is)):PGs X (.Name x pos::es) (tGs K (i::is)):=by
 intro pins s σ H vs us Q I rv q
 obtain⟨φ,st,env,ds,hE,hS,r,e,q⟩:=q
 cases ds with
 | nil=>cases e
 | cons d ds=>
  obtain⟨v,vr,rfl,r1,r2⟩:=r
  refine v6 h1 h2 (rP rfl) pins s σ H _ us Q I rv ⟨v,vr,rfl,φ,st,_,ds,hE.set i (w:=.d d) r1,hS,r2,by simpa using e,λσ' e' s'=>q σ' e' ?_⟩
  refine⟨by rw [s'.1,List.length_set],λj hj=>?_⟩
  rw [s'.2 j (λz=>hj (List.mem_cons_of_mem _ z)),List.getElem?_set_ne (by rintro rfl;exact hj List.mem_cons_self)]
noncomputable def BO (K:PySem.W.Frag) (n:Nat) (t:TGs):TG:=λv σ H Q=>∃ a xs,v=.ref a/\SqL K H a xs/\xs.length=n/\t xs σ H Q
theorem Aa {es:List Expr}{k:Nat}{t:TGs}{n:Nat} (hc:X.calm=true) (h:PGs X es t) (hn:(assignEach es X.env).length=n) (hst:(assignEach es X.env).findIdx? (·.1)=none):PG X (.Tuple es k pos) (BO X.K n t):=by
 intro pins s σ H v u Q I r hw
 obtain⟨a,xs,e1,hq,hl,hw⟩:=hw
 subst e1
 cases r
 obtain⟨its,rv,p,hz⟩:=I.list hq
 rw [assign_Tuple]
 refine wpAny_bind (wpAny_standAt ?_)
 unfold unpack
 rw [show (assignEach es X.env).length=its.toArray.size by simp [hn,<-hl,rv.length],hst]
 refine wpAny_bind (wpAny_holding (PySem.W.kun_itemsOf (I.ok.hd hc) p.isList λh' hx=>?_))
 have I1:Inv X pins σ H { s with heap:=h' }:=I.kept (t':=s.toks) λb o e=>hx b o (Nat.ne_of_lt (Heap.lt_size e)) e
 exact h pins _ σ H xs _ Q I1 (by simpa using rv) hw
theorem gJ {es:List Expr}{k n:Nat}{is:List Nat} (h:PGs X es (tGs K is)) (hes:es.all aA=true:=by rfl) (hn:es.length=n:=by rfl) (hi:is.length=n:=by rfl) (hc:X.calm=true:=by rfl) (hK:X.K=K:=by rfl):PG X (.Tuple es k pos) (tG K (.tp is)):=by
 subst hK
 intro pins s σ H v u Q I rv q
 obtain⟨φ,st,env,w,env',hE,hS,r,e,q⟩:=q
 cases w with
 | h n=>cases e
 | d x=>
  cases x with
  | tup ds=>
   have e':(if is.length=ds.length then some (ln is ds env) else none)=some env':=e
   by_cases hl:is.length=ds.length
   ·rw [if_pos hl] at e'
    cases e'
    obtain⟨a,vs,rfl,hq,hr⟩:=r
    exact za hc h ((nk hes).trans hn) (kF hes) pins s σ H _ u Q I rv ⟨a,vs,rfl,(SqT.of hq),by rw [<-hr.length,<-hl,hi],φ,st,env,ds,hE,hS,hr,hl,q⟩
   ·rw [if_neg hl] at e'
    cases e'
  | lst ds=>
   have e':(if is.length=ds.length then some (ln is ds env) else none)=some env':=e
   by_cases hl:is.length=ds.length
   ·rw [if_pos hl] at e'
    cases e'
    obtain⟨a,vs,rfl,_,hq,hr⟩:=r
    exact Aa hc h ((nk hes).trans hn) (kF hes) pins s σ H _ u Q I rv ⟨a,vs,rfl,.inl hq,by rw [<-hr.length,<-hl,hi],φ,st,env,ds,hE,hS,hr,hl,q⟩
   ·rw [if_neg hl] at e'
    cases e'
  | _=>cases e
variable {s:Stmt}{ss rest:List Stmt}{e a b c:Expr}{ga gb:Sf}{f fa fb fc:Ef}
theorem cS:ISs K X [] er:=by
 refine⟨λenv st r hr=>?_⟩
 cases hr
 exact x9.imp λD σ H ⟨φ,hE,hS,q⟩=>q σ H φ (Fw.refl φ H) hE hS
theorem aw (h:IS K X s ga):ISs K X [s] ga:=⟨λenv st r hr=>wS (h.run env st r hr)⟩
theorem ap (h1:IS K X s ga) (h2:ISs K X rest gb):ISs K X (s::rest) (aJ ga gb):=by
 refine⟨λenv st r hr=>?_⟩
 simp only [aJ,Option.bind_eq_some_iff] at hr
 obtain⟨r1,e1,hr⟩:=hr
 cases r1 with
 | nx e s1=>
  refine (gW (h1.run _ _ _ e1) (h2.run _ _ _ hr)).imp ?_
  rintro D σ H ⟨φ,hE,hS,q⟩
  exact⟨φ,hE,hS,λσ' H' φ' f' e' s'=>⟨φ',e',s',q.fw f'⟩⟩
 | rt w s1=>
  cases hr
  exact (gW (h1.run _ _ _ e1) eB).imp λD σ H ⟨φ,hE,hS,q⟩=>⟨φ,hE,hS,q⟩
 | bk w s1=>
  cases hr
  exact (gW (h1.run _ _ _ e1) eB).imp λD σ H ⟨φ,hE,hS,q⟩=>⟨φ,hE,hS,q⟩
 | ct w s1=>
  cases hr
  exact (gW (h1.run _ _ _ e1) eB).imp λD σ H ⟨φ,hE,hS,q⟩=>⟨φ,hE,hS,q⟩
theorem b4 {i:Nat}{x:Str}{pos':Pos} (hN:X.N.Nodup) (hi:X.N[i]?=some x) (hx:Loc X.env.scope x) (he:IE K X e f) (hs:swapsWith e (some (.Name x pos')) pos.line X.env=pure false:=by rfl) (hf:X.fn x=true\/X.env.scope.names.lookup x=some .local:=by first | exact .inl rfl | exact .inr rfl | assumption) :
  IS K X (.Assign [.Name x pos'] e pos) (bO (.nm i) f):=by
 refine⟨λenv st r hr=>?_⟩
 simp only [bO,d8,Option.bind_eq_some_iff,Option.map_eq_some_iff] at hr
 obtain⟨y,hy,e',ee,rfl⟩:=hr
 cases ee
 refine (zQ hN hi hx (he.run _ _ _ hy) hs hf).imp ?_
 rintro D σ H ⟨φ,hE,hS,q⟩
 exact⟨φ,hE,hS,λv H1 φ1 f1 s1 w1=>q _ H1 φ1 f1 ((hE.fw hS f1).set i w1) s1⟩
theorem yR {tg:Expr}{g:Tg} (he:IE K X e f) (hg:PG X tg (tG K g)) (hs:swapsWithSole [tg] e pos.line X.env=pure false:=by rfl) (hw:swappedStores [tg] e X.env=pure none:=by rfl)
  (h1:aA tg=true:=by rfl):IS K X (.Assign [tg] e pos) (bO g f):=by
 refine⟨λenv st r hr=>?_⟩
 simp only [bO,Option.bind_eq_some_iff,Option.map_eq_some_iff] at hr
 obtain⟨y,hy,e',ee,rfl⟩:=hr
 refine (qS (he.run _ _ _ hy) hg hs hw (np h1)).imp ?_
 rintro D σ H ⟨φ,hE,hS,q⟩
 exact⟨φ,hE,hS,λv H1 φ1 f1 s1 w1=>⟨φ1,y.2,env,y.1,e',hE.fw hS f1,s1,w1,ee,λσ' e'' _=>q σ' H1 φ1 f1 e'' s1⟩⟩
theorem Sr.putC {H:Hp}{φ:List Addr}{st:Sto}{n:Nat}{a:Addr}{o:HO}{c:C} (S:Sr K H φ st) (hn:φ[n]?=some a) (w:Fw φ φ H (upd H a o)->Rc K (upd H a o) φ n a c) :
  Fw φ φ H (upd H a o)/\Sr K (upd H a o) φ (st.set n c):=by
 have ha:a ∈ φ:=List.mem_of_getElem? hn
 have f:Fw φ φ H (upd H a o):=⟨⟨[],by simp,by simp⟩,λb o hb h=>by rw [aK (λz=>hb (by rw [z];exact ha))];exact h,λb o h=>by
  by_cases z:b=a
  ·subst z;exact⟨_,aP⟩
  ·exact⟨o,by rw [aK z];exact h⟩⟩
 refine⟨f,S.nd,by rw [List.length_set];exact S.len,λm b es e1 e2=>?_⟩
 by_cases hm:n=m
 ·subst hm
  rw [e1] at hn;cases hn
  have hl:n < st.length:=by rw [<-S.len];exact (List.getElem?_eq_some_iff.mp e1).1
  rw [List.getElem?_set_self hl] at e2
  cases e2
  exact w f
 ·rw [List.getElem?_set_ne hm] at e2
  have q:=S.at_ m b es e1 e2
  have hne:b≠a:=by
   rintro rfl
   obtain⟨h1,h1'⟩:=List.getElem?_eq_some_iff.mp hn
   obtain⟨h2,h2'⟩:=List.getElem?_eq_some_iff.mp e1
   exact hm ((List.getElem_inj S.nd).mp (h1'.trans h2'.symm))
  exact q.fw S f λo h=>by rw [aK hne];exact h
theorem Sr.put {H:Hp}{φ:List Addr}{st:Sto}{n:Nat}{a:Addr}{vs:List V}{ds:List D} (S:Sr K H φ st) (hn:φ[n]?=some a) (w:Rls K H φ ds vs) :
  Fw φ φ H (upd H a (.lst vs))/\Sr K (upd H a (.lst vs)) φ (st.set n (.l ds)):=S.putC hn λf=>⟨vs,aP,w.fw S f⟩
theorem qi {st s':Sto}{o i v:W} (h:pH st o i v=some s'):∃ n k x ds j,o=.h n/\i=.d (.int k)/\v=.d x/\lg st n=some ds/\ixN ds.length k=some j/\s'=st.set n (.l (ds.set j x)):=by
 unfold pH at h
 split at h
 ·obtain⟨ds,e1,h⟩:=Option.bind_eq_some_iff.mp h
  obtain⟨j,e2,h⟩:=Option.map_eq_some_iff.mp h
  exact⟨_,_,_,ds,j,rfl,rfl,rfl,e1,e2,h.symm⟩
 ·cases h
theorem uF {tpos:Pos} (ho:IE K X a fa) (hi:IE K X b fb) (hv:IE K X e f) (hb:i5 b=true:=by rfl) (hs:swapsWithSole [.Subscript a b tpos] e pos.line X.env=pure false:=by rfl) (hw:swappedStores [.Subscript a b tpos] e X.env=pure none:=by rfl) :
  IS K X (.Assign [.Subscript a b tpos] e pos) (ka fa fb f):=by
 refine⟨λenv st r hr=>?_⟩
 simp only [ka,Option.bind_eq_some_iff,Option.map_eq_some_iff] at hr
 obtain⟨rv,ev,ro,eo,ri,ei,s',es,rfl⟩:=hr
 refine (qS (hv.run _ _ _ ev) (vf (ho.run _ _ _ eo) (hi.run _ _ _ ei) oT (rf hb)) hs hw (np rfl)).imp ?_
 rintro D σ H ⟨φ,hE,hS,q⟩
 refine⟨φ,hE,hS,λv H1 φ1 f1 s1 w1=>⟨φ1,hE.fw hS f1,s1,λo H2 φ2 f2 s2 w2=>⟨φ2,(hE.fw hS f1).fw s1 f2,s2,λi H3 φ3 f3 s3 w3=>?_⟩⟩⟩
 have e3:=((hE.fw hS f1).fw s1 f2).fw s2 f3
 have w1':=(w1.fw s1 f2).fw s2 f3
 have w2':=w2.fw s2 f3
 obtain⟨ro1,ro2⟩:=ro
 obtain⟨rv1,rv2⟩:=rv
 obtain⟨ri1,ri2⟩:=ri
 obtain⟨n,k,x,ds,j,rfl,rfl,rfl,eds,ej,rfl⟩:=qi es
 obtain⟨p,ep,rfl⟩:=w2'
 obtain⟨vs,hp,rl⟩:=s3.atl n p ds ep eds
 have w3':i=.int k:=w3
 subst w3'
 obtain⟨f4,s4⟩:=s3.put ep (Rls.set j rl w1')
 refine⟨p,vs,k,j,rfl,rfl,hp,by rw [<-rl.length];exact ej,?_⟩
 exact q _ _ φ3 (((f1.trans f2).trans f3).trans f4) (e3.fw s3 f4) s4
theorem bq (h:IE K X e f):IS K X (.Return (some e) pos) (cj f):=by
 refine⟨λenv st r hr=>?_⟩
 simp only [cj,Option.map_eq_some_iff] at hr
 obtain⟨y,hy,rfl⟩:=hr
 exact (z9 (h.run _ _ _ hy)).imp λD σ H ⟨φ,hE,hS,q⟩=>⟨φ,hE,hS,q⟩
theorem mX (h:IE K X e f) (hs:swapsWith e none pos.line X.env=pure false:=by rfl):IS K X (.Expr e pos) (gv f):=by
 refine⟨λenv st r hr=>?_⟩
 simp only [gv,Option.map_eq_some_iff] at hr
 obtain⟨y,hy,rfl⟩:=hr
 exact (wN (h.run _ _ _ hy) hs).imp λD σ H ⟨φ,hE,hS,q⟩=>⟨φ,hE,hS,λv H1 φ1 f1 s1 w1=>q σ H1 φ1 f1 (hE.fw hS f1) s1⟩
theorem gw {tc:Tf}{sa sb:List Stmt} (hc:IT K X c tc) (ha:ISs K X sa ga) (hb:ISs K X sb gb):IS K X (.If c sa sb pos) (eY tc ga gb):=by
 refine⟨λenv st r hr=>?_⟩
 simp only [eY,Option.bind_eq_some_iff] at hr
 obtain⟨⟨k,s1⟩,hx,hr⟩:=hr
 cases k with
 | true=>
  rw [if_pos rfl] at hr
  refine (yg (hc.run _ _ _ hx) (ha.run _ _ _ hr) eB).imp ?_
  rintro D σ H ⟨φ,hE,hS,q⟩
  refine⟨φ,hE,hS,λH1 φ1 f1 s1=>sK ?_⟩
  exact⟨φ1,hE.fw hS f1,s1,q.fw f1⟩
 | false=>
  rw [if_neg Bool.false_ne_true] at hr
  refine (yg (hc.run _ _ _ hx) eB (hb.run _ _ _ hr)).imp ?_
  rintro D σ H ⟨φ,hE,hS,q⟩
  refine⟨φ,hE,hS,λH1 φ1 f1 s1=>tX ?_⟩
  exact⟨φ1,hE.fw hS f1,s1,q.fw f1⟩
noncomputable def A4 (K:PySem.W.Frag) (g:Sf):TS:=λD σ H=>∃ env st r,g env st=some r/\tS K env st r D σ H
noncomputable def yu (K:PySem.W.Frag) (f:Ef):TE:=λσ H Q=>∃ env st r,f env st=some r/\tI K env st r σ H Q
noncomputable def vt (K:PySem.W.Frag) (f:Tf):TT:=λσ H Q=>∃ env st r,f env st=some r/\tIT K env st r σ H Q
theorem ISs.any (h:ISs K X ss ga):PSs X ss (A4 K ga):=λpins s σ H D I ⟨env,st,r,e,q⟩=>h.run env st r e pins s σ H D I q
theorem IE.any (h:IE K X e f):PE X e (yu K f):=λpins s σ H D I ⟨env,st,r,e,q⟩=>h.run env st r e pins s σ H D I q
theorem IT.any {tf:Tf} (h:IT K X e tf):PT X e (vt K tf):=λpins s σ H D I ⟨env,st,r,e,q⟩=>h.run env st r e pins s σ H D I q
noncomputable def Yl (K:PySem.W.Frag) (φ0:List Addr) (H0:Hp) (J:It) (ds:List D):Prop:=∀ (H:Hp) (φ:List Addr) (st:Sto) (i:Nat),Fw φ0 φ H0 H->Sr K H φ st->
 (∀ d,ds[i]?=some d->J.go i H/\∀ x H',J.yld i H x H'->br H H'/\Rl K H' φ d x)/\(ds.length=i->J.stop i H)
noncomputable def tII (K:PySem.W.Frag) (env:Ev) (st:Sto) (r:List D×Sto):TI:=λσ H R=>∃ φ,Er K H φ env σ/\Sr K H φ st/\∀ J H' φ',Fw φ φ' H H'->Sr K H' φ' r.2->Yl K φ' H' J r.1->R J H'
structure II (K:PySem.W.Frag) (X:Cx) (tg iter:Expr) (f:Lf):Prop where
 run:∀ env st r,f env st=some r->PI X tg iter (tII K env st r)
theorem PI.imp {tg iter:Expr}{t t':TI} (h:PI X tg iter t) (m:∀ σ H R,t' σ H R->t σ H R):PI X tg iter t':=λpins s σ H R I q=>h pins s σ H R I (m σ H R q)
variable {tg:Expr}
end
end L2
namespace L2
open PySem PySem.Spec PyProof.Rows
section
variable {K:PySem.W.Frag}{X:Cx}{pos:Pos}{tg e a b:Expr}{f:Ef}{af:Af}
theorem ck (h:IE K X e f) (hK:X.K=K:=by rfl):II K X tg e (aR f):=by
 subst hK
 refine⟨λenv st r hr=>?_⟩
 simp only [aR,Option.bind_eq_some_iff] at hr
 obtain⟨⟨w,s1⟩,hy,hr⟩:=hr
 dsimp only at hr
 split at hr
 next ds=>
  cases hr
  refine (zR (h.run _ _ _ hy)).imp ?_
  rintro σ H R ⟨φ,hE,hS,q⟩
  refine⟨φ,hE,hS,λv H1 φ1 f1 s1 w1=>?_⟩
  obtain⟨a,vs,rfl,hq,hr⟩:=w1
  refine⟨a,rfl,⟨vs,(SqT.of hq)⟩,q _ H1 φ1 f1 s1 λH2 φ2 st2 i f2 s2=>?_⟩
  have hq2:=(SqT.of hq).fw s1 f2
  have hr2:=hr.fw s1 f2
  refine⟨λd hd=>?_,λhi=>⟨vs,hq2,by rw [<-hr2.length];exact Nat.le_of_eq hi⟩⟩
  obtain⟨v,ev,rv⟩:=hr2.get hd
  refine⟨⟨vs,v,hq2,ev⟩,λx H' y=>?_⟩
  obtain⟨rfl,y⟩:=y
  have:=y vs hq2
  rw [ev] at this
  cases this
  exact⟨br.refl _,rv⟩
 next ds=>
  cases hr
  refine (rB (h.run _ _ _ hy)).imp ?_
  rintro σ H R ⟨φ,hE,hS,q⟩
  refine⟨φ,hE,hS,λv H1 φ1 f1 s1 w1=>?_⟩
  obtain⟨a,vs,rfl,h0,hq,hr⟩:=w1
  refine⟨a,rfl,⟨vs,.inl hq⟩,q _ H1 φ1 f1 s1 λH2 φ2 st2 i f2 s2=>?_⟩
  have hq2:SqL X.K H2 a vs:=.inl (hq.fw f2 h0)
  have hr2:=hr.fw s1 f2
  refine⟨λd hd=>?_,λhi=>⟨vs,hq2,by rw [<-hr2.length];exact Nat.le_of_eq hi⟩⟩
  obtain⟨v,ev,rv⟩:=hr2.get hd
  refine⟨⟨vs,v,hq2,ev⟩,λx H' y=>?_⟩
  obtain⟨rfl,y⟩:=y
  have:=y vs hq2
  rw [ev] at this
  cases this
  exact⟨br.refl _,rv⟩
 next=>cases hr
theorem pk (lo:Int) (n i:Nat):(gD lo n)[i]?=if i < n then some (.int (lo+i)) else none:=by
 unfold gD
 rw [List.getElem?_map]
 by_cases h:i < n
 ·rw [List.getElem?_range h,if_pos h];rfl
 ·rw [List.getElem?_eq_none (by simpa using h),if_neg h];rfl
theorem kz (lo:Int) (n:Nat):(gD lo n).length=n:=by unfold gD;rw [List.length_map,List.length_range]
theorem yW (lo:Int) (n:Nat) {φ:List Addr}{H:Hp}:Yl K φ H (Itr lo n) (gD lo n):=by
 intro H2 φ2 st2 i f2 s2
 refine⟨λd hd=>?_,λhi=>by rw [kz] at hi;exact Nat.le_of_eq hi⟩
 rw [pk] at hd
 by_cases h:i < n
 ·rw [if_pos h] at hd
  cases hd
  refine⟨h,λx H' y=>?_⟩
  obtain⟨rfl,rfl⟩:=y
  exact⟨br.refl _,rfl⟩
 ·rw [if_neg h] at hd;cases hd
theorem jN {p:Pos} (hg:Gl X "range") (hm:X.mg "range" = none) (ha:IA K X [a] af) (hs:aA a=true:=by rfl):II K X tg (.Call (.Name "range" p) [a] [] pos) (fS af):=by
 refine⟨λenv st r hr=>?_⟩
 simp only [fS,Option.bind_eq_some_iff] at hr
 obtain⟨⟨ws,s1⟩,hy,hr⟩:=hr
 dsimp only at hr
 split at hr
 next j=>
  have hr':(if -(2 ^ 62)<=j/\j < 2 ^ 62 then some (gD 0 j.toNat,s1) else none)=some r:=hr
  by_cases hj:-(2 ^ 62)<=j/\j < 2 ^ 62
  ·rw [if_pos hj] at hr'
   cases hr'
   refine (tF hg hm (ha.run _ _ _ hy) (v5 hs)).imp ?_
   rintro σ H R ⟨φ,hE,hS,q⟩
   refine⟨φ,hE,hS,λvs H1 φ1 f1 s1 w1=>?_⟩
   obtain⟨v,r,rfl,r1,rfl⟩:=w1
   exact⟨j,by rw [show v=.int j from r1],hj.1,hj.2,q _ H1 φ1 f1 s1 (yW 0 _)⟩
  ·rw [if_neg hj] at hr';cases hr'
 next=>cases hr
theorem gG {iter:Expr}{body:List Stmt}{fi:Lf}{g:Tg}{gb:Sf} (hi:II K X tg iter fi) (hg:PG X tg (tG K g)) (hb:ISs K X body gb) (hp:PassesOwn (model X.prog X.w) X.A X.env X.xe) (hc:X.calm=true:=by rfl)
  (hs:∀ x,foldedSetIterable iter X.env x=pure x:=by intro _;rfl):IS K X (.For tg iter body [] pos) (hX fi g gb):=by
 refine⟨λenv st r hr=>?_⟩
 simp only [hX,Option.bind_eq_some_iff] at hr
 obtain⟨⟨ds,s1⟩,hy,hr⟩:=hr
 refine (uR hp hc (hi.run _ _ _ hy) hg hb.any hs).imp ?_
 rintro D σ H ⟨φ,hE,hS,q⟩
 refine⟨φ,hE,hS,λJ H1 φ1 f1 S1 yl=>?_⟩
 refine⟨λi m σ H=>m=ds.length - i/\i<=ds.length/\∃ env st φ2,Fw φ1 φ2 H1 H/\Er K H φ2 env σ/\Sr K H φ2 st/\iS g gb (ds.drop i) env st=some r,⟨ds.length,by simp,Nat.zero_le _,env,s1,φ1,Fw.refl _ _,hE.fw hS f1,S1,hr⟩,?_⟩
 rintro i m σ H2 ⟨rfl,hi,env2,st2,φ2,f2,e2,S2,h2⟩
 obtain⟨y1,y2⟩:=yl H2 φ2 st2 i f2 S2
 by_cases hlt:i < ds.length
 ·obtain⟨go,yld⟩:=y1 ds[i] (List.getElem?_eq_getElem hlt)
  rw [List.drop_eq_getElem_cons hlt] at h2
  simp only [iS,Option.bind_eq_some_iff] at h2
  obtain⟨e3,he3,r3,hr3,h3⟩:=h2
  refine .inr ⟨go,λσ' H'=>i+1<=ds.length/\∃ env st φ2,Fw φ1 φ2 H1 H'/\Er K H' φ2 env σ'/\Sr K H' φ2 st/\iS g gb (ds.drop (i+1)) env st=some r,λσ' H' ⟨hn,p'⟩=>⟨ds.length - (i+1),by lia,rfl,hn,p'⟩,λx H' y=>?_⟩
  obtain⟨sm,rx⟩:=yld x H' y
  have S3:=S2.same sm
  have f3:=f2.trans (Fw.same (φ:=φ2) sm)
  refine⟨φ2,st2,env2,.d ds[i],e3,e2.fw S2 (Fw.same sm),S3,rx,he3,λσ' e' _=>?_⟩
  refine⟨e3,st2,r3,hr3,φ2,e',S3,?_⟩
  cases r3 with
  | nx e4 s4=>exact λσ4 H4 φ4 f4 e4' s4'=>⟨hlt,e4,s4,φ4,f3.trans f4,e4',s4',h3⟩
  | ct e4 s4=>exact λσ4 H4 φ4 f4 e4' s4'=>⟨hlt,e4,s4,φ4,f3.trans f4,e4',s4',h3⟩
  | bk e4 s4=>
   cases h3
   exact λσ4 H4 φ4 f4 e4' s4'=>q σ4 H4 φ4 (f1.trans (f3.trans f4)) e4' s4'
  | rt w s4=>
   cases h3
   exact λv H4 φ4 f4 s4' w4=>q v H4 φ4 (f1.trans (f3.trans f4)) s4' w4
 ·have hi':i=ds.length:=by lia
  subst hi'
  rw [List.drop_length] at h2
  cases h2
  exact .inl ⟨y2 rfl,q σ H2 φ2 (f1.trans f2) e2 S2⟩
noncomputable def ny (n:Nat) (c:Tf) (b:Sf):Sf
 | env,st=>dU c b n env st
theorem vK {c:Expr}{body:List Stmt}{tc:Tf}{gb:Sf} (n:Nat) (hc:IT K X c tc) (hb:ISs K X body gb) (hp:PassesOwn (model X.prog X.w) X.A X.env X.xe):IS K X (.While c body [] pos) (ny n tc gb):=by
 refine⟨λenv st r hr=>?_⟩
 refine (vm hp hc.any hb.any).imp ?_
 rintro D σ H ⟨φ,hE,hS,q⟩
 refine⟨λm σ H'=>∃ env st φ2,Fw φ φ2 H H'/\Er K H' φ2 env σ/\Sr K H' φ2 st/\dU tc gb m env st=some r,⟨n,env,st,φ,Fw.refl _ _,hE,hS,hr⟩,?_⟩
 rintro m σ H2 ⟨env2,st2,φ2,f2,e2,S2,h2⟩
 cases m with
 | zero=>cases h2
 | succ m=>
  simp only [dU,Option.bind_eq_some_iff] at h2
  obtain⟨⟨k,s3⟩,hk,h2⟩:=h2
  refine⟨env2,st2,_,hk,φ2,e2,S2,λH3 φ3 f3 S3=>?_⟩
  cases k with
  | false=>
   rw [if_neg Bool.false_ne_true] at h2
   cases h2
   exact tX (q σ H3 φ3 (f2.trans f3) (e2.fw S2 f3) S3)
  | true=>
   simp only [if_true,Option.bind_eq_some_iff] at h2
   obtain⟨r3,hr3,h3⟩:=h2
   refine sK ⟨λσ' H'=>∃ env st φ2,Fw φ φ2 H H'/\Er K H' φ2 env σ'/\Sr K H' φ2 st/\dU tc gb m env st=some r,λσ' H' p'=>⟨m,Nat.lt_succ_self _,p'⟩,?_⟩
   refine⟨env2,s3,r3,hr3,φ3,e2.fw S2 f3,S3,?_⟩
   have f3':=f2.trans f3
   cases r3 with
   | nx e4 s4=>exact λσ4 H4 φ4 f4 e4' s4'=>⟨e4,s4,φ4,f3'.trans f4,e4',s4',h3⟩
   | ct e4 s4=>exact λσ4 H4 φ4 f4 e4' s4'=>⟨e4,s4,φ4,f3'.trans f4,e4',s4',h3⟩
   | bk e4 s4=>
    cases h3
    exact λσ4 H4 φ4 f4 e4' s4'=>q σ4 H4 φ4 (f3'.trans f4) e4' s4'
   | rt w s4=>
    cases h3
    exact λv H4 φ4 f4 s4' w4=>q v H4 φ4 (f3'.trans f4) s4' w4
structure ITs (K:PySem.W.Frag) (X:Cx) (ifs:List Expr) (t:Tf):Prop where
 run:PTs X ifs (vt K t)
theorem dM:ITs K X [] dX:=by
 refine⟨λpins s σ H Q I ⟨env,st,r,e,φ,hE,hS,q⟩=>?_⟩
 cases e
 exact wR pins s σ H Q I (q H φ (Fw.refl φ H) hS)
theorem gT {c:Expr}{t:Tf} (h:IT K X c t):ITs K X [c] t:=⟨xj h.any⟩
theorem Er.emb {H:Hp}{φ:List Addr}{env:Ev}{σ:St} (h:Er K H φ env σ) (k:Nat) (js:List Nat):Er K H φ (jG k js env) (eU k js σ):=by
 refine⟨by unfold jG eU;simp,λi w e=>?_⟩
 unfold jG at e
 unfold eU
 by_cases hi:i < k
 ·rw [List.getElem?_append_left (by simpa using hi),List.getElem?_replicate,if_pos hi] at e
  cases e
 ·rw [List.getElem?_append_right (by simpa using hi),List.length_replicate,List.getElem?_map,Option.map_eq_some_iff] at e
  obtain⟨j,ej,e⟩:=e
  have ej2:env[j]?=some (some w):=by
   rw [List.getD] at e
   cases q:env[j]? with
   | none=>rw [q] at e;cases e
   | some o=>rw [q] at e;rw [show o=some w from e]
  obtain⟨v,ev,rv⟩:=h.at_ j w ej2
  refine⟨v,?_,rv⟩
  rw [List.getElem?_append_right (by simpa using hi),List.length_replicate,List.getElem?_map,ej]
  show some ((σ[j]?).getD none)=_
  rw [ev];rfl
theorem Sub.stay {k:Nat}{js is:List Nat}{σ σ':St} (h:xG is (eU k js σ) σ') (hi:∀ j ∈ is,j < k):Sub (eU k js σ) σ':=by
 refine⟨h.1.symm,λj v e=>?_⟩
 by_cases hj:j ∈ is
 ·have:=hi j hj
  unfold eU at e
  rw [List.getElem?_append_left (by simpa using this),List.getElem?_replicate,if_pos this] at e
  cases e
 ·rw [h.2 j hj];exact e
theorem vb {k:Nat}{js:List Nat}{g:Tg}{tt:Tf}{te:Ef}{env:Ev}{st s1:Sto}{ds:List D}{r:List D×Sto} (hgi:∀ j ∈ xB g,j < k) (hdl:ds.length<=1000000) (hr':lcI g tt te (jG k js env) ds s1=some r) :
  ∀ σ H Q,tIL K env st r σ H Q->tLc (eU k js) (tII K env st (ds,s1)) (tG K g) (vt K tt) (yu K te) σ H Q:=by
 rintro σ H Q ⟨φ,hE,hS,q⟩
 refine⟨φ,hE,hS,λJ H1 φ1 f1 S1 yl=>?_⟩
 have hE1:=(hE.fw hS f1).emb k js
 refine⟨λi m ys H2=>m=ds.length - i/\i<=ds.length/\∃ st φ2 es r2,Fw φ1 φ2 H1 H2/\Sr K H2 φ2 st/\Rls K H2 φ2 es ys/\es.length<=i/\lcI g tt te (jG k js env) (ds.drop i) st=some r2/\r=(es++r2.1,r2.2),⟨ds.length,by simp,Nat.zero_le _,s1,φ1,[],r,Fw.refl _ _,S1,rfl,Nat.le_refl _,hr',rfl⟩,?_⟩
 rintro i m ys H2 ⟨rfl,hi,st2,φ2,es,r2,f2,S2,rl2,hle,h2,rfl⟩
 obtain⟨y1,y2⟩:=yl H2 φ2 st2 i f2 S2
 by_cases hlt:i < ds.length
 ·obtain⟨go,yld⟩:=y1 ds[i] (List.getElem?_eq_getElem hlt)
  rw [List.drop_eq_getElem_cons hlt] at h2
  simp only [lcI,Option.bind_eq_some_iff] at h2
  obtain⟨e3,he3,⟨kb,s3⟩,hb3,h3⟩:=h2
  have hz:ys.length < sizeLine:=by
   rw [<-rl2.length]
   have:sizeLine=16777216:=sizeLine_eq
   lia
  refine .inr ⟨go,hz,λys' H'=>i+1<=ds.length/\∃ st φ2 es' r2',Fw φ1 φ2 H1 H'/\Sr K H' φ2 st/\Rls K H' φ2 es' ys'/\es'.length<=i+1/\lcI g tt te (jG k js env) (ds.drop (i+1)) st=some r2'/\(es++r2.1,r2.2)=(es'++r2'.1,r2'.2),λys' H' ⟨hn,p'⟩=>⟨ds.length - (i+1),by lia,rfl,hn,p'⟩,λx H' y=>?_⟩
  obtain⟨sm,rx⟩:=yld x H' y
  have S3:=S2.same sm
  have f3:=f2.trans (Fw.same (φ:=φ2) sm)
  refine⟨φ2,st2,jG k js env,.d ds[i],e3,hE1.fw S1 f3,S3,rx,he3,λσ' e' stay=>⟨Sub.stay stay hgi,?_⟩⟩
  refine⟨e3,st2,_,hb3,φ2,e',S3,λH4 φ4 f4 S4=>?_⟩
  cases kb with
  | false=>
   rw [if_neg Bool.false_ne_true] at h3
   exact tX ⟨hlt,s3,φ4,es,r2,f3.trans f4,S4,(rl2.fw S2 (Fw.same sm)).fw S3 f4,by lia,h3,rfl⟩
  | true=>
   simp only [if_true,Option.bind_eq_some_iff,Option.map_eq_some_iff] at h3
   obtain⟨x5,hx5,zs,hzs,r5,hr5,rfl⟩:=h3
   refine sK ⟨e3,s3,x5,hx5,φ4,e'.fw S3 f4,S4,λv H5 φ5 f5 S5 w5=>?_⟩
   obtain⟨x5,s5⟩:=x5
   cases x5 with
   | h n=>cases hzs
   | d z=>
    cases hzs
    refine⟨hlt,s5,φ5,es++[z],r5,(f3.trans f4).trans f5,S5,(((rl2.fw S2 (Fw.same sm)).fw S3 f4).fw S4 f5).append ⟨v,[],rfl,w5,rfl⟩,by rw [List.length_append];simp;lia,hr5,?_⟩
    simp
 ·have hi':i=ds.length:=by lia
  subst hi'
  rw [List.drop_length] at h2
  cases h2
  refine .inl ⟨y2 rfl,λDn hD=>?_⟩
  have:=q Dn ys H2 φ2 (f1.trans f2) S2 hD
  exact this (by simpa using rl2)
theorem gm {scope:Scope}{Nc:List Str}{k:Nat}{js:List Nat}{elt iter:Expr}{ifs:List Expr}{fi:Lf}{g:Tg}{tt:Tf}{te:Ef}
  (S:dJ X scope Nc (eU k js)) (hc:X.calm=true) (hgi:∀ j ∈ xB g,j < k) (hi:II K X tg iter fi)
  (hg:∀ cells s H C fp,PG (lcX X scope cells Nc s H C fp) tg (tG K g)) (ht:∀ cells s H C fp,ITs K (lcX X scope cells Nc s H C fp) ifs tt) (he:∀ cells s H C fp,IE K (lcX X scope cells Nc s H C fp) elt te)
  (hs:∀ x,foldedSetIterable iter X.env x=pure x:=by intro _;rfl):IL K X (.ListComp elt [⟨tg,iter,ifs,0⟩] scope pos) (iLc k js fi g tt te):=by
 refine⟨λenv st r hr=>?_⟩
 simp only [iLc,Option.bind_eq_some_iff] at hr
 obtain⟨⟨ds,s1⟩,hy,hr⟩:=hr
 have hr':(if ds.length<=1000000 then lcI g tt te (jG k js env) ds s1 else none)=some r:=hr
 by_cases hdn:¬ ds.length<=1000000
 ·rw [if_neg hdn] at hr';cases hr'
 have hdl:ds.length<=1000000:=by lia
 rw [if_pos hdl] at hr'
 refine (AI S hc (hi.run _ _ _ hy) hg (λcells s H C fp=>(ht cells s H C fp).run) (λcells s H C fp=>(he cells s H C fp).any) hs).imp (vb hgi hdl hr')
theorem uV {scope:Scope}{Nc:List Str}{k:Nat}{js:List Nat}{elt iter:Expr}{ifs:List Expr}{fi:Lf}{g:Tg}{tt:Tf}{te:Ef}{i0:Nat}{x0:Str}{py spos:Pos}
  (hN0:X.N.Nodup) (hi0:X.N[i0]?=some x0) (hx0:Loc X.env.scope x0) (S:dJ X scope Nc (eU k js)) (hc:X.calm=true) (hgi:∀ j ∈ xB g,j < k) (hi:II K X tg iter fi)
  (hg:∀ cells s H C fp,PG (lcX X scope cells Nc s H C fp) tg (tG K g)) (ht:∀ cells s H C fp,ITs K (lcX X scope cells Nc s H C fp) ifs tt) (he:∀ cells s H C fp,IE K (lcX X scope cells Nc s H C fp) elt te)
  (hsw:swapsWith (.ListComp elt [⟨tg,iter,ifs,0⟩] scope pos) (some (.Name x0 py)) spos.line X.env=pure true:=by rfl)
  (hf0:X.fn x0=true\/X.env.scope.names.lookup x0=some .local:=by first | exact .inl rfl | exact .inr rfl | assumption)
  (hs:∀ x,foldedSetIterable iter X.env x=pure x:=by intro _;rfl):IS K X (.Assign [.Name x0 py] (.ListComp elt [⟨tg,iter,ifs,0⟩] scope pos) spos) (bO (.nm i0) (aV (iLc k js fi g tt te)))/\
   IS K X (.Assign [.Name x0 py] (.ListComp elt [⟨tg,iter,ifs,0⟩] scope pos) spos) (bO (.nm i0) (nL (iLc k js fi g tt te))):=by
 have key:∀ env st r0 r,iLc k js fi g tt te env st=some r->(∀ σ φ H (D:oQ),Er K H φ env σ->Sr K H φ st->uX K φ H D r0->∀ a vs H1 φ',Fw φ φ' H H1->Sr K H1 φ' r.2->H1 a=none->Rls K H1 φ' r.1 vs->D.nx (σ.set i0 (some (.ref a))) (upd H1 a (.lst vs)))->
   PS X (.Assign [.Name x0 py] (.ListComp elt [⟨tg,iter,ifs,0⟩] scope pos) spos) (tS K env st r0):=by
  intro env st r0 r hr h
  simp only [iLc,Option.bind_eq_some_iff] at hr
  obtain⟨⟨ds,s1⟩,hy,hr⟩:=hr
  have hr':(if ds.length<=1000000 then lcI g tt te (jG k js env) ds s1 else none)=some r:=hr
  by_cases hdn:¬ ds.length<=1000000
  ·rw [if_neg hdn] at hr';cases hr'
  have hdl:ds.length<=1000000:=by lia
  rw [if_pos hdl] at hr'
  refine (Au hN0 hi0 hx0 S hc (hi.run _ _ _ hy) hg (λcells s H C fp=>(ht cells s H C fp).run) (λcells s H C fp=>(he cells s H C fp).any) hsw hf0 hs).imp ?_
  rintro D σ H ⟨φ,hE,hS,q⟩
  exact vb hgi hdl hr' σ H _ ⟨φ,hE,hS,h σ φ H D hE hS q⟩
 constructor
 ·refine⟨λenv st r hr=>?_⟩
  simp only [bO,aV,d8,Option.bind_eq_some_iff,Option.map_eq_some_iff] at hr
  obtain⟨y,⟨r2,hy,rfl⟩,e',ee,rfl⟩:=hr
  cases ee
  refine key _ _ _ _ hy λσ φ H D hE hS q a vs H1 φ1 f1 s1 n1 w1=>?_
  exact q _ _ φ1 (f1.trans (Fw.new n1)) ((((hE.fw hS f1).fw s1 (Fw.new n1))).set i0 (w:=.d (.lst r2.1)) ⟨a,vs,rfl,s1.nin n1,.inl aP,w1.fw s1 (Fw.new n1)⟩) (s1.new n1)
 ·refine⟨λenv st r hr=>?_⟩
  simp only [bO,nL,d8,Option.bind_eq_some_iff,Option.map_eq_some_iff] at hr
  obtain⟨y,⟨r2,hy,rfl⟩,e',ee,rfl⟩:=hr
  cases ee
  refine key _ _ _ _ hy λσ φ H D hE hS q a vs H1 φ1 f1 s1 n1 w1=>?_
  exact q _ _ (φ1++[a]) (f1.trans (Fw.more n1)) (((hE.fw hS f1).fw s1 (Fw.more n1)).set i0 (w:=.h r2.2.length) ⟨a,by rw [<-s1.len];simp,rfl⟩) (s1.more n1 w1)
end
end L2
namespace L2
open PySem PySem.Spec PyProof.Rows
noncomputable def ce (n k:Nat) (b:Sf):Fn
 | ws,st=>if ws.length=k then (b (ws.map some++List.replicate (n - k) none) st).bind λr=>match r with
 | .nx _ s=>some (.d .non,s)
 | .rt w s=>some (w,s)
 | _=>none
 else none
noncomputable def wp (n:Nat) (w:W) (s:Sto):Option (W×Sto):=match w with
 | .d x=>some (.d x,s.take n)
 | .h m=>if m < n then some (.h m,s.take n) else (lg s m).map λds=>(.d (.lst ds),s.take n)
noncomputable def jd (n k:Nat) (b:Sf):Fn
 | ws,st=>if ws.length=k then (b (ws.map some++List.replicate (n - k) none) st).bind λr=>match r with
 | .nx _ s=>some (.d .non,s.take st.length)
 | .rt w s=>wp st.length w s
 | _=>none
 else none
section
variable {P:Program}{w:World}{K:PySem.W.Frag}{mg:Str->Option Value}{base:Heap}
theorem pi {H:Hp}{φ:List Addr}{N:List Str}{k:Nat}:∀ {ws:List W}{vs:List V},Rws K H φ ws vs->ws.length=k->Er K H φ (ws.map some++List.replicate (N.length - k) none) (start N vs):=by
 intro ws vs r hk
 have hl:=r.length
 refine⟨by unfold start;simp;lia,λi x e=>?_⟩
 unfold start
 by_cases hi:i < ws.length
 ·rw [List.getElem?_append_left (by simpa using hi),List.getElem?_map,Option.map_eq_some_iff] at e
  obtain⟨y,ey,e⟩:=e
  have:∃ v,vs[i]?=some v/\Rw K H φ y v:=by
   clear hk hl hi e
   induction ws generalizing vs i with
   | nil=>simp at ey
   | cons w ws ih=>
    obtain⟨v,r',rfl,r1,r2⟩:=r
    cases i with
    | zero=>simp at ey;subst ey;exact⟨v,rfl,r1⟩
    | succ i=>simpa using ih r2 i (by simpa using ey)
  obtain⟨v,ev,rv⟩:=this
  cases e
  refine⟨v,?_,rv⟩
  rw [List.getElem?_append_left (by rw [List.length_map,<-hl];exact hi),List.getElem?_map,ev];rfl
 ·rw [List.getElem?_append_right (by simpa using hi)] at e
  have:=List.mem_of_getElem? e
  have:=(List.mem_replicate.mp this).2
  cases this
theorem iW {x qual:Str}{st:Stmt}{f:Addr}{fd:FuncData}{N ps:List Str}{k:Nat}{b:Sf} (F:Fun K x qual st f fd) (S:bg N ps (ae st))
  (hb:∀ (cdv:Value) (A:Around) (outer:List Env) (s:Shared) (H:Hp) (E:XK),bu k (A.deeper (envOfC qual (ae st) s.heap.objs.size f cdv))->ISs K (de CX0 P w K mg base N qual (ae st) f cdv A outer s H E).nox (aq st) b) :
  bE P w K mg base CX0 (k+1) f fd ps (spI K (ce N.length ps.length b)):=by
 refine F.ok S (λvs H Q E h=>?_) λcdv A outer s H vs Q E hr h=>?_
 ·obtain⟨φ,st,ws,r,e,rw,_⟩:=h
  rw [ce] at e
  by_cases hl:ws.length=ps.length
  ·rw [<-rw.length,hl]
  ·rw [if_neg hl] at e;cases e
 ·obtain⟨φ,st',ws,r,e,rw,S',q⟩:=h
  rw [ce] at e
  by_cases hl:ws.length=ps.length
  ·rw [if_pos hl] at e
   obtain⟨fl,e1,e2⟩:=Option.bind_eq_some_iff.mp e
   refine⟨_,(hb cdv A outer s H E hr).run _ _ _ e1,φ,pi rw hl,S',?_⟩
   cases fl with
   | nx e s=>cases e2;exact λσ' H' φ' f' e' s'=>q .non H' φ' f' s' rfl
   | rt w s=>cases e2;exact λv H' φ' f' s' w'=>q v H' φ' f' s' w'
   | bk e s=>cases e2
   | ct e s=>cases e2
  ·rw [if_neg hl] at e;cases e
theorem Fw.less {φ φ':List Addr}{H H':Hp} (f:Fw φ φ' H H'):Fw φ φ H H':=⟨⟨[],by simp,by simp⟩,f.keep,f.there⟩
theorem xa {x qual:Str}{st:Stmt}{f:Addr}{fd:FuncData}{N ps:List Str}{k:Nat}{b:Sf} (F:Fun K x qual st f fd) (S:bg N ps (ae st))
  (hb:∀ (cdv:Value) (A:Around) (outer:List Env) (s:Shared) (H:Hp) (E:XK),bu k (A.deeper (envOfC qual (ae st) s.heap.objs.size f cdv))->ISs K (de CX0 P w K mg base N qual (ae st) f cdv A outer s H E).nox (aq st) b) :
  bE P w K mg base CX0 (k+1) f fd ps (spI K (jd N.length ps.length b)):=by
 refine F.ok S (λvs H Q E h=>?_) λcdv A outer s H vs Q E hr h=>?_
 ·obtain⟨φ,st,ws,r,e,rw,_⟩:=h
  rw [jd] at e
  by_cases hl:ws.length=ps.length
  ·rw [<-rw.length,hl]
  ·rw [if_neg hl] at e;cases e
 ·obtain⟨φ,st',ws,r,e,rw,S',q⟩:=h
  rw [jd] at e
  by_cases hl:ws.length=ps.length
  ·rw [if_pos hl] at e
   obtain⟨fl,e1,e2⟩:=Option.bind_eq_some_iff.mp e
   refine⟨_,(hb cdv A outer s H E hr).run _ _ _ e1,φ,pi rw hl,S',?_⟩
   have less:∀ {H':Hp}{φ':List Addr}{s':Sto},Fw φ φ' H H'->Sr K H' φ' s'->Sr K H' φ (s'.take st'.length):=λ{H' φ' s'} f' S2=>by
    obtain⟨ψ,rfl,_⟩:=f'.ext
    rw [<-S'.len]
    exact S2.less
   cases fl with
   | nx e s=>cases e2;exact λσ' H' φ' f' e' s'=>q .non H' φ f'.less (less f' s') rfl
   | rt w s=>
    intro v H' φ' f' s' w'
    have e3:wp st'.length w s=some r:=e2
    obtain⟨ψ,eψ,_⟩:=f'.ext
    cases w with
    | d x=>
     cases e3
     subst eψ
     exact q v H' φ f'.less (less f' s') (Rl.less w')
    | h m=>
     obtain⟨a,ea,rfl⟩:=w'
     unfold wp at e3
     by_cases hm:m < st'.length
     ·have e4:some (W.h m,s.take st'.length)=some r:=by
       have:=e3
       simp only [hm,if_true] at this
       exact this
      cases e4
      subst eψ
      rw [List.getElem?_append_left (by rw [S'.len];exact hm)] at ea
      exact q _ H' φ f'.less (less f' s') ⟨a,ea,rfl⟩
     ·simp only [hm,if_false] at e3
      obtain⟨ds,eds,rfl⟩:=Option.map_eq_some_iff.mp e3
      obtain⟨vs,hv,rl⟩:=s'.atl m a ds ea eds
      have hn:a ∉ φ:=λz=>by
       obtain⟨i,hi,ei⟩:=List.mem_iff_getElem.mp z
       have h1:φ'[i]?=some a:=by subst eψ;rw [List.getElem?_append_left hi,List.getElem?_eq_getElem hi,ei]
       obtain⟨h2,h2'⟩:=List.getElem?_eq_some_iff.mp h1
       obtain⟨h3,h3'⟩:=List.getElem?_eq_some_iff.mp ea
       have:=(List.getElem_inj s'.nd).mp (h2'.trans h3'.symm)
       rw [S'.len] at hi
       lia
      subst eψ
      exact q _ H' φ f'.less (less f' s') ⟨a,vs,rfl,hn,.inl hv,rl.less⟩
   | bk e s=>cases e2
   | ct e s=>cases e2
  ·rw [if_neg hl] at e;cases e
end
noncomputable def b8:D->Bool
 | .non=>true
 | .bl _=>true
 | .int _=>true
 | .str _=>true
 | _=>false
noncomputable def vOf:D->V
 | .bl b=>.bl b
 | .int i=>.int i
 | .str x=>.str x
 | _=>.non
mutual
noncomputable def eqD:D->D->Bool
 | .non,.non=>true
 | .bl a,.bl b=>a==b
 | .bl a,.int b=>(if a then 1 else 0)==b
 | .int a,.bl b=>a==(if b then 1 else 0)
 | .int a,.int b=>a==b
 | .str a,.str b=>a==b
 | .tup as,.tup bs=>dg as bs
 | .lst as,.lst bs=>dg as bs
 | _,_=>false
noncomputable def dg:List D->List D->Bool
 | [],[]=>true
 | a::as,b::bs=>eqD a b && dg as bs
 | _,_=>false
end
noncomputable def okD:Nat->D->Bool
 | _,.non=>true
 | _,.bl _=>true
 | _,.int _=>true
 | _,.str _=>true
 | n+1,.tup ds=>ds.all (okD n)
 | n+1,.lst ds=>ds.all (okD n)
 | _,_=>false
noncomputable def lsD (st:Sto):W->Option (List D)
 | .d (.lst ds)=>some ds
 | .h n=>lg st n
 | _=>none
noncomputable def fG (st:Sto) (x y:W):Option D:=match x,y with
 | .d (.int i),.d (.int j)=>some (.int (i+j))
 | .d (.tup a),.d (.tup b)=>if a.length+b.length<=1000000 then some (.tup (a++b)) else none
 | .d (.str a),.d (.str b)=>if a.length+b.length<=1000000 then some (.str (a++b)) else none
 | x,y=>(lsD st x).bind λa=>(lsD st y).bind λb=>if a.length+b.length<=1000000 then some (.lst (a++b)) else none
noncomputable def qk (_:Sto):W->W->Option D
 | .d (.int i),.d (.int j)=>some (.int (i - j))
 | _,_=>none
instance (a b:Int):Decidable (IntMulOk a b):=by unfold IntMulOk;infer_instance
noncomputable def gi (_:Sto):W->W->Option D
 | .d (.int i),.d (.int j)=>if IntMulOk i j then some (.int (i*j)) else none
 | .d (.tup a),.d (.int k)=>if a≠[]/\a.length<=1000/\1<=k/\k < 1000 then some (.tup (List.replicate k.toNat a).flatten) else none
 | .d (.lst a),.d (.int k)=>if a.length<=1000/\-1000<=k/\k < 1000 then some (.lst (List.replicate k.toNat a).flatten) else none
 | _,_=>none
noncomputable def mf (_:Sto):W->W->Option D
 | .d (.int i),.d (.int j)=>if 0 < j/\j < 1073741824 then some (.int (i / j)) else none
 | _,_=>none
noncomputable def jc (_:Sto):W->W->Option D
 | .d (.int i),.d (.int j)=>if 0 < j then some (.int (i % j)) else none
 | _,_=>none
instance (i j:Int):Decidable (nP i j):=by unfold nP;infer_instance
noncomputable def sO (_:Sto):W->W->Option D
 | .d (.int i),.d (.int j)=>if nP i j then some (.int (i ^ j.toNat)) else none
 | _,_=>none
noncomputable def sI (_:Sto):W->W->Option D
 | .d (.int i),.d (.int j)=>if nP i j then some (.int (i*2 ^ j.toNat)) else none
 | _,_=>none
noncomputable def ng (_:Sto):W->W->Option D
 | .d (.int i),.d (.int j)=>if 0<=j then some (.int (i / 2 ^ j.toNat)) else none
 | _,_=>none
noncomputable def dLe (_:Sto):W->W->Option D
 | .d (.int i),.d (.int j)=>some (.bl (decide (i<=j)))
 | _,_=>none
noncomputable def dGt (_:Sto):W->W->Option D
 | .d (.int i),.d (.int j)=>some (.bl (decide (j < i)))
 | _,_=>none
noncomputable def dGe (_:Sto):W->W->Option D
 | .d (.int i),.d (.int j)=>some (.bl (decide (j<=i)))
 | _,_=>none
noncomputable def inD (x:D) (ds:List D):Bool:=ds.any λy=>eqD y x
noncomputable def kq (st:Sto) (x y:W):Option D:=match x with
 | .d x=>(el st y).bind λds=>if b8 x=true/\ds.all b8=true then some (.bl (!inD x ds)) else none
 | _=>none
section
variable {K:PySem.W.Frag}{X:Cx}
theorem cQ {H:Hp}{φ:List Addr}{d:D}{v:V} (h:b8 d=true) (r:Rl K H φ d v):v=vOf d/\dB v=true:=by
 cases d with
 | non=>cases (show v=.non from r);exact⟨rfl,rfl⟩
 | bl b=>cases (show v=.bl b from r);exact⟨rfl,rfl⟩
 | int b=>cases (show v=.int b from r);exact⟨rfl,rfl⟩
 | str b=>cases (show v=.str b from r);exact⟨rfl,rfl⟩
 | _=>cases h
theorem jK {a b:D} (ha:b8 a=true) (hb:b8 b=true):eqV (vOf a) (vOf b)=eqD a b:=by
 cases a<;>cases b<;>first | rfl | (cases ha;done) | (cases hb;done) | (simp [eqV,vOf,eqD];done)
theorem ot {H:Hp}{φ:List Addr}:∀ {ds:List D}{vs:List V},ds.all b8=true->Rls K H φ ds vs->vs=ds.map vOf/\vs.all dB=true
 | [],_,_,h=>by cases h;exact⟨rfl,rfl⟩
 | d::ds,_,h,r=>by
  rw [List.all_cons,Bool.and_eq_true] at h
  obtain⟨v,vr,rfl,r1,r2⟩:=r
  obtain⟨e1,e2⟩:=cQ h.1 r1
  obtain⟨e3,e4⟩:=ot h.2 r2
  exact⟨by rw [e1,e3];rfl,by rw [List.all_cons,e2,e4];rfl⟩
theorem sg {x:D} (hx:b8 x=true):∀ {ds:List D},ds.all b8=true->inV (vOf x) (ds.map vOf)=inD x ds
 | [],_=>rfl
 | d::ds,h=>by
  rw [List.all_cons,Bool.and_eq_true] at h
  have ih:=sg hx h.2
  unfold inV inD at ih ⊢
  rw [List.map_cons,List.any_cons,List.any_cons,ih,jK h.1 hx]
theorem ux {f:Value->Value->Sem Value}{g:Sto->W->W->Option D} (h:∀ st x y d,g st x y=some d->∃ i j,x=.d (.int i)/\y=.d (.int j)/\OpR X f (λvx vy H Q=>vx=.int i/\vy=.int j/\Q (vOf d) H)/\b8 d=true):OpD K X f g:=by
 refine⟨λst x y d hd=>?_⟩
 obtain⟨i,j,rfl,rfl,ho,hf⟩:=h st x y d hd
 refine ho.imp ?_
 rintro vx vy H Q ⟨φ,S,r1,r2,q⟩
 refine⟨r1,r2,q _ H (br.refl H) ?_⟩
 cases d<;>first | rfl | cases hf
noncomputable def i2 (f:Int->Int->Option D):W->W->Option D
 | .d (.int i),.d (.int j)=>f i j
 | _,_=>none
theorem yp {f:Int->Int->Option D}{x y:W}{d:D} (h:i2 f x y=some d):∃ i j,x=.d (.int i)/\y=.d (.int j)/\f i j=some d:=by
 unfold i2 at h
 split at h
 ·exact⟨_,_,rfl,rfl,h⟩
 ·cases h
theorem on {f:Value->Value->Sem Value}{g:Sto->W->W->Option D}{r:Int->Int->D} (hg:∀ st,g st=i2 λi j=>some (r i j)) (hf:∀ i j,b8 (r i j)=true) (h:∀ i j,OpR X f (λvx vy H Q=>vx=.int i/\vy=.int j/\Q (vOf (r i j)) H)):OpD K X f g:=ux λst x y d e=>by
 rw [hg] at e
 obtain⟨i,j,e1,e2,e3⟩:=yp e
 cases e3
 exact⟨i,j,e1,e2,h i j,hf i j⟩
theorem kf {f:Value->Value->Sem Value}{g:Sto->W->W->Option D}{r:Int->Int->D}{c:Int->Int->Prop} [∀ i j,Decidable (c i j)] (hg:∀ st,g st=i2 λi j=>if c i j then some (r i j) else none) (hf:∀ i j,b8 (r i j)=true) (h:∀ i j,c i j->OpR X f (λvx vy H Q=>vx=.int i/\vy=.int j/\Q (vOf (r i j)) H)):OpD K X f g:=ux λst x y d e=>by
 rw [hg] at e
 obtain⟨i,j,e1,e2,e3⟩:=yp e
 split at e3
 next hc=>
  cases e3
  exact⟨i,j,e1,e2,h i j hc,hf i j⟩
 next=>cases e3
theorem nB:OpD K X (binaryOp .Sub) qk:=on (λ_=>rfl) (λ_ _=>rfl) λi j=>zN.imp λvx vy H Q h=>⟨i,j,h.1,h.2.1,h.2.2⟩
theorem AF:OpD K X (compareOp .LtE) dLe:=on (λ_=>rfl) (λ_ _=>rfl) λi j=>AQ.imp λvx vy H Q h=>⟨i,j,h.1,h.2.1,h.2.2⟩
theorem AH:OpD K X (compareOp .Gt) dGt:=on (λ_=>rfl) (λ_ _=>rfl) λi j=>Ap.imp λvx vy H Q h=>⟨i,j,h.1,h.2.1,h.2.2⟩
theorem AE:OpD K X (compareOp .GtE) dGe:=on (λ_=>rfl) (λ_ _=>rfl) λi j=>AM.imp λvx vy H Q h=>⟨i,j,h.1,h.2.1,h.2.2⟩
theorem mR:OpD K X (binaryOp .FloorDiv) mf:=kf (λ_=>rfl) (λ_ _=>rfl) λi j hc=>wB.imp λvx vy H Q h=>⟨i,j,h.1,h.2.1,hc,h.2.2⟩
theorem gP:OpD K X (binaryOp .Mod) jc:=kf (λ_=>rfl) (λ_ _=>rfl) λi j hc=>Ac.imp λvx vy H Q h=>⟨i,j,h.1,h.2.1,hc,h.2.2⟩
theorem vE:OpD K X (binaryOp .Pow) sO:=kf (λ_=>rfl) (λ_ _=>rfl) λi j hc=>zy.imp λvx vy H Q h=>⟨i,j,h.1,h.2.1,hc,h.2.2⟩
theorem qG:OpD K X (binaryOp .LShift) sI:=kf (λ_=>rfl) (λ_ _=>rfl) λi j hc=>zx.imp λvx vy H Q h=>⟨i,j,h.1,h.2.1,hc,h.2.2⟩
theorem qB:OpD K X (binaryOp .RShift) ng:=kf (λ_=>rfl) (λ_ _=>rfl) λi j hc=>yT.imp λvx vy H Q h=>⟨i,j,h.1,h.2.1,hc,h.2.2⟩
theorem vh (hK:X.K=K:=by rfl):OpD K X (compareOp .NotIn) kq:=by
 subst hK
 refine⟨λst x y d h=>?_⟩
 match x,h with
 | .d x,h=>
  simp only [kq,Option.bind_eq_some_iff] at h
  obtain⟨ds,hs,h⟩:=h
  split at h
  ·rename_i hc
   cases h
   refine m9.imp ?_
   rintro vx vy H Q ⟨φ,S,r1,r2,q⟩
   obtain⟨a,vs,rfl,h1,h2⟩:=im S r2 hs
   obtain⟨e1,e2⟩:=cQ hc.1 r1
   obtain⟨e3,e4⟩:=ot hc.2 h2
   refine⟨a,vs,rfl,h1,e2,e4,q _ H (br.refl H) ?_⟩
   rw [e1,e3,sg hc.1 hc.2];rfl
  ·cases h
end
end L2
namespace L2
open PySem PySem.Spec PyProof.Rows
section
variable {K:PySem.W.Frag}{X:Cx}
theorem wT:OpR X (binaryOp .Add) (λx y H Q=>∃ l b xs zs,x=.ref l/\y=.ref b/\Rd H l (.lst xs)/\Rd H b (.lst zs)/\xs.length+zs.length<=sizeLine/\∀ p,H p=none->Q (.ref p) (upd H p (.lst (xs++zs)))):=by
 intro pins s σ H x y v u Q I rx ry h
 obtain⟨l,b,xs,zs,rfl,rfl,hH,hB,hz,q⟩:=h
 cases rx
 cases ry
 obtain⟨z,its,n,r,e⟩:=hH.ok I.hok
 obtain⟨z2,its2,n2,r2,e2⟩:=hB.ok I.hok
 have hl:=r.length
 have hl2:=r2.length
 refine PySem.P.add_list e e2 ?_ (by rw [List.size_toArray,List.size_toArray];lia)
 have ea:its.toArray++its2.toArray=(its++its2).toArray:=by simp
 rw [ea]
 exact⟨.ref _,_,I.lnew (t':=s.toks) (r.append r2) (by rw [List.length_append];lia),rfl,q _ I.fresh⟩
theorem uh:OpR X (binaryOp .Add) (λx y H Q=>∃ a b xs ys,x=.ref a/\y=.ref b/\SqT X.K H a xs/\SqT X.K H b ys/\xs.length+ys.length<=sizeLine/\
  (xs=[]->Q (.ref b) H)/\(ys=[]->Q (.ref a) H)/\∀ p,H p=none->Q (.ref p) (upd H p (.tup (xs++ys)))):=by
 intro pins s σ H x y v u Q I rx ry h
 obtain⟨a,b,xs,ys,rfl,rfl,ha,hb,hz,q0,q1,q2⟩:=h
 by_cases hx:xs=[]
 ·cases rx
  cases ry
  obtain⟨its,r1,p1,_⟩:=I.tuple ha
  obtain⟨its2,r2,p2,_⟩:=I.tuple hb
  obtain⟨⟨cls,dd,data,sl⟩,ho,hc,n,hd⟩:=id p1
  obtain⟨⟨cls2,dd2,data2,sl2⟩,ho2,hc2,n2,hd2⟩:=id p2
  simp only at hc hd hc2 hd2
  subst hc hd hc2 hd2
  exact concat_meets ⟨_,ho,rfl⟩ ⟨_,ho2,rfl⟩ noFill_tuple_add seq_tuple_add PySem.F.slot_tuple_add PySem.F.entry_tuple_add (PySem.F.args_tuple_add_2 _ _)
   (tuple_addW0 a b its.toArray its2.toArray n n2 dd dd2 sl sl2 (by simp [r1.nil_iff.mpr hx])) ⟨ho,ho2,.ref b,H,I,rfl,q0 hx⟩
 ·exact xn pins s σ H _ _ v u Q I rx ry ⟨a,b,xs,ys,rfl,rfl,ha,hb,hx,hz,q1,λ_ p hp=>q2 p hp⟩
theorem iM {st:Sto}{H:Hp}{φ:List Addr}{w:W}{v:V}{ds:List D} (S:Sr K H φ st) (r:Rw K H φ w v) (e:lsD st w=some ds):∃ a vs,v=.ref a/\Rd H a (.lst vs)/\Rls K H φ ds vs:=by
 cases w with
 | h n=>
  obtain⟨a,ea,rfl⟩:=r
  obtain⟨vs,q,rl⟩:=S.atl n a ds ea e
  exact⟨a,vs,rfl,.inl q,rl⟩
 | d x=>
  cases x with
  | lst es=>cases e;obtain⟨a,vs,rfl,h0,h1,h2⟩:=r;exact⟨a,vs,rfl,h1,h2⟩
  | _=>cases e
theorem mil:(1000000:Nat)<=sizeLine:=by rw [sizeLine_eq];decide
theorem d7 (hK:X.K=K:=by rfl):OpD K X (binaryOp .Add) fG:=by
 subst hK
 refine⟨λst x y d h=>?_⟩
 have lists:(lsD st x).bind (λa=>(lsD st y).bind λb=>if a.length+b.length<=1000000 then some (.lst (a++b)) else none)=some d->OpR X (binaryOp .Add) (rD X.K st x y d):=λh=>by
  simp only [Option.bind_eq_some_iff] at h
  obtain⟨as,ha,bs,hb,h⟩:=h
  split at h
  ·rename_i hl
   cases h
   refine wT.imp ?_
   rintro vx vy H Q ⟨φ,S,r1,r2,q⟩
   obtain⟨a,us,rfl,h1,h2⟩:=iM S r1 ha
   obtain⟨b,vs,rfl,h3,h4⟩:=iM S r2 hb
   refine⟨a,b,us,vs,rfl,rfl,h1,h3,by rw [<-h2.length,<-h4.length];exact Nat.le_trans hl mil,λp hp=>q _ _ (br.new hp _) ?_⟩
   exact⟨p,_,rfl,S.nin hp,.inl aP,(h2.append h4).fw S (Fw.new hp)⟩
  ·cases h
 unfold fG at h
 split at h
 next i j=>
  cases h
  refine yy.imp ?_
  rintro vx vy H Q ⟨φ,S,r1,r2,q⟩
  exact⟨i,j,r1,r2,q _ H (br.refl H) rfl⟩
 next as bs=>
  split at h
  ·rename_i hl
   cases h
   refine uh.imp ?_
   rintro vx vy H Q ⟨φ,S,⟨a,us,rfl,h1,h2⟩,⟨b,vs,rfl,h3,h4⟩,q⟩
   refine⟨a,b,us,vs,rfl,rfl,(SqT.of h1),(SqT.of h3),by rw [<-h2.length,<-h4.length];exact Nat.le_trans hl mil,λe=>?_,λe=>?_,λp hp=>?_⟩
   ·subst e
    have:as=[]:=by cases as with | nil=>rfl | cons _ _=>cases h2.length
    subst this
    exact q _ H (br.refl H) ⟨b,vs,rfl,h3,h4⟩
   ·subst e
    have:bs=[]:=by cases bs with | nil=>rfl | cons _ _=>cases h4.length
    subst this
    exact q _ H (br.refl H) ⟨a,us,rfl,h1,by rw [List.append_nil];exact h2⟩
   ·exact q _ _ (br.new hp _) ⟨p,_,rfl,aP,(h2.append h4).fw S (Fw.new hp)⟩
  ·cases h
 next as bs=>
  split at h
  ·rename_i hl
   cases h
   refine qj.imp ?_
   rintro vx vy H Q ⟨φ,S,r1,r2,q⟩
   exact⟨as,bs,r1,r2,Nat.le_trans hl mil,q _ H (br.refl H) rfl⟩
  ·cases h
 next=>exact lists h
theorem xw:OpR X (binaryOp .Mult) (λx y H Q=>∃ l k xs,x=.ref l/\y=.int k/\Rd H l (.lst xs)/\-(2 ^ 63)<=k/\k < 2 ^ 63/\xs.length*k.toNat<=sizeLine/\
 ∀ p,H p=none->Q (.ref p) (upd H p (.lst (List.replicate k.toNat xs).flatten))):=by
 intro pins s σ H x y v u Q I rx ry h
 obtain⟨l,k,xs,rfl,rfl,hH,h1,h2,hz,q⟩:=h
 cases rx
 obtain⟨t,rfl⟩:=ry
 obtain⟨z,its,n,r,e⟩:=hH.ok I.hok
 have hl:=r.length
 have hlen:its.toArray.size*k.toNat<=sizeLine:=by rw [List.size_toArray,<-hl];exact hz
 have hcap:¬ its.toArray.size*k.toNat > (2 ^ 63 - 1) / 8:=by
  have:(sizeLine:Nat)<=(2 ^ 63 - 1) / 8:=by decide
  lia
 have hfit:¬ (!Builtin.List.listFitsIndex k)=true:=by
  rw [fitsIndex_both h1 h2]
  exact Bool.false_ne_true
 have hlong:¬ Builtin.List.listTooLong (its.toArray.size*k.toNat)=true:=by
  rw [pI hlen]
  exact Bool.false_ne_true
 have hnew:List.foldl (λx1 x2=>x1++x2) #[] (List.replicate (if its.toArray.isEmpty=true then 0 else k.toNat) its.toArray)=(List.replicate k.toNat its).flatten.toArray:=by
  have f0:∀ m:Nat,List.foldl (λx1 x2=>x1++x2) #[] (List.replicate m its.toArray)=(List.replicate m its).flatten.toArray:=λm=>by
   have:=iN its m []
   rw [List.nil_append] at this
   exact this
  rw [f0]
  cases its with
  | nil=>simp
  | cons a r'=>rw [if_neg (by simp)]
 refine wpAny_binaryOp_repeat_ref (T:="list") (U:="int") (by decide) ⟨_,e,rfl⟩ (λs'=>typeIs_int s' k t) noFill_list_mul F.fills_int_mul F.slot_int_rmul repeat_list F.slot_int_index.lookup
  (call_meets F.slot_int_rmul (typeIs_int s k t) F.entry_int_rmul (F.args_int_rmul_2 _ _) (int___rmul___int_list k t l its.toArray n)
    ⟨e,rfl,⟨_,e,rfl⟩,call_meets F.slot_list_mul ⟨_,e,rfl⟩ F.entry_list_mul (F.args_list_mul_2 _ _) (AutoListH.list___mul___list_int_3 l its.toArray n k t hfit hcap hlong) ⟨e,?_⟩⟩)
 rw [hnew]
 exact⟨.ref _,_,I.lnew (t':=s.toks) (r.rep k.toNat) (by rw [nH,Nat.mul_comm];exact hz),rfl,q _ I.fresh⟩
theorem dW (hK:X.K=K:=by rfl):OpD K X (binaryOp .Mult) gi:=by
 subst hK
 refine⟨λst x y d h=>?_⟩
 unfold gi at h
 split at h
 next i j=>
  split at h
  ·rename_i hl
   cases h
   refine wx.imp ?_
   rintro vx vy H Q ⟨φ,S,r1,r2,q⟩
   exact⟨i,j,r1,r2,hl,q _ H (br.refl H) rfl⟩
  ·cases h
 next as k=>
  split at h
  ·rename_i hl
   cases h
   refine xR.imp ?_
   rintro vx vy H Q ⟨φ,S,⟨a,us,rfl,h1,h2⟩,r2,q⟩
   have hne:us≠[]:=by rintro rfl;cases as with | nil=>exact hl.1 rfl | cons _ _=>cases h2.length
   refine⟨a,k,us,rfl,r2,(SqT.of h1),hne,by rw [<-h2.length];exact hl.2.1,hl.2.2.1,hl.2.2.2,λe=>?_,λ_ p hp=>?_⟩
   ·subst e
    exact q _ H (br.refl H) ⟨a,us,rfl,h1,by simpa using h2⟩
   ·exact q _ _ (br.new hp _) ⟨p,_,rfl,aP,(h2.rep _).fw S (Fw.new hp)⟩
  ·cases h
 next as k=>
  split at h
  ·rename_i hl
   cases h
   refine xw.imp ?_
   rintro vx vy H Q ⟨φ,S,⟨a,us,rfl,h0,h1,h2⟩,r2,q⟩
   refine⟨a,k,us,rfl,r2,h1,by lia,by lia,?_,λp hp=>?_⟩
   ·rw [<-h2.length]
    have:as.length*k.toNat<=1000*1000:=Nat.mul_le_mul hl.1 (by lia)
    exact Nat.le_trans this mil
   ·exact q _ _ (br.new hp _) ⟨p,_,rfl,S.nin hp,.inl aP,(h2.rep _).fw S (Fw.new hp)⟩
  ·cases h
 next=>cases h
noncomputable def dIx (st:Sto) (x y:W):Option D:=match x,y with
 | .d (.str z),.d (.int i)=>if z.length<=1000000 then (atI z.cps.toList i).map λc=>.str ⟨#[c]⟩ else none
 | x,.d (.int i)=>(el st x).bind λds=>atI ds i
 | _,_=>none
theorem zU {H:Hp}{φ:List Addr}{ds:List D}{vs:List V}{i:Int}{d:D} (r:Rls K H φ ds vs) (e:atI ds i=some d):∃ v,atI vs i=some v/\Rl K H φ d v:=by
 unfold atI at e ⊢
 rw [<-r.length]
 obtain⟨j,e1,e2⟩:=Option.bind_eq_some_iff.mp e
 obtain⟨v,ev,rv⟩:=r.get e2
 exact⟨v,by rw [e1];exact ev,rv⟩
theorem IxR.imp {r r':R2} (h:IxR X r) (m:∀ x y H Q,r' x y H Q->r x y H Q):IxR X r':=λvalue slice pins s σ H x y v u Q I rx ry q hs=>h value slice pins s σ H x y v u Q I rx ry (m _ _ _ _ q) hs
theorem Bi (st:Sto) (x y:W) (d:D) (h:dIx st x y=some d) (hK:X.K=K):IxR X (rD K st x y d):=by
 subst hK
 unfold dIx at h
 split at h
 next z i=>
  split at h
  next hl=>
   obtain⟨c,e1,rfl⟩:=Option.map_eq_some_iff.mp h
   refine qN.imp ?_
   rintro vx vy H Q ⟨φ,S,r1,r2,q⟩
   exact .inr (.inr ⟨z,i,c,r1,r2,Nat.le_trans hl mil,e1,q _ H (br.refl H) rfl⟩)
  next=>cases h
 next x i _=>
  obtain⟨ds,e1,e2⟩:=Option.bind_eq_some_iff.mp h
  refine qN.imp ?_
  rintro vx vy H Q ⟨φ,S,r1,r2,q⟩
  obtain⟨a,vs,rfl,h1,h2⟩:=im S r1 e1
  obtain⟨v,ev,rv⟩:=zU h2 e2
  rcases h1 with h1 | h1
  ·exact .inl ⟨a,vs,i,v,rfl,r2,h1,ev,q _ H (br.refl H) rv⟩
  ·exact .inr (.inl ⟨a,vs,i,v,rfl,r2,h1,ev,q _ H (br.refl H) rv⟩)
 next=>cases h
variable {e a b:Expr}{pos p2:Pos}{f fa fb:Ef}
theorem ca (ha:IE K X a fa) (hb:IE K X b fb) (hs:i5 b=true:=by rfl) (hK:X.K=K:=by rfl):IE K X (.Subscript a b pos) (iOp dIx fa fb):=by
 refine⟨λenv st r hr=>?_⟩
 simp only [iOp,Option.bind_eq_some_iff,Option.map_eq_some_iff] at hr
 obtain⟨x,hx,y,hy,d,hd,rfl⟩:=hr
 exact (yd (Bi _ _ _ _ hd hK) (ha.run _ _ _ hx) (hb.run _ _ _ hy) (pz hs)).imp λσ H Q h=>ni h
abbrev Pf:=Ev->Sto->Option (Option Int×Sto)
noncomputable def iPn:Pf
 | _,st=>some (none,st)
noncomputable def z7:W->Option Int
 | .d (.int i)=>some i
 | _=>none
theorem sR {w:W}{i:Int} (h:z7 w=some i):w=.d (.int i):=by
 cases w with
 | h n=>cases h
 | d x=>cases x<;>first | (cases h;done) | (injection h with h;subst h;rfl)
noncomputable def iPs (f:Ef):Pf
 | env,st=>(f env st).bind λr=>(z7 r.1).map λi=>(some i,r.2)
noncomputable def tIO (K:PySem.W.Frag) (env:Ev) (st:Sto) (r:Option Int×Sto):TO:=λσ H Q=>∃ φ,Er K H φ env σ/\Sr K H φ st/\∀ H' φ',Fw φ φ' H H'->Sr K H' φ' r.2->Q r.1 H'
structure IO (K:PySem.W.Frag) (X:Cx) (e:Option Expr) (f:Pf):Prop where
 run:∀ env st r,f env st=some r->PO X e (tIO K env st r)
theorem PO.imp {e:Option Expr}{t t':TO} (h:PO X e t) (m:∀ σ H Q,t' σ H Q->t σ H Q):PO X e t':=λpins s σ H Q I q=>h pins s σ H Q I (m σ H Q q)
theorem sq:IO K X none iPn:=by
 refine⟨λenv st r hr=>?_⟩
 cases hr
 exact wl.imp λσ H Q ⟨φ,hE,hS,q⟩=>q H φ (Fw.refl φ H) hS
theorem sk (h:IE K X e f):IO K X (some e) (iPs f):=by
 refine⟨λenv st r hr=>?_⟩
 simp only [iPs,Option.bind_eq_some_iff,Option.map_eq_some_iff] at hr
 obtain⟨⟨x,s1⟩,hx,i,hi,rfl⟩:=hr
 cases sR hi
 refine (xC (h.run _ _ _ hx)).imp ?_
 rintro σ H Q ⟨φ,hE,hS,q⟩
 exact⟨φ,hE,hS,λv H1 φ1 f1 s1 w1=>⟨i,w1,q H1 φ1 f1 s1⟩⟩
noncomputable def lr (xs:List D) (lo hi:Option Int):List D:=(xs.drop (HT.sIx xs.length 0 lo)).take (HT.sIx xs.length xs.length hi - HT.sIx xs.length 0 lo)
theorem rK {H:Hp}{φ:List Addr}{ds:List D}{vs:List V} (r:Rls K H φ ds vs) (lo hi:Option Int):Rls K H φ (lr ds lo hi) (no vs lo hi):=by
 unfold lr no
 rw [r.length]
 exact (r.drop _).take _
noncomputable def dSl (st:Sto) (x:W) (lo hi:Option Int):Option D:=match x with
 | .d (.tup ds)=>some (.tup (lr ds lo hi))
 | .d (.lst ds)=>some (.lst (lr ds lo hi))
 | .h n=>(lg st n).map λds=>.lst (lr ds lo hi)
 | .d (.scr ns)=>some (.lst (lr (ns.map D.int) lo hi))
 | _=>none
noncomputable def iSl (f:Ef) (lo hi:Pf):Ef
 | env,st=>(f env st).bind λx=>(lo env x.2).bind λl=>(hi env l.2).bind λu=>(dSl u.2 x.1 l.1 u.1).map λd=>(.d d,u.2)
theorem yi {lo hi:Option Expr}{fl fh:Pf} (h:IE K X e f) (hl:IO K X lo fl) (hh:IO K X hi fh) (hK:X.K=K:=by rfl):IE K X (.Subscript e (.Slice lo hi none p2) pos) (iSl f fl fh):=by
 subst hK
 refine⟨λenv st r hr=>?_⟩
 simp only [iSl,Option.bind_eq_some_iff,Option.map_eq_some_iff] at hr
 obtain⟨⟨x,s1⟩,hx,l,hl',u,hu',d,hd,rfl⟩:=hr
 have list:(∀ {H:Hp}{φ:List Addr}{v:V},Sr X.K H φ u.2->Rw X.K H φ x v->∃ a vs ds,v=.ref a/\SqL X.K H a vs/\Rls X.K H φ ds vs/\d=.lst (lr ds l.1 u.1))->PE X (.Subscript e (.Slice lo hi none p2) pos) (tI X.K env st (.d d,u.2)):=λhq=>by
  refine (n4 xp (h.run _ _ _ hx) (hl.run _ _ _ hl') (hh.run _ _ _ hu')).imp ?_
  rintro σ H Q ⟨φ,hE,hS,q⟩
  refine⟨φ,hE,hS,λv H1 φ1 f1 s1 w1=>⟨φ1,hE.fw hS f1,s1,λH2 φ2 f2 s2=>⟨φ2,(hE.fw hS f1).fw s1 f2,s2,λH3 φ3 f3 s3=>?_⟩⟩⟩
  obtain⟨a,vs,ds,rfl,h1,h2,rfl⟩:=hq s3 ((w1.fw s1 f2).fw s2 f3)
  refine⟨a,vs,rfl,h1,λp hp=>q _ _ φ3 (((f1.trans f2).trans f3).trans (Fw.new hp)) (s3.new hp) ?_⟩
  exact⟨p,_,rfl,s3.nin hp,.inl aP,(rK h2 _ _).fw s3 (Fw.new hp)⟩
 dsimp only at hd
 unfold dSl at hd
 split at hd
 next ds=>
  cases hd
  refine (n4 (Ag (K:=X.K) rfl) (h.run _ _ _ hx) (hl.run _ _ _ hl') (hh.run _ _ _ hu')).imp ?_
  rintro σ H Q ⟨φ,hE,hS,q⟩
  refine⟨φ,hE,hS,λv H1 φ1 f1 s1 w1=>⟨φ1,hE.fw hS f1,s1,λH2 φ2 f2 s2=>⟨φ2,(hE.fw hS f1).fw s1 f2,s2,λH3 φ3 f3 s3=>?_⟩⟩⟩
  obtain⟨a,vs,rfl,h1,h2⟩:=(w1.fw s1 f2).fw s2 f3
  refine⟨a,vs,rfl,(SqT.of h1),?_⟩
  by_cases hc:HT.sIx vs.length 0 l.1=0/\HT.sIx vs.length vs.length u.1=vs.length
  ·refine .inr ⟨hc,q _ _ φ3 ((f1.trans f2).trans f3) s3 ⟨a,vs,rfl,h1,?_⟩⟩
   have e:lr ds l.1 u.1=ds:=by
    unfold lr
    rw [h2.length,hc.1,hc.2,List.drop_zero,Nat.sub_zero,<-h2.length,List.take_length]
   rw [e]
   exact h2
  ·exact .inl ⟨hc,λp hp=>q _ _ φ3 (((f1.trans f2).trans f3).trans (Fw.new hp)) (s3.new hp) ⟨p,_,rfl,aP,(rK h2 _ _).fw s3 (Fw.new hp)⟩⟩
 next ds=>
  cases hd
  refine list λ{H φ v} S w=>?_
  obtain⟨a,vs,rfl,h0,h1,h2⟩:=w
  exact⟨a,vs,ds,rfl,.inl h1,h2,rfl⟩
 next n=>
  obtain⟨ds,e1,rfl⟩:=Option.map_eq_some_iff.mp hd
  refine list λ{H φ v} S w=>?_
  obtain⟨a,ea,rfl⟩:=w
  obtain⟨vs,q,rl⟩:=S.atl n a ds ea e1
  exact⟨a,vs,ds,rfl,SqL.of q,rl,rfl⟩
 next ns=>
  cases hd
  refine list λ{H φ v} S w=>?_
  obtain⟨a,rfl,h⟩:=w
  refine⟨a,_,_,rfl,?_,Rls.of_ints ns,rfl⟩
  rcases h with⟨o,h⟩ | h
  ·exact .inl (.inr ⟨o,h⟩)
  ·exact .inr h
 next=>cases hd
end
end L2
namespace L2
open PySem PySem.Spec PyProof.Rows
section
variable {K:PySem.W.Frag}{X:Cx}{pins:List (Addr×Obj)}{σ:St}{H:Hp}{s:Shared}{φ:List Addr}{st:Sto}
theorem dw:∀ (xs ys:List D),((List.range (min xs.length ys.length)).all (λj=>eqD (xs.getD j .non) (ys.getD j .non)) && xs.length==ys.length)=dg xs ys
 | [],[]=>rfl
 | [],y::ys=>by simp [dg]
 | x::xs,[]=>by simp [dg]
 | x::xs,y::ys=>by
  show ((List.range (min (xs.length+1) (ys.length+1))).all (λj=>eqD ((x::xs).getD j .non) ((y::ys).getD j .non)) && (xs.length+1==ys.length+1))=(eqD x y && dg xs ys)
  rw [show min (xs.length+1) (ys.length+1)=min xs.length ys.length+1 by lia,kr,<-dw xs ys]
  have e:(xs.length+1==ys.length+1)=(xs.length==ys.length):=by rw [Bool.eq_iff_iff];simp
  rw [e,Bool.and_assoc]
  rfl
theorem gk {xs ys:List D} (h:xs.length=ys.length):(List.range xs.length).all (λj=>eqD (xs.getD j .non) (ys.getD j .non))=dg xs ys:=by
 rw [<-dw xs ys,<-h,Nat.min_self];simp
theorem oH:∀ {xs ys:List D},xs.length≠ys.length->dg xs ys=false
 | [],[],h=>absurd rfl h
 | [],_::_,_=>rfl
 | _::_,[],_=>rfl
 | x::xs,y::ys,h=>by
  show (eqD x y && dg xs ys)=false
  rw [oH (by intro e;apply h;rw [List.length_cons,List.length_cons,e]),Bool.and_false]
theorem xV (I:Inv X pins σ H s) {a:Addr}{vs ws:List V} (h:Rd H a (.lst vs)) (h':Rd H a (.lst ws)):vs=ws:=I.list_inj (.inl h) (.inl h')
theorem zC {x:V} (h:dB x=true):eqV x x=true:=by
 cases x<;>first | (cases h;done) | (simp [eqV];done)
theorem um {d e:D}{v:V} (f1:b8 d=true) (f2:b8 e=true) (r1:Rl K H φ d v) (r2:Rl K H φ e v):eqD d e=true:=by
 obtain⟨e1,g1⟩:=cQ f1 r1
 obtain⟨e2,_⟩:=cQ f2 r2
 rw [<-jK f1 f2,<-e1,<-e2]
 exact zC g1
theorem kU {n:Nat}{d e:D}{v:V} (f:b8 d=true) (r1:Rl K H φ d v) (r2:Rl K H φ e v) (o2:okD n e=true):eqD d e=true:=by
 have g1:=(cQ f r1).2
 cases e with
 | tup es=>obtain⟨b,us,q,_⟩:=r2;rw [q] at g1;cases g1
 | lst es=>obtain⟨b,us,q,_⟩:=r2;rw [q] at g1;cases g1
 | _=>first | exact um f rfl r1 r2 | (cases n<;>cases o2;done)
theorem r8 (I:Inv X pins σ H s):∀ (n:Nat) {d e:D}{v:V},Rl X.K H φ d v->Rl X.K H φ e v->okD n d=true->okD n e=true->eqD d e=true:=by
 intro n
 induction n with
 | zero=>
  intro d e v r1 r2 o1 o2
  refine kU ?_ r1 r2 o2
  cases d<;>first | rfl | (cases o1;done)
 | succ n ih=>
  have lists:∀ {ds es:List D}{vs:List V},Rls X.K H φ ds vs->Rls X.K H φ es vs->(∀ d ∈ ds,okD n d=true)->(∀ d ∈ es,okD n d=true)->dg ds es=true:=by
   intro ds
   induction ds with
   | nil=>
    intro es vs r1 r2 _ _
    cases r1
    cases es with
    | nil=>rfl
    | cons e es=>obtain⟨_,_,q,_⟩:=r2;cases q
   | cons d ds ihd=>
    intro es vs r1 r2 o1 o2
    obtain⟨v,r,rfl,a1,a2⟩:=r1
    cases es with
    | nil=>cases r2
    | cons e es=>
     obtain⟨v',r',q,b1,b2⟩:=r2
     cases q
     show (eqD d e && dg ds es)=true
     rw [ih a1 b1 (o1 d List.mem_cons_self) (o2 e List.mem_cons_self),ihd a2 b2 (λx hx=>o1 x (List.mem_cons_of_mem _ hx)) (λx hx=>o2 x (List.mem_cons_of_mem _ hx))]
     rfl
  intro d e v r1 r2 o1 o2
  cases d with
  | tup ds=>
   obtain⟨a,vs,rfl,h1,h2⟩:=r1
   cases e with
   | tup es=>
    obtain⟨b,us,q,h3,h4⟩:=r2
    cases q
    rw [I.tuple_inj (SqT.of h3) (SqT.of h1)] at h4
    exact lists h2 h4 (List.all_eq_true.mp o1) (List.all_eq_true.mp o2)
   | lst es=>
    obtain⟨b,us,q,_,h3,h4⟩:=r2
    cases q
    obtain⟨_,_,p1,_⟩:=I.tuple (SqT.of h1)
    obtain⟨_,_,p2,_⟩:=I.list (.inl h3)
    exact absurd rfl (SeqAt.ne_of_list_tuple p2.isList p1)
   | _=>first | (cases o2;done) | (cases r2;done)
  | lst ds=>
   obtain⟨a,vs,rfl,h0,h1,h2⟩:=r1
   cases e with
   | lst es=>
    obtain⟨b,us,q,_,h3,h4⟩:=r2
    cases q
    rw [xV I h3 h1] at h4
    exact lists h2 h4 (List.all_eq_true.mp o1) (List.all_eq_true.mp o2)
   | tup es=>
    obtain⟨b,us,q,h3,h4⟩:=r2
    cases q
    obtain⟨_,_,p1,_⟩:=I.tuple (SqT.of h3)
    obtain⟨_,_,p2,_⟩:=I.list (.inl h1)
    exact absurd rfl (SeqAt.ne_of_list_tuple p2.isList p1)
   | _=>first | (cases o2;done) | (cases r2;done)
  | non=>exact kU rfl r1 r2 o2
  | bl b=>exact kU rfl r1 r2 o2
  | int b=>exact kU rfl r1 r2 o2
  | str b=>exact kU rfl r1 r2 o2
  | ty b=>cases o1
  | scr b=>cases o1
  | dct=>cases o1
theorem dr {ds:List D}{vs:List V}{us:List Value} (r:Rls K H φ ds vs) (rv:ay vs us):∀ (j:Nat) (h:j < us.length),∃ v,Rl K H φ (ds.getD j .non) v/\az v us[j]/\ds.getD j .non ∈ ds:=by
 intro j h
 obtain⟨h',q⟩:=rv.at j h
 have hd:j < ds.length:=by rw [r.length];exact h'
 have e:ds[j]?=some ds[j]:=List.getElem?_eq_getElem hd
 obtain⟨v,ev,rl⟩:=r.get e
 rw [List.getElem?_eq_getElem h'] at ev
 cases ev
 refine⟨_,?_,q,?_⟩
 ·rw [List.getD,e];exact rl
 ·rw [List.getD,e];exact List.getElem_mem hd
theorem zH (I:Inv X pins σ H s):∀ (n:Nat) {A:Around}{d e:D}{v u:V}{vv uu:Value},Rl X.K H φ d v->Rl X.K H φ e u->az v vv->az u uu->okD n d=true->okD n e=true->A.units+n < cLine->SeqAt.EqAt A s vv uu (eqD d e):=by
 have flat:∀ {A:Around}{d e:D}{v u:V}{vv uu:Value},b8 d=true->b8 e=true->Rl X.K H φ d v->Rl X.K H φ e u->az v vv->az u uu->SeqAt.EqAt A s vv uu (eqD d e):=by
  intro A d e v u vv uu f1 f2 r1 r2 q1 q2
  obtain⟨e1,g1⟩:=cQ f1 r1
  obtain⟨e2,g2⟩:=cQ f2 r2
  rw [<-jK f1 f2,<-e1,<-e2]
  exact qP q1 q2 g1 g2
 intro n
 induction n with
 | zero=>
  intro A d e v u vv uu r1 r2 q1 q2 o1 o2 hu
  refine flat ?_ ?_ r1 r2 q1 q2
  ·cases d<;>first | rfl | cases o1
  ·cases e<;>first | rfl | cases o2
 | succ n ih=>
  intro A d e v u vv uu r1 r2 q1 q2 o1 o2 hu
  have hu0:A.units < cLine:=by lia
  have hu1:A.in1.units+n < cLine:=by show A.units+1+n < cLine;lia
  cases d with
  | tup ds=>
   obtain⟨a,vs,rfl,h1,h2⟩:=r1
   cases q1
   obtain⟨its,rv,p1,_⟩:=I.tuple (SqT.of h1)
   cases e with
   | tup es=>
    obtain⟨b,us,rfl,h3,h4⟩:=id r2
    cases q2
    by_cases hab:a=b
    ·subst hab
     rw [r8 I (n+1) (d:=.tup ds) ⟨a,vs,rfl,h1,h2⟩ r2 o1 o2]
     exact SeqAt.EqAt.same _
    ·obtain⟨its2,rv2,p2,_⟩:=I.tuple (SqT.of h3)
     have z:=SeqAt.RcAt.tuples (A:=A) (e:=λj=>eqD (ds.getD j .non) (es.getD j .non)) p1 p2 hu0 λj g1 g2=>by
      obtain⟨v1,k1,k2,k3⟩:=dr h2 rv j (by simpa using g1)
      obtain⟨v2,k4,k5,k6⟩:=dr h4 rv2 j (by simpa using g2)
      exact ih k1 k4 (by simpa using k2) (by simpa using k5) (List.all_eq_true.mp o1 _ k3) (List.all_eq_true.mp o2 _ k6) hu1
     have e1:its.toArray.size=ds.length:=by simp [<-rv.length,h2.length]
     have e2:its2.toArray.size=es.length:=by simp [<-rv2.length,h4.length]
     rw [e1,e2,dw] at z
     exact SeqAt.EqAt.of_refs hab z
   | lst es=>
    obtain⟨b,us,rfl,_,h3,h4⟩:=id r2
    cases q2
    obtain⟨its2,rv2,p2,_⟩:=I.list (.inl h3)
    exact SeqAt.EqAt.tuple_list p1 p2.isList hu0
   | non=>cases r2;cases q2;exact SeqAt.EqAt.tuple_none p1 hu0
   | bl x=>cases r2;cases q2;exact SeqAt.EqAt.tuple_bool x p1 hu0
   | int x=>cases r2;obtain⟨t,rfl⟩:=q2;exact SeqAt.EqAt.tuple_int x t p1 hu0
   | str x=>cases r2;obtain⟨t,rfl⟩:=q2;exact SeqAt.EqAt.tuple_str x t p1 hu0
   | ty _=>cases o2
   | scr _=>cases o2
   | dct=>cases o2
  | lst ds=>
   obtain⟨a,vs,rfl,h0,h1,h2⟩:=r1
   cases q1
   obtain⟨its,rv,p1,_⟩:=I.list (.inl h1)
   cases e with
   | lst es=>
    obtain⟨b,us,rfl,_,h3,h4⟩:=id r2
    cases q2
    by_cases hab:a=b
    ·subst hab
     rw [r8 I (n+1) (d:=.lst ds) ⟨a,vs,rfl,h0,h1,h2⟩ r2 o1 o2]
     exact SeqAt.EqAt.same _
    ·obtain⟨its2,rv2,p2,_⟩:=I.list (.inl h3)
     have e1:its.toArray.size=ds.length:=by simp [<-rv.length,h2.length]
     have e2:its2.toArray.size=es.length:=by simp [<-rv2.length,h4.length]
     by_cases hl:ds.length=es.length
     ·have z:=SeqAt.RcAt.lists (A:=A) (e:=λj=>eqD (ds.getD j .non) (es.getD j .non)) p1.isList p2.isList (by rw [e1,e2,hl]) hu0 λj g1 g2=>by
       obtain⟨v1,k1,k2,k3⟩:=dr h2 rv j (by simpa using g1)
       obtain⟨v2,k4,k5,k6⟩:=dr h4 rv2 j (by simpa using g2)
       exact ih k1 k4 (by simpa using k2) (by simpa using k5) (List.all_eq_true.mp o1 _ k3) (List.all_eq_true.mp o2 _ k6) hu1
      rw [e1,gk hl] at z
      exact SeqAt.EqAt.of_refs hab z
     ·have z:=SeqAt.RcAt.lists_lengths (A:=A) p1.isList p2.isList (by rw [e1,e2];simpa using hl) hu0
      show SeqAt.EqAt A s _ _ (dg ds es)
      rw [oH hl]
      exact SeqAt.EqAt.of_refs hab z
   | tup es=>
    obtain⟨b,us,rfl,h3,h4⟩:=id r2
    cases q2
    obtain⟨its2,rv2,p2,_⟩:=I.tuple (SqT.of h3)
    exact SeqAt.EqAt.list_tuple p1.isList p2 hu0
   | non=>cases r2;cases q2;exact SeqAt.EqAt.list_none p1.isList hu0
   | bl x=>cases r2;cases q2;exact SeqAt.EqAt.list_bool x p1.isList hu0
   | int x=>cases r2;obtain⟨t,rfl⟩:=q2;exact SeqAt.EqAt.list_int x t p1.isList hu0
   | str x=>cases r2;obtain⟨t,rfl⟩:=q2;exact SeqAt.EqAt.list_str x t p1.isList hu0
   | ty _=>cases o2
   | scr _=>cases o2
   | dct=>cases o2
  | non=>
   cases r1;cases q1
   cases e with
   | tup es=>obtain⟨b,us,rfl,h3,h4⟩:=r2;cases q2;obtain⟨_,_,p2,_⟩:=I.tuple (SqT.of h3);exact SeqAt.EqAt.none_tuple p2 hu0
   | lst es=>obtain⟨b,us,rfl,_,h3,h4⟩:=r2;cases q2;obtain⟨_,_,p2,_⟩:=I.list (.inl h3);exact SeqAt.EqAt.none_list p2.isList hu0
   | _=>first | (cases o2;done) | exact flat rfl rfl (d:=.non) rfl r2 (v:=.non) rfl q2
  | bl x=>
   cases r1;cases q1
   cases e with
   | tup es=>obtain⟨b,us,rfl,h3,h4⟩:=r2;cases q2;obtain⟨_,_,p2,_⟩:=I.tuple (SqT.of h3);exact SeqAt.EqAt.bool_tuple x p2 hu0
   | lst es=>obtain⟨b,us,rfl,_,h3,h4⟩:=r2;cases q2;obtain⟨_,_,p2,_⟩:=I.list (.inl h3);exact SeqAt.EqAt.bool_list x p2.isList hu0
   | _=>first | (cases o2;done) | exact flat rfl rfl (d:=.bl x) rfl r2 (v:=.bl x) rfl q2
  | int x=>
   cases r1;obtain⟨t1,rfl⟩:=q1
   cases e with
   | tup es=>obtain⟨b,us,rfl,h3,h4⟩:=r2;cases q2;obtain⟨_,_,p2,_⟩:=I.tuple (SqT.of h3);exact SeqAt.EqAt.int_tuple x t1 p2 hu0
   | lst es=>obtain⟨b,us,rfl,_,h3,h4⟩:=r2;cases q2;obtain⟨_,_,p2,_⟩:=I.list (.inl h3);exact SeqAt.EqAt.int_list x t1 p2.isList hu0
   | _=>first | (cases o2;done) | exact flat rfl rfl (d:=.int x) rfl r2 (v:=.int x) ⟨t1,rfl⟩ q2
  | str x=>
   cases r1;obtain⟨t1,rfl⟩:=q1
   cases e with
   | tup es=>obtain⟨b,us,rfl,h3,h4⟩:=r2;cases q2;obtain⟨_,_,p2,_⟩:=I.tuple (SqT.of h3);exact SeqAt.EqAt.str_tuple x t1 p2 hu0
   | lst es=>obtain⟨b,us,rfl,_,h3,h4⟩:=r2;cases q2;obtain⟨_,_,p2,_⟩:=I.list (.inl h3);exact SeqAt.EqAt.str_list x t1 p2.isList hu0
   | _=>first | (cases o2;done) | exact flat rfl rfl (d:=.str x) rfl r2 (v:=.str x) ⟨t1,rfl⟩ q2
  | ty _=>cases o1
  | scr _=>cases o1
  | dct=>cases o1
theorem yO {A:Around}{y x:V}{u v:Value} (ry:az y u) (rx:az x v) (fy:dB y=true) (fx:dB x=true):SeqAt.RcAt A s u v (eqV y x):=by
 cases y with
 | non=>
  cases ry
  cases x with
  | non=>cases rx;exact SeqAt.RcAt.none_none
  | bl b=>cases rx;exact SeqAt.RcAt.none_bool b
  | int b=>obtain⟨t,rfl⟩:=rx;exact SeqAt.RcAt.none_int b t
  | str b=>obtain⟨t,rfl⟩:=rx;exact SeqAt.RcAt.none_str b t
  | _=>cases fx
 | bl a=>
  cases ry
  cases x with
  | non=>cases rx;exact SeqAt.RcAt.bool_none a
  | bl b=>cases rx;exact SeqAt.RcAt.bool_bool a b
  | int b=>obtain⟨t,rfl⟩:=rx;exact SeqAt.RcAt.bool_int a b t
  | str b=>obtain⟨t,rfl⟩:=rx;exact SeqAt.RcAt.bool_str a b t
  | _=>cases fx
 | int a=>
  obtain⟨t',rfl⟩:=ry
  cases x with
  | non=>cases rx;exact SeqAt.RcAt.int_none a t'
  | bl b=>cases rx;exact SeqAt.RcAt.int_bool a t' b
  | int b=>obtain⟨t,rfl⟩:=rx;exact SeqAt.RcAt.int_int a t' b t
  | str b=>obtain⟨t,rfl⟩:=rx;exact SeqAt.RcAt.int_str a t' b t
  | _=>cases fx
 | str a=>
  obtain⟨t',rfl⟩:=ry
  cases x with
  | non=>cases rx;exact SeqAt.RcAt.str_none a t'
  | bl b=>cases rx;exact SeqAt.RcAt.str_bool a t' b
  | int b=>obtain⟨t,rfl⟩:=rx;exact SeqAt.RcAt.str_int a t' b t
  | str b=>obtain⟨t,rfl⟩:=rx;exact SeqAt.RcAt.str_str a t' b t
  | _=>cases fx
 | _=>cases fy
theorem vn {A:Around}{y x:V}{u v:Value} (ry:az y u) (rx:az x v) (fy:dB y=true) (fx:dB x=true):SeqAt.RcNeAt A s u v (!eqV y x):=by
 cases y with
 | non=>
  cases ry
  cases x with
  | non=>cases rx;exact SeqAt.RcNeAt.none_none
  | bl b=>cases rx;exact SeqAt.RcNeAt.none_bool b
  | int b=>obtain⟨t,rfl⟩:=rx;exact SeqAt.RcNeAt.none_int b t
  | str b=>obtain⟨t,rfl⟩:=rx;exact SeqAt.RcNeAt.none_str b t
  | _=>cases fx
 | bl a=>
  cases ry
  cases x with
  | non=>cases rx;exact SeqAt.RcNeAt.bool_none a
  | bl b=>cases rx;exact SeqAt.RcNeAt.bool_bool a b
  | int b=>obtain⟨t,rfl⟩:=rx;exact SeqAt.RcNeAt.bool_int a b t
  | str b=>obtain⟨t,rfl⟩:=rx;exact SeqAt.RcNeAt.bool_str a b t
  | _=>cases fx
 | int a=>
  obtain⟨t',rfl⟩:=ry
  cases x with
  | non=>cases rx;exact SeqAt.RcNeAt.int_none a t'
  | bl b=>cases rx;exact SeqAt.RcNeAt.int_bool a t' b
  | int b=>obtain⟨t,rfl⟩:=rx;exact SeqAt.RcNeAt.int_int a t' b t
  | str b=>obtain⟨t,rfl⟩:=rx;exact SeqAt.RcNeAt.int_str a t' b t
  | _=>cases fx
 | str a=>
  obtain⟨t',rfl⟩:=ry
  cases x with
  | non=>cases rx;exact SeqAt.RcNeAt.str_none a t'
  | bl b=>cases rx;exact SeqAt.RcNeAt.str_bool a t' b
  | int b=>obtain⟨t,rfl⟩:=rx;exact SeqAt.RcNeAt.str_int a t' b t
  | str b=>obtain⟨t,rfl⟩:=rx;exact SeqAt.RcNeAt.str_str a t' b t
  | _=>cases fx
 | _=>cases fy
inductive Kin where
 | fl (d:D) | tp (ds:List D) | ls (ds:List D)
noncomputable def gy (st:Sto):W->Option Kin
 | .d (.tup ds)=>some (.tp ds)
 | .d (.lst ds)=>some (.ls ds)
 | .h n=>(lg st n).map .ls
 | .d .non=>some (.fl .non)
 | .d (.bl b)=>some (.fl (.bl b))
 | .d (.int i)=>some (.fl (.int i))
 | .d (.str x)=>some (.fl (.str x))
 | _=>none
noncomputable def eqK:Kin->Kin->Option Bool
 | .fl a,.fl b=>some (eqD a b)
 | .tp as,.tp bs=>if (as.isEmpty || bs.isEmpty)=true then some (as.isEmpty && bs.isEmpty) else if as.all (okD 60)=true/\bs.all (okD 60)=true then some (dg as bs) else none
 | .ls as,.ls bs=>if as.length=bs.length then (if as.all (okD 60)=true/\bs.all (okD 60)=true then some (dg as bs) else none) else some false
 | .fl _,.tp _=>some false
 | .tp _,.fl _=>some false
 | .fl _,.ls _=>some false
 | .ls _,.fl _=>some false
 | .tp _,.ls _=>some false
 | .ls _,.tp _=>some false
noncomputable def dEq (st:Sto) (x y:W):Option D:=(gy st x).bind λa=>(gy st y).bind λb=>(eqK a b).map λk=>.bl k
noncomputable def dNe (st:Sto) (x y:W):Option D:=(gy st x).bind λa=>(gy st y).bind λb=>(eqK a b).map λk=>.bl (!k)
noncomputable def zB (K:PySem.W.Frag) (H:Hp) (φ:List Addr):Kin->V->Prop
 | .fl d,v=>b8 d=true/\Rl K H φ d v
 | .tp ds,v=>∃ a vs,v=.ref a/\SqT K H a vs/\Rls K H φ ds vs
 | .ls ds,v=>∃ a vs,v=.ref a/\Rd H a (.lst vs)/\Rls K H φ ds vs
theorem jT {w:W}{v:V}{k:Kin} (S:Sr K H φ st) (r:Rw K H φ w v) (e:gy st w=some k):zB K H φ k v:=by
 cases w with
 | h n=>
  obtain⟨a,ea,rfl⟩:=r
  obtain⟨ds,e1,rfl⟩:=Option.map_eq_some_iff.mp e
  obtain⟨vs,q,rl⟩:=S.atl n a ds ea e1
  exact⟨a,vs,rfl,.inl q,rl⟩
 | d x=>
  cases x with
  | tup es=>cases e;obtain⟨a,vs,rfl,h1,h2⟩:=r;exact⟨a,vs,rfl,SqT.of h1,h2⟩
  | lst es=>cases e;obtain⟨a,vs,rfl,h0,h1,h2⟩:=r;exact⟨a,vs,rfl,h1,h2⟩
  | non=>cases e;exact⟨rfl,r⟩
  | bl b=>cases e;exact⟨rfl,r⟩
  | int b=>cases e;exact⟨rfl,r⟩
  | str b=>cases e;exact⟨rfl,r⟩
  | _=>cases e
theorem yI {A:Around}{k:Nat} (hr:bu k A):A.in1.units+60 < cLine:=by
 have:=hr.un
 show A.units+1+60 < cLine
 lia
theorem uD {k:Nat} (hr:bu k X.A) (I:Inv X pins σ H s) {a b:Kin}{v u:V}{vv uu:Value}{r:Bool} (ra:zB X.K H φ a v) (rb:zB X.K H φ b u) (qa:az v vv) (qb:az u uu) (e:eqK a b=some r) :
  SeqAt.RcAt X.A s vv uu r/\SeqAt.RcNeAt X.A s vv uu (!r):=by
 have hu0:=hr.units0
 have items:∀ {ds es:List D}{vs us:List V}{its its2:List Value},Rls X.K H φ ds vs->Rls X.K H φ es us->ay vs its->ay us its2->ds.all (okD 60)=true->es.all (okD 60)=true->
   ∀ j (g1:j < its.toArray.size) (g2:j < its2.toArray.size),SeqAt.EqAt X.A.in1 s its.toArray[j] its2.toArray[j] (eqD (ds.getD j .non) (es.getD j .non)):=by
  intro ds es vs us its its2 h2 h4 rv rv2 o1 o2 j g1 g2
  obtain⟨v1,k1,k2,k3⟩:=dr h2 rv j (by simpa using g1)
  obtain⟨v2,k4,k5,k6⟩:=dr h4 rv2 j (by simpa using g2)
  exact zH I 60 k1 k4 (by simpa using k2) (by simpa using k5) (List.all_eq_true.mp o1 _ k3) (List.all_eq_true.mp o2 _ k6) (yI hr)
 match a,b,e with
 | .fl d,.fl d',e=>
  cases e
  obtain⟨f1,r1⟩:=ra
  obtain⟨f2,r2⟩:=rb
  obtain⟨e1,g1⟩:=cQ f1 r1
  obtain⟨e2,g2⟩:=cQ f2 r2
  rw [<-jK f1 f2,<-e1,<-e2]
  exact⟨yO qa qb g1 g2,vn qa qb g1 g2⟩
 | .tp ds,.tp es,e=>
  simp only [eqK] at e
  obtain⟨a,vs,rfl,h1,h2⟩:=ra
  obtain⟨b,us,rfl,h3,h4⟩:=rb
  cases qa;cases qb
  obtain⟨its,rv,p1,_⟩:=I.tuple h1
  obtain⟨its2,rv2,p2,_⟩:=I.tuple h3
  have e1:its.toArray.size=ds.length:=by simp [<-rv.length,h2.length]
  have e2:its2.toArray.size=es.length:=by simp [<-rv2.length,h4.length]
  split at e
  ·rename_i hc
   cases e
   have hv:∀ j (g1:j < its.toArray.size) (g2:j < its2.toArray.size),SeqAt.EqAt X.A.in1 s its.toArray[j] its2.toArray[j] (eqD (ds.getD j .non) (es.getD j .non)):=λj g1 g2=>by
    rw [e1] at g1
    rw [e2] at g2
    rw [Bool.or_eq_true] at hc
    rcases hc with hc | hc
    ·rw [List.isEmpty_iff.mp hc] at g1;exact absurd g1 (Nat.not_lt_zero _)
    ·rw [List.isEmpty_iff.mp hc] at g2;exact absurd g2 (Nat.not_lt_zero _)
   have z:=SeqAt.RcAt.tuples (A:=X.A) p1 p2 hu0 hv
   have z':=SeqAt.RcNeAt.tuples (A:=X.A) p1 p2 hu0 hv
   rw [e1,e2,dw] at z z'
   have e3:dg ds es=(ds.isEmpty && es.isEmpty):=by
    cases ds with
    | nil=>cases es<;>rfl
    | cons _ _=>cases es with
     | nil=>rfl
     | cons _ _=>cases hc
   rw [e3] at z z'
   exact⟨z,z'⟩
  ·split at e
   ·rename_i hc
    cases e
    have z:=SeqAt.RcAt.tuples (A:=X.A) p1 p2 hu0 (items h2 h4 rv rv2 hc.1 hc.2)
    have z':=SeqAt.RcNeAt.tuples (A:=X.A) p1 p2 hu0 (items h2 h4 rv rv2 hc.1 hc.2)
    rw [e1,e2,dw] at z z'
    exact⟨z,z'⟩
   ·cases e
 | .ls ds,.ls es,e=>
  simp only [eqK] at e
  obtain⟨a,vs,rfl,h1,h2⟩:=ra
  obtain⟨b,us,rfl,h3,h4⟩:=rb
  cases qa;cases qb
  obtain⟨its,rv,p1,_⟩:=I.list (.inl h1)
  obtain⟨its2,rv2,p2,_⟩:=I.list (.inl h3)
  have e1:its.toArray.size=ds.length:=by simp [<-rv.length,h2.length]
  have e2:its2.toArray.size=es.length:=by simp [<-rv2.length,h4.length]
  split at e
  ·rename_i hl
   split at e
   ·rename_i hc
    cases e
    have z:=SeqAt.RcAt.lists (A:=X.A) p1.isList p2.isList (by rw [e1,e2,hl]) hu0 (items h2 h4 rv rv2 hc.1 hc.2)
    have z':=SeqAt.RcNeAt.lists (A:=X.A) p1.isList p2.isList (by rw [e1,e2,hl]) hu0 (items h2 h4 rv rv2 hc.1 hc.2)
    rw [e1,gk hl] at z z'
    exact⟨z,z'⟩
   ·cases e
  ·rename_i hl
   cases e
   have z:=SeqAt.RcAt.lists_lengths (A:=X.A) p1.isList p2.isList (by rw [e1,e2];simpa using hl) hu0
   have z':=SeqAt.RcNeAt.lists_lengths (A:=X.A) p1.isList p2.isList (by rw [e1,e2];simpa using hl) hu0
   exact⟨z,z'⟩
 | .fl d,.tp es,e=>
  cases e
  obtain⟨f1,r1⟩:=ra
  obtain⟨b,us,rfl,h3,h4⟩:=rb
  cases qb
  obtain⟨its2,rv2,p2,_⟩:=I.tuple h3
  cases d with
  | non=>cases r1;cases qa;exact⟨SeqAt.RcAt.none_tuple p2 hu0,SeqAt.RcNeAt.none_tuple p2 hu0⟩
  | bl x=>cases r1;cases qa;exact⟨SeqAt.RcAt.bool_tuple x p2 hu0,SeqAt.RcNeAt.bool_tuple x p2 hu0⟩
  | int x=>cases r1;obtain⟨t,rfl⟩:=qa;exact⟨SeqAt.RcAt.int_tuple x t p2 hu0,SeqAt.RcNeAt.int_tuple x t p2 hu0⟩
  | str x=>cases r1;obtain⟨t,rfl⟩:=qa;exact⟨SeqAt.RcAt.str_tuple x t p2 hu0,SeqAt.RcNeAt.str_tuple x t p2 hu0⟩
  | _=>cases f1
 | .tp es,.fl d,e=>
  cases e
  obtain⟨f1,r1⟩:=rb
  obtain⟨b,us,rfl,h3,h4⟩:=ra
  cases qa
  obtain⟨its2,rv2,p2,_⟩:=I.tuple h3
  cases d with
  | non=>cases r1;cases qb;exact⟨SeqAt.RcAt.tuple_none p2 hu0,SeqAt.RcNeAt.tuple_none p2 hu0⟩
  | bl x=>cases r1;cases qb;exact⟨SeqAt.RcAt.tuple_bool x p2 hu0,SeqAt.RcNeAt.tuple_bool x p2 hu0⟩
  | int x=>cases r1;obtain⟨t,rfl⟩:=qb;exact⟨SeqAt.RcAt.tuple_int x t p2 hu0,SeqAt.RcNeAt.tuple_int x t p2 hu0⟩
  | str x=>cases r1;obtain⟨t,rfl⟩:=qb;exact⟨SeqAt.RcAt.tuple_str x t p2 hu0,SeqAt.RcNeAt.tuple_str x t p2 hu0⟩
  | _=>cases f1
 | .fl d,.ls es,e=>
  cases e
  obtain⟨f1,r1⟩:=ra
  obtain⟨b,us,rfl,h3,h4⟩:=rb
  cases qb
  obtain⟨its2,rv2,p2,_⟩:=I.list (.inl h3)
  replace p2:=p2.isList
  cases d with
  | non=>cases r1;cases qa;exact⟨SeqAt.RcAt.none_list p2 hu0,SeqAt.RcNeAt.none_list p2 hu0⟩
  | bl x=>cases r1;cases qa;exact⟨SeqAt.RcAt.bool_list x p2 hu0,SeqAt.RcNeAt.bool_list x p2 hu0⟩
  | int x=>cases r1;obtain⟨t,rfl⟩:=qa;exact⟨SeqAt.RcAt.int_list x t p2 hu0,SeqAt.RcNeAt.int_list x t p2 hu0⟩
  | str x=>cases r1;obtain⟨t,rfl⟩:=qa;exact⟨SeqAt.RcAt.str_list x t p2 hu0,SeqAt.RcNeAt.str_list x t p2 hu0⟩
  | _=>cases f1
 | .ls es,.fl d,e=>
  cases e
  obtain⟨f1,r1⟩:=rb
  obtain⟨b,us,rfl,h3,h4⟩:=ra
  cases qa
  obtain⟨its2,rv2,p2,_⟩:=I.list (.inl h3)
  replace p2:=p2.isList
  cases d with
  | non=>cases r1;cases qb;exact⟨SeqAt.RcAt.list_none p2 hu0,SeqAt.RcNeAt.list_none p2 hu0⟩
  | bl x=>cases r1;cases qb;exact⟨SeqAt.RcAt.list_bool x p2 hu0,SeqAt.RcNeAt.list_bool x p2 hu0⟩
  | int x=>cases r1;obtain⟨t,rfl⟩:=qb;exact⟨SeqAt.RcAt.list_int x t p2 hu0,SeqAt.RcNeAt.list_int x t p2 hu0⟩
  | str x=>cases r1;obtain⟨t,rfl⟩:=qb;exact⟨SeqAt.RcAt.list_str x t p2 hu0,SeqAt.RcNeAt.list_str x t p2 hu0⟩
  | _=>cases f1
 | .tp ds,.ls es,e=>
  cases e
  obtain⟨a,vs,rfl,h1,h2⟩:=ra
  obtain⟨b,us,rfl,h3,h4⟩:=rb
  cases qa;cases qb
  obtain⟨its,rv,p1,_⟩:=I.tuple h1
  obtain⟨its2,rv2,p2,_⟩:=I.list (.inl h3)
  exact⟨SeqAt.RcAt.tuple_list p1 p2.isList hu0,SeqAt.RcNeAt.tuple_list p1 p2.isList hu0⟩
 | .ls ds,.tp es,e=>
  cases e
  obtain⟨a,vs,rfl,h1,h2⟩:=ra
  obtain⟨b,us,rfl,h3,h4⟩:=rb
  cases qa;cases qb
  obtain⟨its,rv,p1,_⟩:=I.list (.inl h1)
  obtain⟨its2,rv2,p2,_⟩:=I.tuple h3
  exact⟨SeqAt.RcAt.list_tuple p1.isList p2 hu0,SeqAt.RcNeAt.list_tuple p1.isList p2 hu0⟩
theorem iD {k:Nat} (hr:bu k X.A) (hK:X.K=K:=by rfl):OpD K X (compareOp .Eq) dEq:=by
 subst hK
 refine⟨λst x y d h=>?_⟩
 simp only [dEq,Option.bind_eq_some_iff,Option.map_eq_some_iff] at h
 obtain⟨a,ha,b,hb,r,e,rfl⟩:=h
 intro pins s σ H vx vy v u Q I rx ry q
 obtain⟨φ,S,r1,r2,q⟩:=q
 exact (uD hr I (jT S r1 ha) (jT S r2 hb) rx ry e).1 _ _ _ _ ⟨.bl r,H,I,rfl,q _ H (br.refl H) rfl⟩
theorem ji {k:Nat} (hr:bu k X.A) (hK:X.K=K:=by rfl):OpD K X (compareOp .NotEq) dNe:=by
 subst hK
 refine⟨λst x y d h=>?_⟩
 simp only [dNe,Option.bind_eq_some_iff,Option.map_eq_some_iff] at h
 obtain⟨a,ha,b,hb,r,e,rfl⟩:=h
 intro pins s σ H vx vy v u Q I rx ry q
 obtain⟨φ,S,r1,r2,q⟩:=q
 exact (uD hr I (jT S r1 ha) (jT S r2 hb) rx ry e).2 _ _ _ _ ⟨.bl (!r),H,I,rfl,q _ H (br.refl H) rfl⟩
end
end L2
namespace L2
open PySem PySem.Spec PyProof.Rows
section
variable {K:PySem.W.Frag}{X:Cx}
noncomputable def aH:List D->Option (List Int)
 | []=>some []
 | .int i::ds=>(aH ds).map λr=>i::r
 | _=>none
theorem cw:∀ {ds:List D}{ns:List Int},aH ds=some ns->ds=ns.map D.int
 | [],_,h=>by cases h;rfl
 | .int i::ds,_,h=>by
  obtain⟨r,e,rfl⟩:=Option.map_eq_some_iff.mp h
  rw [cw e];rfl
 | .non::_,_,h=>by cases h
 | .bl _::_,_,h=>by cases h
 | .str _::_,_,h=>by cases h
 | .ty _::_,_,h=>by cases h
 | .dct::_,_,h=>by cases h
 | .scr _::_,_,h=>by cases h
 | .tup _::_,_,h=>by cases h
 | .lst _::_,_,h=>by cases h
theorem bN:∀ (ns:List Int),aH (ns.map D.int)=some ns
 | []=>rfl
 | n::ns=>by rw [List.map_cons,aH,bN ns];rfl
noncomputable def ir (st:Sto):List W->Option D
 | [.d (.str x)]=>if x.length<=1000000 then some (.int x.length) else none
 | [w]=>(el st w).map λds=>.int ds.length
 | _=>none
noncomputable def uS (_:Sto):List W->Option D
 | [.d (.int i)]=>some (.int (if i < 0 then -i else i))
 | _=>none
noncomputable def zT (_:Sto):List W->Option D
 | [.d (.int i)]=>some (.int i)
 | [.d (.bl k)]=>some (.int (if k then 1 else 0))
 | _=>none
noncomputable def xl (_:Sto):List W->Option D
 | [.d (.lst ds)]=>(aH ds).map λns=>.int ns.sum
 | _=>none
noncomputable def jF (st:Sto):List W->Option D
 | [w]=>(el st w).map λds=>.tup ds
 | _=>none
noncomputable def yz (st:Sto):W->Option String
 | .d .non=>some "NoneType"
 | .d (.bl _)=>some "bool"
 | .d (.int _)=>some "int"
 | .d (.str _)=>some "str"
 | .d (.tup _)=>some "tuple"
 | .d (.lst _)=>some "list"
 | .d .dct=>some "dict"
 | .h n=>(lg st n).map λ_=>"list"
 | _=>none
noncomputable def zV (t c:String):Option Bool:=
 if c = "int" then some (t=="int" || t=="bool")
 else if c = "bool"\/c = "str"\/c = "tuple"\/c = "list" then some (t==c)
 else none
noncomputable def jx (st:Sto):List W->Option D
 | [w,.d (.ty c)]=>(yz st w).bind λt=>(zV t c).map λb=>.bl b
 | _=>none
theorem iP (hK:X.K=K:=by rfl):gZ K X (.builtin "len") ir:=by
 subst hK
 refine⟨λst ws d h=>?_⟩
 have seq:∀ w,(el st w).map (λds=>D.int ds.length)=some d->cW X (.builtin "len") (rCD X.K st [w] d):=λw h=>by
  obtain⟨ds,e,rfl⟩:=Option.map_eq_some_iff.mp h
  refine mK.imp ?_
  rintro vs H Q ⟨φ,S,⟨v,r,rfl,r1,rfl⟩,q⟩
  obtain⟨a,us,rfl,h1,h2⟩:=im S r1 e
  exact⟨a,us,rfl,h1,q _ H (br.refl H) (by rw [<-h2.length];rfl)⟩
 cases ws with
 | nil=>cases h
 | cons w tl=>
  cases tl with
  | cons _ _=>
   cases w with
   | h n=>cases h
   | d x=>cases x<;>cases h
  | nil=>
   cases w with
   | h n=>exact seq _ h
   | d x=>
    cases x with
    | str x=>
     simp only [ir] at h
     split at h
     ·rename_i hl
      cases h
      refine mZ.imp ?_
      rintro vs H Q ⟨φ,S,⟨v,r,rfl,r1,rfl⟩,q⟩
      exact⟨x,by rw [show v=.str x from r1],Nat.le_trans hl mil,q _ H (br.refl H) rfl⟩
     ·cases h
    | tup ds=>exact seq _ h
    | lst ds=>exact seq _ h
    | scr ds=>exact seq _ h
    | _=>cases h
theorem u8:gZ K X (.builtin "abs") uS:=by
 refine⟨λst ws d h=>?_⟩
 match ws,h with
 | [.d (.int i)],h=>
  cases h
  refine uv.imp ?_
  rintro vs H Q ⟨φ,S,⟨v,r,rfl,r1,rfl⟩,q⟩
  exact⟨i,by rw [show v=.int i from r1],q _ H (br.refl H) rfl⟩
theorem zn:gZ K X (.type "int") zT:=by
 refine⟨λst ws d h=>?_⟩
 unfold zT at h
 split at h
 next i=>
  cases h
  refine mH.imp ?_
  rintro vs H Q ⟨φ,S,⟨v,r,rfl,r1,rfl⟩,q⟩
  exact .inl ⟨i,by rw [show v=.int i from r1],q _ H (br.refl H) rfl⟩
 next i=>
  cases h
  refine mH.imp ?_
  rintro vs H Q ⟨φ,S,⟨v,r,rfl,r1,rfl⟩,q⟩
  exact .inr ⟨i,by rw [show v=.bl i from r1],q _ H (br.refl H) rfl⟩
 next=>cases h
theorem yQ (hc:X.calm=true:=by rfl) (hK:X.K=K:=by rfl):gZ K X (.builtin "sum") xl:=by
 subst hK
 refine⟨λst ws d h=>?_⟩
 unfold xl at h
 split at h
 next ds=>
  obtain⟨ns,e,rfl⟩:=Option.map_eq_some_iff.mp h
  cases cw e
  refine (Bb (K:=X.K) hc rfl).imp ?_
  rintro vs H Q ⟨φ,S,⟨v,r,rfl,⟨a,us,rfl,h0,h1,h2⟩,rfl⟩,q⟩
  cases h2.ints
  exact⟨a,ns,rfl,.inl h1,q _ H (br.refl H) rfl⟩
 next=>cases h
theorem gI (hK:X.K=K:=by rfl):gZ K X (.type "tuple") jF:=by
 subst hK
 refine⟨λst ws d h=>?_⟩
 unfold jF at h
 split at h
 next w=>
  obtain⟨ds,e,rfl⟩:=Option.map_eq_some_iff.mp h
  refine lQ.imp ?_
  rintro vs H Q ⟨φ,S,⟨v,r,rfl,r1,rfl⟩,q⟩
  obtain⟨a,us,rfl,h1,h2⟩:=oz S r1 e
  refine⟨a,us,rfl,?_⟩
  rcases h1 with h1 | h1
  ·exact .inl ⟨h1,λl hl=>q _ _ (br.new hl _) ⟨l,us,rfl,aP,h2.fw S (Fw.new hl)⟩⟩
  ·exact .inr ⟨SqT.of h1,q _ H (br.refl H) ⟨a,us,rfl,h1,h2⟩⟩
 next=>cases h
theorem d3 {t c:String}{b:Bool} (ht:t = "NoneType"\/t = "bool"\/t = "int"\/t = "str"\/t = "tuple"\/t = "list"\/t = "dict") (h:zV t c=some b):PySem.W.kitOne K (.type t) (.type c)=some b:=by
 unfold zV at h
 split at h
 ·rename_i hc
  subst hc
  rcases ht with rfl | rfl | rfl | rfl | rfl | rfl | rfl<;>(cases h;rfl)
 ·split at h
  ·rename_i _ hc
   rcases hc with rfl | rfl | rfl | rfl<;>rcases ht with rfl | rfl | rfl | rfl | rfl | rfl | rfl<;>(cases h;rfl)
  ·cases h
theorem j7 (hK:X.K=K:=by rfl):gZ K X (.builtin "isinstance") jx:=by
 subst hK
 refine⟨λst ws d h=>?_⟩
 unfold jx at h
 split at h
 next w c=>
  simp only [Option.bind_eq_some_iff,Option.map_eq_some_iff] at h
  obtain⟨t,ht,b,hb,rfl⟩:=h
  intro pins s σ H xs us Q I rv q
  obtain⟨φ,S,⟨v,r,rfl,r1,u,r',rfl,r2,rfl⟩,q⟩:=q
  cases (show u=.ty c from r2)
  obtain⟨vv,uu,rfl,rv1,rv2⟩:=rv.two
  cases rv2
  have fin:∀ tk,EP X pins σ Q (.bool b) { s with toks:=tk }:=λtk=>⟨.bl b,H,I.tok tk,rfl,q _ H (br.refl H) rfl⟩
  cases w with
  | h n=>
   obtain⟨a,ea,rfl⟩:=r1
   obtain⟨ds,eds,rfl⟩:=Option.map_eq_some_iff.mp ht
   obtain⟨vs,hv,_⟩:=S.atl n a ds ea eds
   exact ci I rv1 (.lst hv) (d3 (by simp) hb) fin
  | d x=>
   cases x with
   | non=>cases ht;cases r1;exact ci I rv1 .non (d3 (by simp) hb) fin
   | bl x=>cases ht;cases r1;exact ci I rv1 (.bl x) (d3 (by simp) hb) fin
   | int x=>cases ht;cases r1;exact ci I rv1 (.int x) (d3 (by simp) hb) fin
   | str x=>cases ht;cases r1;exact ci I rv1 (.str x) (d3 (by simp) hb) fin
   | lst ds=>
    cases ht
    obtain⟨a,vs,rfl,h0,h1,h2⟩:=r1
    rcases h1 with h1 | ⟨o,h1⟩
    ·exact ci I rv1 (.lst h1) (d3 (by simp) hb) fin
    ·exact ci I rv1 (.frz h1) (d3 (by simp) hb) fin
   | tup ds=>
    cases ht
    obtain⟨a,vs,rfl,h1,h2⟩:=r1
    cases rv1
    obtain⟨its,_,p,_⟩:=I.tuple (SqT.of h1)
    obtain⟨o,e1,e2,_⟩:=p
    exact PySem.W.kia_one PySem.W.kitx_tuple I.kIn ⟨o,e1,e2⟩ (d3 (by simp) hb) (λz=>nomatch z) fin
   | dct=>
    cases ht
    obtain⟨a,rfl,_,h1⟩:=r1
    rcases h1 with⟨d,h1⟩ | ⟨d,h1⟩
    ·exact ci I rv1 (.dK h1) (d3 (by simp) hb) fin
    ·exact ci I rv1 (.dT h1) (d3 (by simp) hb) fin
   | ty x=>cases ht
   | scr x=>cases ht
 next=>cases h
variable {e a b:Expr}{es:List Expr}{pos:Pos}{f fa fb:Ef}{af:Af}
theorem om {x:Str}{c:String} (hg:Gl X x) (hm:X.mg x=none) (hv:bootBuiltins x=some (.type c)) (hn:x≠"__name__":=by decide) (hd:(x==("__debug__" : Str))=false:=by decide):IE K X (.Name x pos) (iC (.ty c)):=
 xb (v:=.ty c) (xT hg hm hv rfl hn hd) λ_ _=>rfl
noncomputable def eD (g:List D->List W->Option (D×List D)) (o:Ef) (a:Af):Ef
 | env,st=>(o env st).bind λx=>(a env x.2).bind λr=>match x.1 with
 | .h n=>(lg x.2 n).bind λ_=>(lg r.2 n).bind λds=>(g ds r.1).map λy=>(.d y.1,r.2.set n (.l y.2))
 | _=>none
noncomputable def fZ (ds:List D):List W->Option (D×List D)
 | [.d x]=>if ds.length < 1000000 then some (.non,ds++[x]) else none
 | _=>none
theorem qz {name:Str}{id:String}{apos:Pos}{rr:V->List V->Hp->VK->Prop}{g:List D->List W->Option (D×List D)} (slot:Slot "list" name id) (hty:typeOf (.builtin id)=pure (.type "method_descriptor")) (hm:MtR X id rr)
  (hg:∀ (H:Hp) (φ:List Addr) (st:Sto) (n:Nat) (ad:Addr) (ds:List D) (vs:List V) (ws:List W) (us:List V) (y:D×List D) (Q:VK),Sr K H φ st->φ[n]?=some ad->lg st n=some ds->H ad=some (.lst vs)->Rls K H φ ds vs->Rws K H φ ws us->g ds ws=some y->
    (∀ v vs',Rl K H φ y.1 v->Rls K H φ y.2 vs'->(∀ b,v≠.ref b)->Q v (upd H ad (.lst vs')))->rr (.ref ad) us H Q)
  (hfl:∀ ds ws y,g ds ws=some y->b8 y.1=true)
  (ho:IE K X a fa) (ha:IA K X (e::es) af) (hbase:attributeBase a name X.env (eval a X.env)=eval a X.env:=by rfl)
  (hall:(e::es).all aA=true:=by rfl) (hfl30:(e::es).length < 30:=by decide) (hline:(apos.endLine==pos.line)=true:=by rfl) (hK:X.K=K:=by rfl) :
  IE K X (.Call (.Attribute a name apos) (e::es) [] pos) (eD g fa af):=by
 subst hK
 have hall2:aA e=true/\es.all aA=true:=by rw [List.all_cons,Bool.and_eq_true] at hall;exact hall
 refine⟨λenv st r hr=>?_⟩
 simp only [eD,Option.bind_eq_some_iff] at hr
 obtain⟨⟨x,s1⟩,hx,⟨ws,s2⟩,hw,hr⟩:=hr
 cases x with
 | d x=>cases hr
 | h n=>
  simp only [Option.bind_eq_some_iff,Option.map_eq_some_iff] at hr
  obtain⟨ds1,hds1,ds,hds,y,hy,rfl⟩:=hr
  refine (At PySem.F.plainAttrs_list slot hty hm (ho.run _ _ _ hx) (ha.run _ _ _ hw) hbase (ud hall hfl30) hline (aX hall2.1) (bY hall2.2)).imp ?_
  rintro σ H Q ⟨φ,hE,hS,q⟩
  refine⟨φ,hE,hS,λv H1 φ1 f1 S1 w1=>?_⟩
  obtain⟨ad,ea,rfl⟩:=w1
  obtain⟨vs1,hv1,_⟩:=S1.atl n ad _ ea hds1
  refine⟨.inl ⟨rfl,vs1,SqL.of hv1⟩,φ1,hE.fw hS f1,S1,λus H2 φ2 f2 S2 w2=>?_⟩
  have ea2:=f2.get ea
  obtain⟨vs2,hv2,rl2⟩:=S2.atl n ad ds ea2 hds
  refine hg H2 φ2 s2 n ad ds vs2 ws us y _ S2 ea2 hds hv2 rl2 w2 hy λv vs' r1 r2 hb=>?_
  obtain⟨f3,S3⟩:=S2.put ea2 r2
  exact q v _ φ2 ((f1.trans f2).trans f3) S3 (r1.fw S2 f3)
theorem tE {apos:Pos} (ho:IE K X a fa) (ha:IA K X (e::es) af) (hbase:attributeBase a "append" X.env (eval a X.env)=eval a X.env:=by rfl)
  (hall:(e::es).all aA=true:=by rfl) (hfl30:(e::es).length < 30:=by decide) (hline:(apos.endLine==pos.line)=true:=by rfl) (hK:X.K=K:=by rfl) :
  IE K X (.Call (.Attribute a "append" apos) (e::es) [] pos) (eD fZ fa af):=by
 refine qz PySem.F.slot_list_append PySem.F.type_list_append tm (λH φ st n ad ds vs ws us y Q S ea eds hv rl rw hy q=>?_) (λds ws y h=>?_) ho ha hbase hall hfl30 hline hK
 ·match ws,hy with
  | [.d x],hy=>
   simp only [fZ] at hy
   split at hy
   ·rename_i hl
    cases hy
    obtain⟨v,r,rfl,r1,rfl⟩:=rw
    exact⟨ad,vs,v,rfl,rfl,hv,by rw [<-rl.length];exact Nat.lt_of_lt_of_le hl mil,q _ _ rfl (rl.append ⟨v,[],rfl,r1,rfl⟩) (λb z=>nomatch z)⟩
   ·cases hy
 ·match ws,h with
  | [.d x],h=>
   simp only [fZ] at h
   split at h
   ·cases h;rfl
   ·cases h
end
end L2
namespace L2
open PySem PySem.Spec PyProof.Rows
section
variable {K:PySem.W.Frag}{X:Cx}{e a b:Expr}{es:List Expr}{pos:Pos}{f fa fb:Ef}{af:Af}
theorem xH {i j:Nat}{x y:Str}{px py pt:Pos}{kt k2 pt2}
  (h:∀ ta,PA X [a,b] ta->PS X (.Assign [.Tuple [.Name x px,.Name y py] kt pt] (.Tuple [a,b] k2 pt2) pos) (AY i j ta)) (ha:IA K X [a,b] af) :
  IS K X (.Assign [.Tuple [.Name x px,.Name y py] kt pt] (.Tuple [a,b] k2 pt2) pos) (ue i j af):=by
 refine⟨λenv st r hr=>?_⟩
 simp only [ue,Option.bind_eq_some_iff] at hr
 obtain⟨⟨ws,s1⟩,hy,hr⟩:=hr
 match ws,hr with
 | [x,y],hr=>
  cases hr
  refine (h _ (ha.run _ _ _ hy)).imp ?_
  rintro D σ H ⟨φ,hE,hS,q⟩
  refine⟨φ,hE,hS,λvs H1 φ1 f1 s1 w1=>?_⟩
  obtain⟨v,r,rfl,r1,u,r',rfl,r2,r3⟩:=w1
  cases r3
  exact⟨v,u,rfl,q _ H1 φ1 f1 (((hE.fw hS f1).set i r1).set j r2) s1⟩
noncomputable def pZ (x:Int):List Int->List Int
 | []=>[x]
 | y::ys=>if x<=y then x::y::ys else y::pZ x ys
noncomputable def lx:List Int->List Int
 | []=>[]
 | x::xs=>pZ x (lx xs)
theorem iH (x:Int):∀ ys,(pZ x ys).Perm (x::ys)
 | []=>List.Perm.refl _
 | y::ys=>by
  unfold pZ
  split
  ·exact List.Perm.refl _
  ·exact (List.Perm.cons y (iH x ys)).trans (List.Perm.swap x y ys)
theorem jp:∀ xs,(lx xs).Perm xs
 | []=>List.Perm.refl _
 | x::xs=>(iH x _).trans (List.Perm.cons x (jp xs))
theorem jr (x:Int):∀ {ys:List Int},ys.Pairwise (·<=·)->(pZ x ys).Pairwise (·<=·)
 | [],_=>by simp [pZ]
 | y::ys,h=>by
  unfold pZ
  split
  ·rename_i hxy
   refine List.pairwise_cons.mpr ⟨λz hz=>?_,h⟩
   rcases List.mem_cons.mp hz with rfl | hz
   ·exact hxy
   ·exact Int.le_trans hxy ((List.pairwise_cons.mp h).1 z hz)
  ·rename_i hxy
   refine List.pairwise_cons.mpr ⟨λz hz=>?_,jr x (List.pairwise_cons.mp h).2⟩
   rcases List.mem_cons.mp ((iH x ys).mem_iff.mp hz) with rfl | hz
   ·lia
   ·exact (List.pairwise_cons.mp h).1 z hz
theorem gu:∀ xs,(lx xs).Pairwise (·<=·)
 | []=>List.Pairwise.nil
 | x::xs=>jr x (gu xs)
theorem jm {xs ys:List Int} (p:xs.Perm ys) (h1:xs.Pairwise (·<=·)) (h2:ys.Pairwise (·<=·)):xs=ys:=
 List.Perm.eq_of_pairwise (λa b _ _ h1 h2=>Int.le_antisymm h1 h2) h1 h2 p
theorem eL:∀ {ns:List Int}{us:List Value},IntsAre us ns->ay (ns.map V.int) us
 | _,_,.nil=>.nil
 | _,_,.cons n t h=>.cons ⟨t,rfl⟩ (eL h)
theorem wu {H:Hp}{ad:Addr}{ns:List Int}{m:Fn} (hO:wP H) (hS:SqL K H ad (ns.map V.int)) (h:∃ st,m [.d (.scr ns)] []=some (.d (.bl true),st)):spI K m [.ref ad] H (λv _=>v=.bl true) λ_ _ _=>False:=by
 obtain⟨st,h⟩:=h
 refine⟨[],[],[.d (.scr ns)],_,h,⟨_,[],rfl,⟨ad,rfl,?_⟩,rfl⟩,⟨List.nodup_nil,rfl,λn a ds e=>by simp at e⟩,λv H' φ' _ _ r=>r⟩
 rcases hS with (h | h) | h
 ·rcases hO ad with z | ⟨o,xs,z⟩
  ·rw [h] at z;cases z
  ·rw [h] at z;cases z
 ·exact .inl h
 ·exact .inr h
end
end L2
namespace L2
open PySem
theorem da {g:Tg}{body:Sf}:∀ {ds:List D} (Pv:Nat->Ev->Sto->Prop) {env:Ev}{st:Sto},Pv 0 env st->
  (∀ i d env st,ds[i]?=some d->Pv i env st->∃ e1 e2 s2,d8 g (.d d) env=some e1/\(body e1 st=some (.nx e2 s2)\/body e1 st=some (.ct e2 s2))/\Pv (i+1) e2 s2)->
  ∃ env' st',iS g body ds env st=some (.nx env' st')/\Pv ds.length env' st'
 | [],Pv,env,st,h0,_=>⟨env,st,rfl,h0⟩
 | d::ds,Pv,env,st,h0,hs=>by
  obtain⟨e1,e2,s2,h1,h2,h3⟩:=hs 0 d env st rfl h0
  obtain⟨e',s',h4,h5⟩:=da (g:=g) (body:=body) (ds:=ds) (λi=>Pv (i+1)) h3 λi d' env' st' hd p=>hs (i+1) d' env' st' (by simpa using hd) p
  refine⟨e',s',?_,h5⟩
  unfold iS
  rw [h1,Option.bind_some]
  rcases h2 with h2 | h2<;>(rw [h2,Option.bind_some];exact h4)
theorem eu {g:Tg}{tt:Tf}{te:Ef}{env:Ev}{st:Sto} (p:D->Bool) (F:D->D):∀ {ds:List D},(∀ d ∈ ds,∃ e1,d8 g (.d d) env=some e1/\tt e1 st=some (p d,st)/\(p d=true->te e1 st=some (.d (F d),st)))->
  lcI g tt te env ds st=some ((ds.filter p).map F,st)
 | [],_=>rfl
 | d::ds,h=>by
  obtain⟨e1,h1,h2,h3⟩:=h d List.mem_cons_self
  have ih:=eu (g:=g) (tt:=tt) (te:=te) (env:=env) (st:=st) p F (ds:=ds) λx hx=>h x (List.mem_cons_of_mem _ hx)
  unfold lcI
  rw [h1,Option.bind_some,h2,Option.bind_some]
  cases hp:p d with
  | true=>rw [if_pos rfl,h3 hp,Option.bind_some,ih,List.filter_cons,hp];rfl
  | false=>rw [if_neg Bool.false_ne_true,ih,List.filter_cons,hp];rfl
theorem jS {g:Tg}{te:Ef}{env:Ev}{st:Sto} (F:D->D) {ds:List D} (h:∀ d ∈ ds,∃ e1,d8 g (.d d) env=some e1/\te e1 st=some (.d (F d),st)):lcI g dX te env ds st=some (ds.map F,st):=by
 have:=eu (g:=g) (tt:=dX) (te:=te) (env:=env) (st:=st) (λ_=>true) F (ds:=ds) λd hd=>by
  obtain⟨e1,h1,h2⟩:=h d hd
  exact⟨e1,h1,rfl,λ_=>h2⟩
 rw [this,List.filter_eq_self.mpr λ_ _=>rfl]
theorem g7 {a b:Int} (h:-(2 ^ 64) < a/\a < 2 ^ 64):PySem.IntMulOk a b:=xk.ok (.inl h)
theorem jV {a b:Int} (h:-(2 ^ 64) < b/\b < 2 ^ 64):PySem.IntMulOk a b:=xk.ok (.inr h)
theorem qo {α:Type} (a:α) (l:List α):atI (a::l) 0=some a:=nt (j:=0) rfl
theorem zJ {α:Type} (a b:α) (l:List α):atI (a::b::l) 1=some b:=nt (j:=1) rfl
theorem BC {α:Type} (a b c:α) (l:List α):atI (a::b::c::l) 2=some c:=nt (j:=2) rfl
theorem Bl (n:Nat):ixN (n+1) 0=some 0:=su (j:=0) (by lia)
theorem BQ (n:Nat):ixN (n+3) 2=some 2:=su (j:=2) (by lia)
end L2
namespace L2
open PySem
theorem m7 {n i:Nat}{d:D} (h:(gD 0 n)[i]?=some d):d=.int (i:Int)/\i < n:=by
 rw [pk] at h
 by_cases hi:i < n
 ·rw [if_pos hi] at h
  cases h
  exact⟨by rw [Int.zero_add],hi⟩
 ·rw [if_neg hi] at h;cases h
end L2
namespace L2
open PySem PySem.Spec PyProof.Rows
noncomputable def Am:Nat->Nat->StateT SortSt Sem (Option Nat):=sortPriv% PySem.Builtin.countRun
noncomputable def yM:Nat->Nat->Nat->StateT SortSt Sem Bool:=sortPriv% PySem.Builtin.binarySort
noncomputable def mP:Bool->Keyed->Array Keyed->Nat->Nat->Nat->StateT SortSt Sem (Option Nat):=sortPriv% PySem.Builtin.gallop
noncomputable def Bj:Array Keyed->Array Keyed->StateT SortSt Sem (Array Keyed):=sortPriv% PySem.Builtin.mergeLo
noncomputable def Aw:Array Keyed->Array Keyed->StateT SortSt Sem (Array Keyed):=sortPriv% PySem.Builtin.mergeHi
noncomputable def yf:Nat->StateT SortSt Sem Bool:=sortPriv% PySem.Builtin.mergeAt
abbrev zl (st:SortSt) (g:Nat):SortSt:=SortSt.mk' (kindOf st) (arrOf st) (pendingOf st) g (failedOf st)
noncomputable def Cm (prog:Program) (w:World) (A:Around) (s:Shared) (κ:SortKind) (O:KeyOrd) (rk:Keyed->O.α) (S:Keyed->Prop):Prop:=
 ∀ x y,S x->S y->∀ (Q:Bool->Shared->Prop) (E:Value->Shared->Prop),Q (O.blt (rk x) (rk y)) s->wpAny (model prog w) A (keyLt' κ x.1 y.1) Q E s
section
variable {prog:Program}{w:World}{A:Around}{E:Value->Shared->Prop}{s:Shared}{κ:SortKind}{O:KeyOrd}{rk:Keyed->O.α}{S:Keyed->Prop}
theorem oy (hC:Cm prog w A s κ O rk S) {x y:Keyed}{st:SortSt}{Q:Option Bool->SortSt->Prop} (hk:kindOf st=κ) (hx:S x) (hy:S y) (h:Q (some (O.blt (rk x) (rk y))) st) :
  wpS (model prog w) A E s (lt' x y) Q st:=by
 rw [lt'_eq]
 refine wpS_bind (wpS_get ?_)
 rw [hk]
 exact wpS_bind (wpS_lift (wpAny_attempt (hC x y hx hy _ _ ⟨rfl,wpS_pure h⟩)))
theorem bb {c:Prop} [Decidable c] {M:Model}{A':Around}{E':Value->Shared->Prop}{s':Shared}{α:Type}{a b:StateT SortSt Sem α}{Q:α->SortSt->Prop}{st:SortSt} (h:c) (k:wpS M A' E' s' a Q st):wpS M A' E' s' (if c then a else b) Q st:=by rw [if_pos h];exact k
theorem aL {c:Prop} [Decidable c] {M:Model}{A':Around}{E':Value->Shared->Prop}{s':Shared}{α:Type}{a b:StateT SortSt Sem α}{Q:α->SortSt->Prop}{st:SortSt} (h:¬ c) (k:wpS M A' E' s' b Q st):wpS M A' E' s' (if c then a else b) Q st:=by rw [if_neg h];exact k
theorem aY {arr:Array Keyed}{i:Nat}{x:Keyed}{st:SortSt}{Q:Keyed->SortSt->Prop} (hi:arr[i]?=some x) (h:Q x st):wpS (model prog w) A E s (elem' arr i) Q st:=by
 rw [elem'_eq,hi];exact wpS_pure h
theorem eM {t:String}{st:SortSt}{Q:Unit->SortSt->Prop} (h:Q () st):wpS (model prog w) A E s (liftM (rule t):StateT SortSt Sem Unit) Q st:=wpS_lift (wpAny_rule ⟨rfl,h⟩)
noncomputable def kyd (arr:Array Keyed) (i:Nat):Keyed:=(arr[i]?).getD (.none,.none)
theorem aM {arr:Array Keyed}{i:Nat} (h:i < arr.size):arr[i]?=some (kyd arr i):=by
 unfold kyd;simp [h]
theorem cu {a b:Array Keyed}{i j:Nat} (h:a[i]?=b[j]?):kyd a i=kyd b j:=by
 unfold kyd;rw [h]
theorem wE (hC:Cm prog w A s κ O rk S) {i j:Nat}{st:SortSt}{Q:Option Bool->SortSt->Prop} (hk:kindOf st=κ) (hi:i < (arrOf st).size) (hj:j < (arrOf st).size) (hx:S (kyd (arrOf st) i)) (hy:S (kyd (arrOf st) j))
  (h:Q (some (O.blt (rk (kyd (arrOf st) i)) (rk (kyd (arrOf st) j)))) st):wpS (model prog w) A E s (ltAt' i j) Q st:=by
 rw [ltAt'_eq]
 refine wpS_bind (wpS_get ?_)
 exact wpS_bind (aY (aM hi) (wpS_bind (aY (aM hj) (oy hC hk hx hy h))))
structure SB (κ:SortKind) (a0:Array Keyed) (lo:Nat) (p0:Array (Nat×Nat×Nat)) (g0:Nat) (st:SortSt):Prop where
 perm:(arrOf st).Perm a0
 pre:∀ k,k < lo->(arrOf st)[k]?=a0[k]?
 kind:kindOf st=κ
 fail:failedOf st=none
 pend:pendingOf st=p0
 gal:gallopOf st=g0
variable {a0:Array Keyed}{lo:Nat}{p0:Array (Nat×Nat×Nat)}{g0:Nat}{st:SortSt}
theorem SB.size (h:SB κ a0 lo p0 g0 st):(arrOf st).size=a0.size:=h.perm.size_eq
theorem SB.mem (h:SB κ a0 lo p0 g0 st) (hS:∀ x ∈ a0.toList,S x) {i:Nat} (hi:i < a0.size):S (kyd (arrOf st) i):=by
 have hi':i < (arrOf st).size:=by rw [h.size];exact hi
 refine hS _ ((Array.perm_iff_toList_perm.mp h.perm).mem_iff.mp ?_)
 have e:=aM hi'
 rw [Array.getElem?_eq_getElem hi'] at e
 rw [<-Option.some.inj e]
 exact Array.getElem_mem_toList hi'
theorem SB.set (h:SB κ a0 lo p0 g0 st) {xs:Array Keyed} (hp:xs.Perm (arrOf st)) (hl:∀ k,k < lo->xs[k]?=(arrOf st)[k]?):SB κ a0 lo p0 g0 (setArr st xs):=
 ⟨hp.trans h.perm,λk hk=>(hl k hk).trans (h.pre k hk),h.kind,h.fail,h.pend,h.gal⟩
theorem se (hC:Cm prog w A s κ O rk S) (hS:∀ x ∈ a0.toList,S x) (hB:SB κ a0 lo p0 g0 st) {i j:Nat}{Q:Option Bool->SortSt->Prop} (hi:i < a0.size) (hj:j < a0.size)
  (h:Q (some (O.blt (rk (kyd (arrOf st) i)) (rk (kyd (arrOf st) j)))) st):wpS (model prog w) A E s (ltAt' i j) Q st:=
 wE hC hB.kind (by rw [hB.size];exact hi) (by rw [hB.size];exact hj) (hB.mem hS hi) (hB.mem hS hj) h
noncomputable def Up (rk:Keyed->O.α) (arr:Array Keyed) (lo n:Nat):Prop:=∀ i j,lo<=i->i<=j->j < lo+n->O.kle (rk (kyd arr i)) (rk (kyd arr j))
noncomputable def eX (rk:Keyed->O.α) (arr:Array Keyed) (lo n:Nat):Prop:=∀ i j,lo<=i->i<=j->j < lo+n->O.kle (rk (kyd arr j)) (rk (kyd arr i))
theorem gB {xs:Array Keyed}{i j:Nat} (hj:j<=xs.size) (k:Nat):kyd (mirror xs i j ((j - i) / 2)) k=if i<=k/\k < j then kyd xs (i+j - 1 - k) else kyd xs k:=by
 have e:=getElem?_mirror_all (i:=i) hj k
 by_cases h1:i<=k/\k < j
 ·rw [if_pos h1] at e ⊢;exact cu e
 ·rw [if_neg h1] at e ⊢;exact cu e
theorem kZ {xs:Array Keyed}{src d:Nat} (hs:src < xs.size) (hd:d<=src) (k:Nat) :
  kyd (bubble xs src d) k=if k=src - d then kyd xs src else if src - d < k/\k<=src then kyd xs (k - 1) else kyd xs k:=by
 have e:=getElem?_bubble hs d hd k
 by_cases h1:k=src - d
 ·rw [if_pos h1] at e ⊢;exact cu e
 ·rw [if_neg h1] at e ⊢
  by_cases h2:src - d < k/\k<=src
  ·rw [if_pos h2] at e ⊢;exact cu e
  ·rw [if_neg h2] at e ⊢;exact cu e
theorem SB.rev (hB:SB κ a0 lo p0 g0 st) {i j:Nat} (hi:lo<=i) (hj:j<=a0.size):SB κ a0 lo p0 g0 (setArr st (mirror (arrOf st) i j ((j - i) / 2))):=
 hB.set (mirror_perm _ _ _ _) λk hk=>by
  rw [getElem?_mirror_all (by rw [hB.size];exact hj),if_neg (by lia)]
theorem fq {xs:Array Keyed}{i j:Nat} (hj:j<=xs.size) (he:∀ k,i<=k->k < j->rk (kyd xs k)=rk (kyd xs (j - 1))) (k:Nat):rk (kyd (mirror xs i j ((j - i) / 2)) k)=rk (kyd xs k):=by
 rw [gB hj]
 split
 ·rw [he (i+j - 1 - k) (by lia) (by lia),he k (by lia) (by lia)]
 ·rfl
theorem nI {i j:Nat}{Q:Unit->SortSt->Prop} (h:Q () (setArr st (mirror (arrOf st) i j ((j - i) / 2)))):wpS (model prog w) A E s (reverseSlice' i j) Q st:=by
 rw [reverseSlice'_eq];exact wpS_modify h
theorem Up.more {arr:Array Keyed}{n:Nat} (h:Up rk arr lo n) (h1:1<=n) (hl:O.kle (rk (kyd arr (lo+n - 1))) (rk (kyd arr (lo+n)))):Up rk arr lo (n+1):=by
 intro i j hi hij hj
 by_cases hjx:j < lo+n
 ·exact h i j hi hij hjx
 ·have hj':j=lo+n:=by lia
  subst hj'
  by_cases hi':i=lo+n
  ·subst hi';exact KeyOrd.kle_refl _
  ·exact KeyOrd.kle_trans (h i (lo+n - 1) hi (by lia) (by lia)) hl
theorem eX.more {arr:Array Keyed}{n:Nat} (h:eX rk arr lo n) (h1:1<=n) (hl:O.kle (rk (kyd arr (lo+n))) (rk (kyd arr (lo+n - 1)))):eX rk arr lo (n+1):=by
 intro i j hi hij hj
 by_cases hjx:j < lo+n
 ·exact h i j hi hij hjx
 ·have hj':j=lo+n:=by lia
  subst hj'
  by_cases hi':i=lo+n
  ·subst hi';exact KeyOrd.kle_refl _
  ·exact KeyOrd.kle_trans hl (h i (lo+n - 1) hi (by lia) (by lia))
theorem Up.one {arr:Array Keyed}:Up rk arr lo 1:=λi j hi hij hj=>by
 have:i=j:=by lia
 subst this;exact KeyOrd.kle_refl _
theorem eX.congr {xs ys:Array Keyed}{n:Nat} (h:eX rk xs lo n) (e:∀ k,rk (kyd ys k)=rk (kyd xs k)):eX rk ys lo n:=λi j hi hij hj=>by
 rw [e,e];exact h i j hi hij hj
end
end L2
namespace L2
open PySem PySem.Spec PyProof.Rows
section
variable {prog:Program}{w:World}{A:Around}{E:Value->Shared->Prop}{s:Shared}{κ:SortKind}{O:KeyOrd}{rk:Keyed->O.α}{S:Keyed->Prop}
variable {a0:Array Keyed}{lo:Nat}{p0:Array (Nat×Nat×Nat)}{g0:Nat}{st:SortSt}
theorem uc {n0 nrem:Nat}{f:Nat->Option (Option Nat)×Nat->StateT SortSt Sem (ForInStep (Option (Option Nat)×Nat))}{Q:Option (Option Nat)×Nat->SortSt->Prop}
  (hf:∀ x n (Q':ForInStep (Option (Option Nat)×Nat)->SortSt->Prop),1<=n->n < nrem->(O.blt (rk (kyd (arrOf st) (lo+n))) (rk (kyd (arrOf st) (lo+n - 1)))=true->Q' (.done (none,n)) st)->
    (O.blt (rk (kyd (arrOf st) (lo+n))) (rk (kyd (arrOf st) (lo+n - 1)))=false->Q' (.yield (none,n+1)) st)->wpS (model prog w) A E s (f x (none,n)) Q' st)
  (h1:1<=n0) (hn:n0<=nrem) (hu:Up rk (arrOf st) lo n0)
  (h:∀ n,n0<=n->n<=nrem->Up rk (arrOf st) lo n->(n=nrem\/O.klt (rk (kyd (arrOf st) (lo+n))) (rk (kyd (arrOf st) (lo+n - 1))))->Q (none,n) st):wpS (model prog w) A E s (forIn [n0:nrem] (none,n0) f) Q st:=by
 refine wpS_forRange (I:=λx c st'=>st'=st/\c=(none,x)/\Up rk (arrOf st) lo x) ?_ ?_ ⟨rfl,rfl,hu⟩
 ·rintro x c st' hx hxn ⟨rfl,rfl,hs⟩
  exact hf x x _ (by lia) hxn (λhl=>h x hx (by lia) hs (.inr hl)) λhl=>⟨rfl,rfl,hs.more (by lia) hl⟩
 ·rintro c st' ⟨rfl,rfl,hs⟩
  rw [show max n0 nrem=nrem by lia] at hs ⊢
  exact h nrem hn (Nat.le_refl _) hs (.inl rfl)
noncomputable def Eqs (rk:Keyed->O.α) (arr:Array Keyed) (lo m q:Nat):Prop:=q+1<=m/\∀ i,lo+m - (q+1)<=i->i < lo+m->rk (kyd arr i)=rk (kyd arr (lo+m - 1))
theorem wq {n0 nrem:Nat}{f:Nat->Option (Option Nat)×Nat×Nat->StateT SortSt Sem (ForInStep (Option (Option Nat)×Nat×Nat))}{Q:Option (Option Nat)×Nat×Nat->SortSt->Prop}
  (hf:∀ x n q st' (Q':ForInStep (Option (Option Nat)×Nat×Nat)->SortSt->Prop),1<=n->n < nrem->SB κ a0 lo p0 g0 st'->
    (O.blt (rk (kyd (arrOf st') (lo+n))) (rk (kyd (arrOf st') (lo+n - 1)))=true->0 < q->Q' (.yield (none,n+1,0)) (setArr st' (mirror (arrOf st') (lo+n - (q+1)) (lo+n) ((lo+n - (lo+n - (q+1))) / 2))))->
    (O.blt (rk (kyd (arrOf st') (lo+n))) (rk (kyd (arrOf st') (lo+n - 1)))=true->q=0->Q' (.yield (none,n+1,0)) st')->
    (O.blt (rk (kyd (arrOf st') (lo+n - 1))) (rk (kyd (arrOf st') (lo+n)))=true->Q' (.done (none,n,q)) st')->
    (O.blt (rk (kyd (arrOf st') (lo+n))) (rk (kyd (arrOf st') (lo+n - 1)))=false->O.blt (rk (kyd (arrOf st') (lo+n - 1))) (rk (kyd (arrOf st') (lo+n)))=false->Q' (.yield (none,n+1,q+1)) st')->
    wpS (model prog w) A E s (f x (none,n,q)) Q' st')
  (h1:1<=n0) (hn:n0<=nrem) (hz:lo+nrem<=a0.size) (hB:SB κ a0 lo p0 g0 st) (hd:eX rk (arrOf st) lo n0)
  (h:∀ n q st',n0<=n->n<=nrem->SB κ a0 lo p0 g0 st'->eX rk (arrOf st') lo n->Eqs rk (arrOf st') lo n q->Q (none,n,q) st'):wpS (model prog w) A E s (forIn [n0:nrem] (none,n0,0) f) Q st:=by
 have one:∀ (arr:Array Keyed) m,1<=m->Eqs rk arr lo m 0:=λarr m hm=>⟨by lia,λi h1 h2=>by rw [show i=lo+m - 1 by lia]⟩
 refine wpS_forRange (I:=λx c st'=>∃ q,c=(none,x,q)/\SB κ a0 lo p0 g0 st'/\eX rk (arrOf st') lo x/\Eqs rk (arrOf st') lo x q) ?_ ?_ ⟨0,rfl,hB,hd,one _ _ h1⟩
 ·rintro x c st' hx hxn ⟨q,rfl,hB',hs,he⟩
  have hsz:lo+x<=(arrOf st').size:=by rw [hB'.size];lia
  refine hf x x q st' _ (by lia) hxn hB' (λhl hq=>?_) (λhl hq=>?_) (λhl=>h x q st' hx (by lia) hB' hs he) λhl hl2=>?_
  ·have e:=fq (rk:=rk) (xs:=arrOf st') (i:=lo+x - (q+1)) (j:=lo+x) hsz he.2
   exact⟨0,rfl,hB'.rev (by have:=he.1;lia) (by lia),eX.congr (hs.more (by lia) (KeyOrd.kle_of_klt hl)) e,one _ _ (by lia)⟩
  ·exact⟨0,rfl,hB',hs.more (by lia) (KeyOrd.kle_of_klt hl),one _ _ (by lia)⟩
  ·have eq:rk (kyd (arrOf st') (lo+x))=rk (kyd (arrOf st') (lo+x - 1)):=KeyOrd.kle_antisymm hl2 hl
   refine⟨q+1,rfl,hB',hs.more (by lia) (by rw [eq];exact KeyOrd.kle_refl _),by have:=he.1;lia,λi h1 h2=>?_⟩
   rw [show lo+(x+1) - 1=lo+x by lia,eq]
   by_cases hi:i=lo+x
   ·rw [hi,eq]
   ·exact he.2 i (by lia) (by lia)
 ·rintro c st' ⟨q,rfl,hB',hs,he⟩
  rw [show max n0 nrem=nrem by lia] at hs he ⊢
  exact h nrem q st' hn (Nat.le_refl _) hB' hs he
theorem yG {m nrem:Nat}{f:Nat->Option (Option Nat)×Nat->StateT SortSt Sem (ForInStep (Option (Option Nat)×Nat))}{k:Option (Option Nat)×Nat->StateT SortSt Sem (Option Nat)}{Q:Option Nat->SortSt->Prop}
  (hB:SB κ a0 lo p0 g0 st) (hd:eX rk (arrOf st) lo m) (h1:1<=m) (hm:m<=nrem) (hz:lo+nrem<=a0.size)
  (hf:∀ x n (Q':ForInStep (Option (Option Nat)×Nat)->SortSt->Prop) st4,SB κ a0 lo p0 g0 st4->1<=n->n < nrem->(O.blt (rk (kyd (arrOf st4) (lo+n))) (rk (kyd (arrOf st4) (lo+n - 1)))=true->Q' (.done (none,n)) st4)->
    (O.blt (rk (kyd (arrOf st4) (lo+n))) (rk (kyd (arrOf st4) (lo+n - 1)))=false->Q' (.yield (none,n+1)) st4)->wpS (model prog w) A E s (f x (none,n)) Q' st4)
  (hk:∀ n st4,SB κ a0 lo p0 g0 st4->1<=n->n<=nrem->Up rk (arrOf st4) lo n->wpS (model prog w) A E s (k (none,n)) Q st4) :
  wpS (model prog w) A E s (do reverseSlice' lo (lo+m);let r <-forIn [m:nrem] (none,m) f;k r) Q st:=by
 refine wpS_bind (nI ?_)
 have hB4:=hB.rev (i:=lo) (j:=lo+m) (Nat.le_refl _) (by lia)
 refine wpS_bind (uc (rk:=rk) (lo:=lo) (λx n Q' hn1 hn2 hy hno=>hf x n Q' _ hB4 hn1 hn2 hy hno) h1 hm ?_ λn' hn1' hn2' hu' _=>hk n' _ hB4 (by lia) hn2' hu')
 intro i j hi hij hj
 have hs3:lo+m<=(arrOf st).size:=by rw [hB.size];lia
 show O.kle (rk (kyd (mirror (arrOf st) lo (lo+m) ((lo+m - lo) / 2)) i)) (rk (kyd (mirror (arrOf st) lo (lo+m) ((lo+m - lo) / 2)) j))
 rw [gB hs3,gB hs3,if_pos (by lia),if_pos (by lia)]
 exact hd _ _ (by lia) (by lia) (by lia)
set_option maxHeartbeats 1000000 in
theorem sv (hC:Cm prog w A s κ O rk S) (hS:∀ x ∈ a0.toList,S x) {nrem:Nat}{Q:Option Nat->SortSt->Prop} (hB:SB κ a0 lo p0 g0 st) (h1:1<=nrem) (hz:lo+nrem<=a0.size)
  (h:∀ m st',SB κ a0 lo p0 g0 st'->1<=m->m<=nrem->Up rk (arrOf st') lo m->Q (some m) st'):wpS (model prog w) A E s (Am lo nrem) Q st:=by
 have asc:∀ st' (_:SB κ a0 lo p0 g0 st') n (Q':Option Bool->SortSt->Prop),1<=n->n < nrem->Q' (some (O.blt (rk (kyd (arrOf st') (lo+n))) (rk (kyd (arrOf st') (lo+n - 1))))) st'->
   wpS (model prog w) A E s (ltAt' (lo+n) (lo+n - 1)) Q' st':=λst' hB' n Q' h1 h2 hq=>se hC hS hB' (by lia) (by lia) hq
 refine wpS_bind (uc (rk:=rk) (lo:=lo) (λx n Q' hn1 hn2 hy hno=>?_) (Nat.le_refl 1) h1 Up.one λn hn1 hn2 hu hor=>?_)
 ·refine wpS_bind (asc st hB n _ hn1 hn2 ?_)
  cases hl:O.blt (rk (kyd (arrOf st) (lo+n))) (rk (kyd (arrOf st) (lo+n - 1))) with
  | true=>exact wpS_pure (hy hl)
  | false=>exact wpS_pure (hno hl)
 dsimp only
 by_cases hnn:n=nrem
 ·refine bb (by simpa using hnn) ?_
  exact wpS_pure (h n st hB hn1 hn2 hu)
 refine aL (by simpa using hnn) ?_
 have hlt:=hor.resolve_left hnn
 have hn3:n+1<=nrem:=by lia
 have hsz:lo+n<=(arrOf st).size:=by rw [hB.size];lia
 by_cases hgt:n > 1
 case' pos=>
  refine bb hgt ?_
  refine wpS_bind (se hC hS hB (by lia) (by lia) ?_)
  by_cases hrose:O.blt (rk (kyd (arrOf st) lo)) (rk (kyd (arrOf st) (lo+n - 1)))=true
  ·rw [hrose];exact wpS_pure (h n st hB hn1 hn2 hu)
  rw [Bool.not_eq_true] at hrose
  rw [hrose]
  have hall:∀ k,lo<=k->k < lo+n->rk (kyd (arrOf st) k)=rk (kyd (arrOf st) (lo+n - 1)):=λk hk1 hk2=>
   KeyOrd.kle_antisymm (hu k (lo+n - 1) hk1 (by lia) (by lia)) (KeyOrd.kle_trans hrose (hu lo k (by lia) hk1 hk2))
  refine wpS_bind (nI ?_)
  have hB2:=hB.rev (i:=lo) (j:=lo+n) (Nat.le_refl _) (by lia)
  have hd:eX rk (arrOf (setArr st (mirror (arrOf st) lo (lo+n) ((lo+n - lo) / 2)))) lo (n+1):=by
   refine eX.congr (xs:=arrOf st) (eX.more (λi j hi hij hj=>?_) (by lia) (KeyOrd.kle_of_klt hlt)) (fq hsz hall)
   rw [hall i hi (by lia),hall j (by lia) hj];exact KeyOrd.kle_refl _
  generalize setArr st (mirror (arrOf st) lo (lo+n) ((lo+n - lo) / 2))=st2 at hB2 hd ⊢
  clear hu hlt hrose hall hB hsz hor
 case' neg=>
  refine aL hgt ?_
  have hB2:=hB
  have hd:eX rk (arrOf st) lo (n+1):=by
   refine eX.more (λi j hi hij hj=>?_) (by lia) (KeyOrd.kle_of_klt hlt)
   rw [show i=j by lia];exact KeyOrd.kle_refl _
  clear hu hlt hB hsz hor
  revert hB2 hd
  generalize st=st2
  intro hB2 hd
 all_goals
  refine wpS_bind (eM ?_)
  refine wpS_bind (wq (λx m q st' Q' hm1 hm2 hB' c1 c2 c3 c4=>?_) (by lia) hn3 hz hB2 hd λm q st' hm1 hm2 hB' hd' he=>?_)
  ·refine wpS_bind (asc st' hB' m _ hm1 hm2 ?_)
   cases hl:O.blt (rk (kyd (arrOf st') (lo+m))) (rk (kyd (arrOf st') (lo+m - 1))) with
   | true=>
    dsimp only
    refine bb rfl ?_
    by_cases hq:q > 0
    ·rw [if_pos hq];exact wpS_bind (nI (wpS_pure (c1 hl hq)))
    ·rw [if_neg hq];exact wpS_pure (c2 hl (by lia))
   | false=>
    dsimp only
    refine aL (by simp) ?_
    refine wpS_bind (se hC hS hB' (by lia) (by lia) ?_)
    cases hl2:O.blt (rk (kyd (arrOf st') (lo+m - 1))) (rk (kyd (arrOf st') (lo+m))) with
    | true=>exact wpS_pure (c3 hl2)
    | false=>exact wpS_pure (c4 hl hl2)
  have hsz':lo+m<=(arrOf st').size:=by rw [hB'.size];lia
  dsimp only
  by_cases hq:q > 0
  case' pos=>
   refine bb hq ?_
   refine wpS_bind (nI ?_)
   have hB3:=hB'.rev (i:=lo+m - (q+1)) (j:=lo+m) (by have:=he.1;lia) (by lia)
   have hd3:eX rk (arrOf (setArr st' (mirror (arrOf st') (lo+m - (q+1)) (lo+m) ((lo+m - (lo+m - (q+1))) / 2)))) lo m:=eX.congr hd' (fq hsz' he.2)
   generalize setArr st' (mirror (arrOf st') (lo+m - (q+1)) (lo+m) ((lo+m - (lo+m - (q+1))) / 2))=st3 at hB3 hd3 ⊢
  case' neg=>
   refine aL hq ?_
   have hB3:=hB'
   have hd3:=hd'
  all_goals
   refine yG hB3 hd3 (by lia) hm2 hz (λx n' Q' st4 hB4 hn1' hn2' hy hno=>?_) λn' st4 hB4 a1 a2 a3=>wpS_pure (h n' st4 hB4 a1 a2 a3)
   refine wpS_bind (asc st4 hB4 n' _ hn1' hn2' ?_)
   cases hl:O.blt (rk (kyd (arrOf st4) (lo+n'))) (rk (kyd (arrOf st4) (lo+n' - 1))) with
   | true=>exact wpS_pure (hy hl)
   | false=>exact wpS_pure (hno hl)
end
end L2
namespace L2
open PySem PySem.Spec PyProof.Rows
section
variable {prog:Program}{w:World}{A:Around}{E:Value->Shared->Prop}{s:Shared}{κ:SortKind}{O:KeyOrd}{rk:Keyed->O.α}{S:Keyed->Prop}
variable {a0:Array Keyed}{lo:Nat}{p0:Array (Nat×Nat×Nat)}{g0:Nat}{st:SortSt}
set_option maxHeartbeats 1000000 in
theorem n5 (hC:Cm prog w A s κ O rk S) (hS:∀ x ∈ a0.toList,S x) {n ok:Nat}{Q:Bool->SortSt->Prop} (hB:SB κ a0 lo p0 g0 st) (h1:1<=ok) (hok:ok<=n) (hz:lo+n<=a0.size) (hu:Up rk (arrOf st) lo ok)
  (h:∀ st',SB κ a0 lo p0 g0 st'->Up rk (arrOf st') lo n->Q true st'):wpS (model prog w) A E s (yM lo n ok) Q st:=by
 refine wpS_bind (wpS_mono (wpS_forRange (I:=λk c st'=>c=(none,())/\SB κ a0 lo p0 g0 st'/\Up rk (arrOf st') lo (min k n)) (Q:=λc st'=>c=(none,())/\SB κ a0 lo p0 g0 st'/\Up rk (arrOf st') lo n) ?_ ?_ ?_) ?_)
 ·rintro k c st' hk hkn ⟨rfl,hB',hs⟩
  rw [show min k n=k by lia] at hs
  dsimp only
  refine wpS_bind (wpS_mono (wpS_forRange (I:=λx c st2=>st2=st'/\∃ l r,c=(none,l,r)/\l<=r/\r<=k/\r - l<=k - x/\(∀ i,i < l->O.kle (rk (kyd (arrOf st') (lo+i))) (rk (kyd (arrOf st') (lo+k))))/\
    ∀ i,r<=i->i < k->O.klt (rk (kyd (arrOf st') (lo+k))) (rk (kyd (arrOf st') (lo+i))))
   (Q:=λc st2=>st2=st'/\∃ l r,c=(none,l,r)/\l<=k/\(∀ i,i < l->O.kle (rk (kyd (arrOf st') (lo+i))) (rk (kyd (arrOf st') (lo+k))))/\∀ i,l<=i->i < k->O.klt (rk (kyd (arrOf st') (lo+k))) (rk (kyd (arrOf st') (lo+i)))) ?_ ?_ ?_) ?_)
  ·rintro x c st2 _ hxk ⟨rfl,l,r,rfl,hlr,hrk,hm,hlo,hhi⟩
   dsimp only
   by_cases hge:l>=r
   ·refine bb hge ?_
    have e:l=r:=by lia
    subst e
    exact wpS_pure ⟨rfl,l,l,rfl,hrk,hlo,hhi⟩
   ·refine aL hge ?_
    refine wpS_bind (se hC hS hB' (by lia) (by lia) ?_)
    cases hl:O.blt (rk (kyd (arrOf st2) (lo+k))) (rk (kyd (arrOf st2) (lo+(l+r) / 2))) with
    | true=>exact wpS_pure ⟨rfl,l,(l+r) / 2,rfl,by lia,by lia,by lia,hlo,λi h1 h2=>KeyOrd.klt_of_klt_of_kle hl (hs _ _ (by lia) (by lia) (by lia))⟩
    | false=>exact wpS_pure ⟨rfl,(l+r) / 2+1,r,rfl,by lia,by lia,by lia,λi h1=>KeyOrd.kle_trans (hs (lo+i) (lo+(l+r) / 2) (by lia) (by lia) (by lia)) hl,hhi⟩
  ·rintro c st2 ⟨rfl,l,r,rfl,hlr,hrk,hm,hlo,hhi⟩
   have e:l=r:=by lia
   subst e
   exact⟨rfl,l,l,rfl,hrk,hlo,hhi⟩
  ·exact⟨rfl,0,k,rfl,by lia,by lia,by lia,λi hi=>by lia,λi h1 h2=>by lia⟩
  ·rintro c st2 ⟨rfl,l,r,rfl,hlk,hlo,hhi⟩
   dsimp only
   refine wpS_bind (m:=moveDown' (lo+k) (lo+l)) ?_
   rw [moveDown'_eq]
   have hks:lo+k < (arrOf st2).size:=by rw [hB'.size];lia
   refine wpS_modify (wpS_pure ⟨rfl,hB'.set (bubble_perm _ _ _) λi hi=>?_,?_⟩)
   ·rw [getElem?_bubble hks _ (by lia),if_neg (by lia),if_neg (by lia)]
   ·rw [show min (k+1) n=k+1 by lia]
    intro i j hi hij hj
    show O.kle (rk (kyd (bubble (arrOf st2) (lo+k) (lo+k - (lo+l))) i)) (rk (kyd (bubble (arrOf st2) (lo+k) (lo+k - (lo+l))) j))
    rw [kZ hks (by lia),kZ hks (by lia),show lo+k - (lo+k - (lo+l))=lo+l by lia]
    have hlo':∀ i,lo<=i->i < lo+l->O.kle (rk (kyd (arrOf st2) i)) (rk (kyd (arrOf st2) (lo+k))):=λi h1 h2=>by
     have:=hlo (i - lo) (by lia);rwa [show lo+(i - lo)=i by lia] at this
    have hhi':∀ i,lo+l<=i->i < lo+k->O.klt (rk (kyd (arrOf st2) (lo+k))) (rk (kyd (arrOf st2) i)):=λi h1 h2=>by
     have:=hhi (i - lo) (by lia) (by lia);rwa [show lo+(i - lo)=i by lia] at this
    repeat' split
    all_goals first
     | (exfalso;lia)
     | exact KeyOrd.kle_refl _
     | exact hlo' _ (by lia) (by lia)
     | exact KeyOrd.kle_of_klt (hhi' _ (by lia) (by lia))
     | exact hs _ _ (by lia) (by lia) (by lia)
 ·rintro c st' ⟨rfl,hB',hs⟩
  rw [show min (max (max ok 1) n) n=n by lia] at hs
  exact⟨rfl,hB',hs⟩
 ·rw [show max ok 1=ok by lia,show min ok n=ok by lia]
  exact⟨rfl,hB,hu⟩
 ·rintro c st' ⟨rfl,hB',hs⟩
  exact wpS_pure (h st' hB' hs)
noncomputable def bey (O:KeyOrd) (rk:Keyed->O.α) (left:Bool) (key x:Keyed):Bool:=if left=true then O.blt (rk x) (rk key) else !O.blt (rk key) (rk x)
set_option maxHeartbeats 1000000 in
theorem dn (hC:Cm prog w A s κ O rk S) {left:Bool}{key:Keyed}{arr:Array Keyed}{base n hint:Nat}{Q:Option Nat->SortSt->Prop} (hk:kindOf st=κ) (hkey:S key) (hz:base+n<=arr.size) (hS:∀ i,i < n->S (kyd arr (base+i)))
  (hh:hint < n) (anti:∀ i j,i<=j->j < n->bey O rk left key (kyd arr (base+j))=true->bey O rk left key (kyd arr (base+i))=true)
  (h:∀ k,k<=n->(∀ i,i < k->bey O rk left key (kyd arr (base+i))=true)->(∀ i,k<=i->i < n->bey O rk left key (kyd arr (base+i))=false)->Q (some k) st) :
  wpS (model prog w) A E s (mP left key arr base n hint) Q st:=by
 have bey1:∀ i (Q':Option Bool->SortSt->Prop),i < n->Q' (some (bey O rk left key (kyd arr (base+i)))) st->wpS (model prog w) A E s (elem' arr (base+i) >>= λx=>if left=true then lt' x key else lt' key x >>= λb=>pure (b.map (!·))) Q' st:=λi Q' hi hq=>by
  refine wpS_bind (aY (aM (by lia)) ?_)
  cases left with
  | true=>exact oy hC hk (hS i hi) hkey hq
  | false=>exact wpS_bind (oy hC hk hkey (hS i hi) (wpS_pure hq))
 have bin:∀ l0 h0,l0<=h0->h0<=n->(∀ i,i < l0->bey O rk left key (kyd arr (base+i))=true)->(∀ i,h0<=i->i < n->bey O rk left key (kyd arr (base+i))=false)->
   ∀ (f:Nat->Option (Option Nat)×Nat×Nat->StateT SortSt Sem (ForInStep (Option (Option Nat)×Nat×Nat))) (k:Option (Option Nat)×Nat×Nat->StateT SortSt Sem (Option Nat)),
   (∀ x l r (Q':ForInStep (Option (Option Nat)×Nat×Nat)->SortSt->Prop),l<=r->r<=n->(r<=l->Q' (.done (none,l,r)) st)->(l < r->bey O rk left key (kyd arr (base+(l+(r - l) / 2)))=true->Q' (.yield (none,l+(r - l) / 2+1,r)) st)->
     (l < r->bey O rk left key (kyd arr (base+(l+(r - l) / 2)))=false->Q' (.yield (none,l,l+(r - l) / 2)) st)->wpS (model prog w) A E s (f x (none,l,r)) Q' st)->
   (∀ l r,k (none,l,r)=pure (some r))->wpS (model prog w) A E s (forIn [0:n] (none,l0,h0) f >>= k) Q st:=λl0 h0 e1 e2 e3 e4 f k hf hkk=>by
  refine wpS_bind (wpS_mono (wpS_forRange (I:=λx c st2=>st2=st/\∃ l r,c=(none,l,r)/\l<=r/\r<=n/\r - l<=n - x/\(∀ i,i < l->bey O rk left key (kyd arr (base+i))=true)/\∀ i,r<=i->i < n->bey O rk left key (kyd arr (base+i))=false)
   (Q:=λc st2=>st2=st/\∃ r,c=(none,r,r)/\r<=n/\(∀ i,i < r->bey O rk left key (kyd arr (base+i))=true)/\∀ i,r<=i->i < n->bey O rk left key (kyd arr (base+i))=false) ?_ ?_ ?_) ?_)
  ·rintro x c st2 _ hx ⟨rfl,l,r,rfl,a1,a2,a3,a4,a5⟩
   refine hf x l r _ a1 a2 (λhrl=>?_) (λhlr ht=>?_) λhlr ht=>?_
   ·have e:l=r:=by lia
    subst e
    exact⟨rfl,l,rfl,a2,a4,a5⟩
   ·refine⟨rfl,_,_,rfl,by lia,a2,by lia,λi hi=>?_,a5⟩
    exact anti i (l+(r - l) / 2) (by lia) (by lia) ht
   ·refine⟨rfl,_,_,rfl,by lia,by lia,by lia,a4,λi h1 h2=>?_⟩
    cases q:bey O rk left key (kyd arr (base+i)) with
    | false=>rfl
    | true=>rw [anti (l+(r - l) / 2) i h1 h2 q] at ht;cases ht
  ·rintro c st2 ⟨rfl,l,r,rfl,a1,a2,a3,a4,a5⟩
   have e:l=r:=by lia
   subst e
   exact⟨rfl,l,rfl,a2,a4,a5⟩
  ·exact⟨rfl,l0,h0,rfl,e1,e2,by lia,e3,e4⟩
  ·rintro c st2 ⟨rfl,r,rfl,a2,a4,a5⟩
   rw [hkk]
   exact wpS_pure (h r a2 a4 a5)
 refine wpS_bind (bey1 hint _ hh ?_)
 dsimp only
 cases hb:bey O rk left key (kyd arr (base+hint)) with
 | true=>
  refine bb rfl ?_
  refine wpS_bind (wpS_mono (wpS_forRange (I:=λx c st2=>st2=st/\∃ l o,c=(none,l,o)/\l < o/\x+1<=o/\hint+l < n/\bey O rk left key (kyd arr (base+(hint+l)))=true)
   (Q:=λc st2=>st2=st/\∃ l o,c=(none,l,o)/\l < o/\hint+l < n/\bey O rk left key (kyd arr (base+(hint+l)))=true/\(n - hint<=o\/hint+o < n/\bey O rk left key (kyd arr (base+(hint+o)))=false)) ?_ ?_ ?_) ?_)
  ·rintro x c st2 _ hx ⟨rfl,l,o,rfl,a1,a2,a3,a4⟩
   dsimp only
   by_cases ho:o>=n - hint
   ·rw [if_pos ho];exact wpS_pure ⟨rfl,l,o,rfl,a1,a3,a4,.inl ho⟩
   ·refine aL ho ?_
    refine wpS_bind (bey1 (hint+o) _ (by lia) ?_)
    cases hb2:bey O rk left key (kyd arr (base+(hint+o))) with
    | true=>exact wpS_pure ⟨rfl,o,2*o+1,rfl,by lia,by lia,by lia,hb2⟩
    | false=>exact wpS_pure ⟨rfl,l,o,rfl,a1,a3,a4,.inr ⟨by lia,hb2⟩⟩
  ·rintro c st2 ⟨rfl,l,o,rfl,a1,a2,a3,a4⟩
   exact⟨rfl,l,o,rfl,a1,a3,a4,.inl (by lia)⟩
  ·exact⟨rfl,0,1,rfl,by lia,by lia,by lia,hb⟩
  ·rintro c st2 ⟨rfl,l,o,rfl,a1,a3,a4,a5⟩
   dsimp only
   refine bin _ _ (by lia) (by lia) (λi hi=>anti i (hint+l) (by lia) a3 a4) (λi h1 h2=>?_) _ _ (λx l r Q' b1 b2 c1 c2 c3=>?_) λl r=>rfl
   ·rcases a5 with a5 | a5
    ·lia
    ·cases q:bey O rk left key (kyd arr (base+i)) with
     | false=>rfl
     | true=>rw [anti (hint+o) i (by lia) h2 q] at a5;exact absurd a5.2 (by simp)
   ·dsimp only
    by_cases hge:l>=r
    ·rw [if_pos hge];exact wpS_pure (c1 hge)
    ·refine aL hge ?_
     refine wpS_bind (bey1 (l+(r - l) / 2) _ (by lia) ?_)
     cases hb3:bey O rk left key (kyd arr (base+(l+(r - l) / 2))) with
     | true=>exact wpS_pure (c2 (by lia) hb3)
     | false=>exact wpS_pure (c3 (by lia) hb3)
 | false=>
  refine aL (by simp) ?_
  refine wpS_bind (wpS_mono (wpS_forRange (I:=λx c st2=>st2=st/\∃ l o,c=(none,l,o)/\l < o/\x+1<=o/\l<=hint/\bey O rk left key (kyd arr (base+(hint - l)))=false)
   (Q:=λc st2=>st2=st/\∃ l o,c=(none,l,o)/\l < o/\l<=hint/\bey O rk left key (kyd arr (base+(hint - l)))=false/\(hint+1<=o\/o<=hint/\bey O rk left key (kyd arr (base+(hint - o)))=true)) ?_ ?_ ?_) ?_)
  ·rintro x c st2 _ hx ⟨rfl,l,o,rfl,a1,a2,a3,a4⟩
   dsimp only
   by_cases ho:o>=hint+1
   ·rw [if_pos ho];exact wpS_pure ⟨rfl,l,o,rfl,a1,a3,a4,.inl ho⟩
   ·refine aL ho ?_
    refine wpS_bind (bey1 (hint - o) _ (by lia) ?_)
    cases hb2:bey O rk left key (kyd arr (base+(hint - o))) with
    | false=>exact wpS_pure ⟨rfl,o,2*o+1,rfl,by lia,by lia,by lia,hb2⟩
    | true=>exact wpS_pure ⟨rfl,l,o,rfl,a1,a3,a4,.inr ⟨by lia,hb2⟩⟩
  ·rintro c st2 ⟨rfl,l,o,rfl,a1,a2,a3,a4⟩
   exact⟨rfl,l,o,rfl,a1,a3,a4,.inl (by lia)⟩
  ·exact⟨rfl,0,1,rfl,by lia,by lia,by lia,hb⟩
  ·rintro c st2 ⟨rfl,l,o,rfl,a1,a3,a4,a5⟩
   dsimp only
   refine bin _ _ (by lia) (by lia) (λi hi=>?_) (λi h1 h2=>?_) _ _ (λx l r Q' b1 b2 c1 c2 c3=>?_) λl r=>rfl
   ·rcases a5 with a5 | a5
    ·lia
    ·exact anti i (hint - o) (by lia) (by lia) a5.2
   ·cases q:bey O rk left key (kyd arr (base+i)) with
    | false=>rfl
    | true=>rw [anti (hint - l) i (by lia) h2 q] at a4;cases a4
   ·dsimp only
    by_cases hge:l>=r
    ·rw [if_pos hge];exact wpS_pure (c1 hge)
    ·refine aL hge ?_
     refine wpS_bind (bey1 (l+(r - l) / 2) _ (by lia) ?_)
     cases hb3:bey O rk left key (kyd arr (base+(l+(r - l) / 2))) with
     | true=>exact wpS_pure (c2 (by lia) hb3)
     | false=>exact wpS_pure (c3 (by lia) hb3)
end
end L2
namespace L2
open PySem PySem.Spec PyProof.Rows
section
variable {O:KeyOrd}{rk:Keyed->O.α}
noncomputable def mrg (O:KeyOrd) (rk:Keyed->O.α) (xs ys:List Keyed):List Keyed:=List.merge xs ys λx y=>!O.blt (rk y) (rk x)
theorem eO (xs:List Keyed):mrg O rk xs []=xs:=by unfold mrg;simp
theorem ge (ys:List Keyed):mrg O rk [] ys=ys:=by unfold mrg;simp
theorem lT {x y:Keyed}{xs ys:List Keyed} (h:O.blt (rk y) (rk x)=false):mrg O rk (x::xs) (y::ys)=x::mrg O rk xs (y::ys):=by
 unfold mrg;rw [List.cons_merge_cons,h];rfl
theorem ku {x y:Keyed}{xs ys:List Keyed} (h:O.blt (rk y) (rk x)=true):mrg O rk (x::xs) (y::ys)=y::mrg O rk (x::xs) ys:=by
 unfold mrg;rw [List.cons_merge_cons,h];rfl
theorem mQ {x:Keyed}:∀ {ys:List Keyed},(∀ y ∈ ys,O.blt (rk y) (rk x)=true)->mrg O rk [x] ys=ys++[x]
 | [],_=>eO _
 | y::ys,h=>by rw [ku (h y List.mem_cons_self),mQ λz hz=>h z (List.mem_cons_of_mem _ hz)];rfl
theorem iR {x:Keyed}:∀ (xs ys:List Keyed),(∀ y ∈ ys,O.blt (rk y) (rk x)=true)->mrg O rk (xs++[x]) ys=mrg O rk xs ys++[x]
 | [],ys,h=>by rw [List.nil_append,mQ h,ge]
 | a::xs,[],h=>by rw [eO,eO]
 | a::xs,y::ys,h=>by
  rw [List.cons_append]
  cases hb:O.blt (rk y) (rk a) with
  | true=>rw [ku hb,ku hb,<-List.cons_append,iR (a::xs) ys λz hz=>h z (List.mem_cons_of_mem _ hz)];rfl
  | false=>rw [lT hb,lT hb,iR xs (y::ys) h];rfl
termination_by xs ys=>xs.length+ys.length
theorem rS {y:Keyed}:∀ {xs:List Keyed},(∀ x ∈ xs,O.blt (rk y) (rk x)=false)->mrg O rk xs [y]=xs++[y]
 | [],_=>ge _
 | x::xs,h=>by rw [lT (h x List.mem_cons_self),rS λz hz=>h z (List.mem_cons_of_mem _ hz)];rfl
theorem i6 {y:Keyed}:∀ (xs ys:List Keyed),(∀ x ∈ xs,O.blt (rk y) (rk x)=false)->mrg O rk xs (ys++[y])=mrg O rk xs ys++[y]
 | xs,[],h=>by rw [List.nil_append,rS h,eO]
 | [],b::ys,h=>by rw [ge,ge]
 | a::xs,b::ys,h=>by
  rw [List.cons_append]
  cases hb:O.blt (rk b) (rk a) with
  | true=>rw [ku hb,ku hb,i6 (a::xs) ys h];rfl
  | false=>rw [lT hb,lT hb,<-List.cons_append,i6 xs (b::ys) λz hz=>h z (List.mem_cons_of_mem _ hz)];rfl
termination_by xs ys=>xs.length+ys.length
theorem kC (xs ys:List Keyed):(mrg O rk xs ys).Perm (xs++ys):=List.merge_perm_append _
theorem Ab {xs ys:List Keyed} (hx:xs.Pairwise λa b=>O.kle (rk a) (rk b)) (hy:ys.Pairwise λa b=>O.kle (rk a) (rk b)):(mrg O rk xs ys).Pairwise λa b=>O.kle (rk a) (rk b):=by
 have:=List.pairwise_merge (le:=λx y=>!O.blt (rk y) (rk x)) (λa b c h1 h2=>by
   simp only [Bool.not_eq_true'] at *;exact KeyOrd.kle_trans (O:=O) h1 h2) (λa b=>by
   simp only [Bool.or_eq_true,Bool.not_eq_true']
   cases h:O.blt (rk b) (rk a) with
   | false=>exact .inl rfl
   | true=>exact .inr (KeyOrd.klt_asymm (O:=O) h)) xs ys (hx.imp λh=>by rw [Bool.not_eq_true'];exact h) (hy.imp λh=>by rw [Bool.not_eq_true'];exact h)
 exact this.imp λh=>by rw [Bool.not_eq_true'] at h;exact h
theorem cZ {a:Array Keyed}{i:Nat} (h:i < a.size):a.toList.drop i=kyd a i::a.toList.drop (i+1):=by
 have e:=aM h
 rw [Array.getElem?_eq_getElem h] at e
 rw [List.drop_eq_getElem_cons (by simpa using h)]
 rw [<-Option.some.inj e];simp
theorem kQ {a:Array Keyed}{i:Nat} (h:i < a.size):a.toList.take (i+1)=a.toList.take i++[kyd a i]:=by
 have e:=aM h
 rw [Array.getElem?_eq_getElem h] at e
 rw [List.take_succ_eq_append_getElem (by simpa using h)]
 rw [<-Option.some.inj e];simp
theorem rQ {a:Array Keyed}{x:Keyed} (h:x ∈ a.toList):∃ i,i < a.size/\x=kyd a i:=by
 obtain⟨i,hi,e⟩:=List.mem_iff_getElem.mp h
 have hi':i < a.size:=by simpa using hi
 refine⟨i,hi',?_⟩
 have q:=aM hi'
 rw [Array.getElem?_eq_getElem hi'] at q
 rw [<-Option.some.inj q,<-e];simp
noncomputable def MI (O:KeyOrd) (rk:Keyed->O.α) (a b out:Array Keyed) (ia ib:Nat):Prop:=out.toList++mrg O rk (a.toList.drop ia) (b.toList.drop ib)=mrg O rk a.toList b.toList
variable {a b out:Array Keyed}{ia ib:Nat}
theorem MI.start:MI O rk a b #[] 0 0:=by unfold MI;simp
theorem MI.b1 (h:MI O rk a b out ia ib) (hb:ib < b.size) (ha:ia < a.size) (hl:O.blt (rk (kyd b ib)) (rk (kyd a ia))=true):MI O rk a b (out.push (kyd b ib)) ia (ib+1):=by
 unfold MI at *
 rw [cZ ha,cZ hb,ku hl] at h
 rw [<-h,cZ ha];simp
theorem MI.a1 (h:MI O rk a b out ia ib) (hb:ib < b.size) (ha:ia < a.size) (hl:O.blt (rk (kyd b ib)) (rk (kyd a ia))=false):MI O rk a b (out.push (kyd a ia)) (ia+1) ib:=by
 unfold MI at *
 rw [cZ ha,cZ hb,lT hl] at h
 rw [<-h,cZ hb];simp
theorem kM {a:Array Keyed}{i k:Nat} (h:i+k < a.size):(out++a.extract i (i+(k+1)))=(out++a.extract i (i+k)).push (kyd a (i+k)):=by
 apply Array.toList_inj.mp
 rw [Array.toList_push,Array.toList_append,Array.toList_append,Array.toList_extract,Array.toList_extract]
 simp only [List.extract_eq_take_drop,Nat.add_sub_cancel_left]
 have e:(a.toList.drop i).take (k+1)=(a.toList.drop i).take k++[kyd a (i+k)]:=by
  rw [List.take_succ_eq_append_getElem (by simp;lia)]
  have q:=aM h
  rw [Array.getElem?_eq_getElem h] at q
  rw [<-Option.some.inj q];simp
 rw [e,List.append_assoc]
theorem pA {a:Array Keyed}{i:Nat}:out++a.extract i (i+0)=out:=by
 apply Array.toList_inj.mp
 simp
theorem MI.as (h:MI O rk a b out ia ib) (hb:ib < b.size):∀ k,ia+k<=a.size->(∀ i,i < k->bey O rk false (kyd b ib) (kyd a (ia+i))=true)->MI O rk a b (out++a.extract ia (ia+k)) (ia+k) ib
 | 0,_,_=>by rw [pA];exact h
 | k+1,hk,hq=>by
  rw [kM (by lia)]
  have:=MI.a1 (MI.as h hb k (by lia) λi hi=>hq i (by lia)) hb (by lia) (by simpa [bey] using hq k (by lia))
  exact this
theorem MI.bs (h:MI O rk a b out ia ib) (ha:ia < a.size):∀ k,ib+k<=b.size->(∀ i,i < k->bey O rk true (kyd a ia) (kyd b (ib+i))=true)->MI O rk a b (out++b.extract ib (ib+k)) ia (ib+k)
 | 0,_,_=>by rw [pA];exact h
 | k+1,hk,hq=>by
  rw [kM (by lia)]
  exact MI.b1 (MI.bs h ha k (by lia) λi hi=>hq i (by lia)) (by lia) ha (by simpa [bey] using hq k (by lia))
theorem dH {a:Array Keyed}{i:Nat}:(a.extract i a.size).toList=a.toList.drop i:=by
 rw [Array.toList_extract,List.extract_eq_take_drop,List.take_of_length_le (by simp)]
theorem MI.doneB (h:MI O rk a b out ia ib) (hb:ib=b.size):(out++a.extract ia a.size++b.extract ib b.size).toList=mrg O rk a.toList b.toList:=by
 unfold MI at h
 subst hb
 rw [Array.toList_append,Array.toList_append,dH,dH,<-h]
 rw [show b.toList.drop b.size=[] by simp,eO,List.append_nil]
theorem MI.doneA (h:MI O rk a b out ia ib) (ha:ia=a.size):(out++a.extract ia a.size++b.extract ib b.size).toList=mrg O rk a.toList b.toList:=by
 unfold MI at h
 subst ha
 rw [Array.toList_append,Array.toList_append,dH,dH,<-h]
 rw [show a.toList.drop a.size=[] by simp,ge,List.append_nil]
theorem MI.lastA (h:MI O rk a b out ia ib) (ha:ia+1=a.size) (hl:∀ i,i < b.size->O.blt (rk (kyd b i)) (rk (kyd a (a.size - 1)))=true):(out++b.extract ib b.size++a.extract ia a.size).toList=mrg O rk a.toList b.toList:=by
 unfold MI at h
 rw [Array.toList_append,Array.toList_append,dH,dH,<-h,cZ (by lia:ia < a.size),show a.toList.drop (ia+1)=[] by simp;lia,mQ,List.append_assoc]
 intro y hy
 obtain⟨i,hi,rfl⟩:=rQ (List.mem_of_mem_drop hy)
 rw [show ia=a.size - 1 by lia]
 exact hl i hi
noncomputable def MH (O:KeyOrd) (rk:Keyed->O.α) (a b out:Array Keyed) (na nb:Nat):Prop:=mrg O rk (a.toList.take na) (b.toList.take nb)++out.toList.reverse=mrg O rk a.toList b.toList
variable {na nb:Nat}
theorem MH.start:MH O rk a b #[] a.size b.size:=by
 unfold MH
 rw [List.take_of_length_le (by simp),List.take_of_length_le (by simp)];simp
theorem MH.a1 (h:MH O rk a b out (na+1) nb) (ha:na < a.size) (hl:∀ i,i < nb->i < b.size->O.blt (rk (kyd b i)) (rk (kyd a na))=true):MH O rk a b (out.push (kyd a na)) na nb:=by
 unfold MH at *
 rw [kQ ha,iR _ _ λy hy=>?_] at h
 ·rw [<-h];simp
 ·obtain⟨i,hi,e⟩:=List.mem_iff_getElem.mp hy
  have hi':i < nb/\i < b.size:=by simp at hi;lia
  have q:=aM hi'.2
  rw [Array.getElem?_eq_getElem hi'.2] at q
  have:y=kyd b i:=by rw [<-e,<-Option.some.inj q];simp
  rw [this];exact hl i hi'.1 hi'.2
theorem MH.b1 (h:MH O rk a b out na (nb+1)) (hb:nb < b.size) (hl:∀ i,i < na->i < a.size->O.blt (rk (kyd b nb)) (rk (kyd a i))=false):MH O rk a b (out.push (kyd b nb)) na nb:=by
 unfold MH at *
 rw [kQ hb,i6 _ _ λy hy=>?_] at h
 ·rw [<-h];simp
 ·obtain⟨i,hi,e⟩:=List.mem_iff_getElem.mp hy
  have hi':i < na/\i < a.size:=by simp at hi;lia
  have q:=aM hi'.2
  rw [Array.getElem?_eq_getElem hi'.2] at q
  have:y=kyd a i:=by rw [<-e,<-Option.some.inj q];simp
  rw [this];exact hl i hi'.1 hi'.2
end
end L2
namespace L2
open PySem PySem.Spec PyProof.Rows
section
variable {prog:Program}{w:World}{A:Around}{E:Value->Shared->Prop}{s:Shared}{κ:SortKind}{O:KeyOrd}{rk:Keyed->O.α}{S:Keyed->Prop}{st:SortSt}{a b:Array Keyed}
noncomputable def Gs (st st':SortSt):Prop:=∃ g,st'=zl st g
theorem Gs.refl:Gs st st:=⟨gallopOf st,rfl⟩
theorem Gs.kind {st':SortSt} (h:Gs st st'):kindOf st'=kindOf st:=by obtain⟨g,rfl⟩:=h;rfl
theorem Gs.set {st':SortSt} (h:Gs st st') (g:Nat):Gs st (SortSt.mk' (kindOf st') (arrOf st') (pendingOf st') g (failedOf st')):=by obtain⟨g',rfl⟩:=h;exact⟨g,rfl⟩
structure Two (O:KeyOrd) (rk:Keyed->O.α) (S:Keyed->Prop) (a b:Array Keyed):Prop where
 sa:∀ i,i < a.size->S (kyd a i)
 sb:∀ i,i < b.size->S (kyd b i)
 ua:Up rk a 0 a.size
 ub:Up rk b 0 b.size
 pa:0 < a.size
 pb:0 < b.size
 first:O.blt (rk (kyd b 0)) (rk (kyd a 0))=true
 last:∀ i,i < b.size->O.blt (rk (kyd b i)) (rk (kyd a (a.size - 1)))=true
theorem Two.galA (T:Two O rk S a b) {ia na:Nat}{key:Keyed} (hn:ia+na<=a.size):∀ i j,i<=j->j < na->bey O rk false key (kyd a (ia+j))=true->bey O rk false key (kyd a (ia+i))=true:=λi j hij hj h=>by
 simp only [bey,Bool.false_eq_true,if_false,Bool.not_eq_true'] at h ⊢
 exact KeyOrd.kle_trans (O:=O) (T.ua (ia+i) (ia+j) (Nat.zero_le _) (by lia) (by lia)) h
theorem Two.galB (T:Two O rk S a b) {ib nb:Nat}{key:Keyed} (hn:ib+nb<=b.size):∀ i j,i<=j->j < nb->bey O rk true key (kyd b (ib+j))=true->bey O rk true key (kyd b (ib+i))=true:=λi j hij hj h=>by
 simp only [bey,if_true] at h ⊢
 exact KeyOrd.klt_of_kle_of_klt (O:=O) (T.ub (ib+i) (ib+j) (Nat.zero_le _) (by lia) (by lia)) h
set_option maxHeartbeats 4000000 in
structure Hid (G:Prop):Prop where
 out:G
theorem shr {C:Prop} [Decidable C] {G P:Prop} (hp:C->Hid G->P) (hn:¬ C->Hid G->P) (g:G):P:=if h:C then hp h ⟨g⟩ else hn h ⟨g⟩
theorem xE (hC:Cm prog w A s κ O rk S) {Q:Array Keyed->SortSt->Prop} (hk:kindOf st=κ) (T:Two O rk S a b)
  (h:∀ r st',Gs st st'->r.toList=mrg O rk a.toList b.toList->Q r st'):wpS (model prog w) A E s (Bj a b) Q st:=by
 refine wpS_bind (eM ?_)
 refine wpS_bind (aY (aM T.pb) ?_)
 have I0:MI O rk a b #[kyd b 0] 0 1:=MI.start.b1 T.pb T.pa T.first
 dsimp -zeta only
 by_cases e1:1=b.size
 ·refine bb (by simpa using e1) ?_
  exact wpS_pure (h _ _ .refl (I0.doneB e1))
 refine aL (by simpa using e1) ?_
 by_cases e2:0+1=a.size
 ·refine bb (by simpa using e2) ?_
  exact wpS_pure (h _ _ .refl (I0.lastA e2 T.last))
 refine aL (by simpa using e2) ?_
 have pa:=T.pa
 have pb:=T.pb
 refine wpS_bind (wpS_get ?_)
 refine wpS_bind (wpS_mono (wpS_forRange (I:=λx c st'=>∃ out ia ib g,c=(none,out,ia,ib,g)/\MI O rk a b out ia ib/\ia+1 < a.size/\ib < b.size/\x+1<=ia+ib/\Gs st st')
  (Q:=λc st'=>∃ r c',c=(some r,c')/\r.toList=mrg O rk a.toList b.toList/\Gs st st') ?_ ?_ ?_) ?_)
 ·rintro x c st' _ hx ⟨out,ia,ib,g,rfl,I,ha,hb,hp,hG⟩
  have hk':kindOf st'=κ:=hG.kind.trans hk
  refine wpS_bind (wpS_mono (wpS_forRange (I:=λy c st2=>st2=st'/\∃ out ja jb ac bc,c=(none,out,ja,jb,ac,bc)/\MI O rk a b out ja jb/\ja+1 < a.size/\jb < b.size/\ia+ib+y<=ja+jb)
   (Q:=λc st2=>st2=st'/\((∃ r c',c=(some r,c')/\r.toList=mrg O rk a.toList b.toList)\/∃ out ja jb ac bc,c=(none,out,ja,jb,ac,bc)/\MI O rk a b out ja jb/\ja+1 < a.size/\jb < b.size/\ia+ib+1<=ja+jb)) ?_ ?_ ?_) ?_)
  ·rintro y c st2 _ hy ⟨rfl,out2,ja,jb,ac,bc,rfl,I2,ha2,hb2,hp2⟩
   dsimp only
   refine wpS_bind (aY (aM hb2) (wpS_bind (aY (aM (by lia)) (wpS_bind (oy hC hk' (T.sb _ hb2) (T.sa _ (by lia)) ?_)))))
   cases hl:O.blt (rk (kyd b jb)) (rk (kyd a ja)) with
   | true=>
    dsimp only
    refine bb rfl ?_
    refine wpS_bind (aY (aM hb2) ?_)
    have I3:=I2.b1 hb2 (by lia) hl
    by_cases e3:jb+1=b.size
    ·refine bb (by simpa using e3) ?_
     exact wpS_pure ⟨rfl,.inl ⟨_,_,rfl,I3.doneB e3⟩⟩
    ·refine aL (by simpa using e3) ?_
     split
     ·exact wpS_pure ⟨rfl,.inr ⟨_,_,_,_,_,rfl,I3,ha2,by lia,by lia⟩⟩
     ·exact wpS_pure ⟨rfl,_,_,_,_,_,rfl,I3,ha2,by lia,by lia⟩
   | false=>
    dsimp only
    refine aL (by simp) ?_
    refine wpS_bind (aY (aM (by lia)) ?_)
    have I3:=I2.a1 hb2 (by lia) hl
    by_cases e3:ja+1+1=a.size
    ·refine bb (by simpa using e3) ?_
     exact wpS_pure ⟨rfl,.inl ⟨_,_,rfl,I3.lastA e3 T.last⟩⟩
    ·refine aL (by simpa using e3) ?_
     split
     ·exact wpS_pure ⟨rfl,.inr ⟨_,_,_,_,_,rfl,I3,by lia,hb2,by lia⟩⟩
     ·exact wpS_pure ⟨rfl,_,_,_,_,_,rfl,I3,by lia,hb2,by lia⟩
  ·rintro c st2 ⟨rfl,out2,ja,jb,ac,bc,rfl,I2,ha2,hb2,hp2⟩
   exact⟨rfl,.inr ⟨_,_,_,_,_,rfl,I2,ha2,hb2,by lia⟩⟩
  ·exact⟨rfl,out,ia,ib,0,0,rfl,I,ha,hb,by lia⟩
  ·rintro c st2 ⟨rfl,⟨r,c',rfl,hr⟩ | ⟨out2,ja,jb,ac,bc,rfl,I2,ha2,hb2,hp2⟩⟩
   ·exact wpS_pure ⟨_,_,rfl,hr,hG⟩
   refine wpS_bind (eM ?_)
   refine wpS_bind (wpS_mono (wpS_forRange (I:=λy c st3=>Gs st st3/\∃ out ja jb g ac bc,c=(none,out,ja,jb,g,ac,bc)/\MI O rk a b out ja jb/\ja+1 < a.size/\jb < b.size/\ia+ib+1<=ja+jb)
    (Q:=λc st3=>Gs st st3/\((∃ r c',c=(some r,c')/\r.toList=mrg O rk a.toList b.toList)\/∃ out ja jb g ac bc,c=(none,out,ja,jb,g,ac,bc)/\MI O rk a b out ja jb/\ja+1 < a.size/\jb < b.size/\ia+ib+1<=ja+jb)) ?_ ?_ ?_) ?_)
   ·rintro y c st3 _ hy ⟨hG3,out3,ja,jb,g3,ac,bc,rfl,I3,ha3,hb3,hp3⟩
    dsimp -zeta only
    have gal1:∀ (g4:Nat) (Q':Option Nat->SortSt->Prop),(∀ k,k<=a.size - ja->(∀ i,i < k->bey O rk false (kyd b jb) (kyd a (ja+i))=true)->(∀ i,k<=i->i < a.size - ja->bey O rk false (kyd b jb) (kyd a (ja+i))=false)->Q' (some k) (SortSt.mk' (kindOf st3) (arrOf st3) (pendingOf st3) g4 (failedOf st3)))->
      wpS (model prog w) A E s (mP false (kyd b jb) a ja (a.size - ja) 0) Q' (SortSt.mk' (kindOf st3) (arrOf st3) (pendingOf st3) g4 (failedOf st3)):=λg4 Q' hq=>
     dn hC (hG3.kind.trans hk) (T.sb _ hb3) (by lia) (λi hi=>T.sa _ (by lia)) (by lia) (T.galA (by lia)) hq
    dsimp only
    apply shr (C:=g3 > 1)
    case hp=>
     intro hg1 tail
     refine bb hg1 ?_
     generalize g3 - 1=g4
     revert g4
     exact tail.out
    case hn=>
     intro hg1 tail
     refine aL hg1 ?_
     exact tail.out g3
    case g=>
     intro g4
     refine wpS_bind (wpS_modify ?_)
     refine wpS_bind (aY (aM hb3) (wpS_bind (gal1 _ _ λk hk1 hk2 hk3=>?_)))
     have I4:=I3.as hb3 k (by lia) hk2
     clear gal1 hk2
     dsimp only
     apply shr (C:=k > 0)
     case hp=>
      intro hk0 tail
      refine bb hk0 ?_
      by_cases e3:ja+k+1=a.size
      ·refine bb (by simpa using e3) ?_
       exact wpS_pure ⟨hG3.set _,.inl ⟨_,_,rfl,I4.lastA e3 T.last⟩⟩
      refine aL (by simpa using e3) ?_
      by_cases e4:ja+k=a.size
      ·refine bb (by simpa using e4) ?_
       exact wpS_pure ⟨hG3.set _,.inl ⟨_,_,rfl,I4.doneA e4⟩⟩
      refine aL (by simpa using e4) ?_
      have hb5:O.blt (rk (kyd b jb)) (rk (kyd a (ja+k)))=true:=by simpa [bey] using hk3 k (Nat.le_refl _) (by lia)
      have z:MI O rk a b (out3++a.extract ja (ja+k)) (ja+k) jb/\O.blt (rk (kyd b jb)) (rk (kyd a (ja+k)))=true/\ja+k+1 < a.size/\ia+ib+1<=ja+k+jb:=⟨I4,hb5,by lia,by lia⟩
      generalize out3++a.extract ja (ja+k)=out5 at z ⊢
      generalize ja+k=ja5 at z ⊢
      generalize k=ac5
      revert z
      revert ac5 out5 ja5
      exact tail.out
     case hn=>
      intro hk0 tail
      refine aL hk0 ?_
      have hb5:O.blt (rk (kyd b jb)) (rk (kyd a ja))=true:=by simpa [bey] using hk3 0 (by lia) (by lia)
      exact tail.out _ _ _ ⟨I3,hb5,ha3,hp3⟩
     case g=>
      clear I4 hk3 hk1 I3
      intro out5 ja5 ac5 z
      obtain⟨I4,hb5,ha5,hp5⟩:=z
      refine wpS_bind (aY (aM hb3) ?_)
      have I5:=I4.b1 hb3 (by lia) hb5
      by_cases e5:jb+1=b.size
      ·refine bb (by simpa using e5) ?_
       exact wpS_pure ⟨hG3.set _,.inl ⟨_,_,rfl,I5.doneB e5⟩⟩
      refine aL (by simpa using e5) ?_
      refine wpS_bind (aY (aM (by lia)) (wpS_bind (dn hC (hG3.kind.trans hk) (T.sa _ (by lia)) (by lia) (λi hi=>T.sb _ (by lia)) (by lia) (T.galB (by lia)) λk2 hk1 hk2 hk3=>?_)))
      have I6:=I5.bs (by lia) k2 (by lia) hk2
      clear hk2
      dsimp only
      apply shr (C:=k2 > 0)
      case hp=>
       intro hk20 tail
       refine bb hk20 ?_
       by_cases e6:jb+1+k2=b.size
       ·refine bb (by simpa using e6) ?_
        exact wpS_pure ⟨hG3.set _,.inl ⟨_,_,rfl,I6.doneB e6⟩⟩
       refine aL (by simpa using e6) ?_
       have hb7:O.blt (rk (kyd b (jb+1+k2))) (rk (kyd a ja5))=false:=by simpa [bey] using hk3 k2 (Nat.le_refl _) (by lia)
       have z:MI O rk a b (out5.push (kyd b jb)++b.extract (jb+1) (jb+1+k2)) ja5 (jb+1+k2)/\O.blt (rk (kyd b (jb+1+k2))) (rk (kyd a ja5))=false/\jb+1+k2 < b.size/\ia+ib+1<=ja5+1+(jb+1+k2):=⟨I6,hb7,by lia,by lia⟩
       generalize out5.push (kyd b jb)++b.extract (jb+1) (jb+1+k2)=out7 at z ⊢
       generalize jb+1+k2=jb7 at z ⊢
       generalize k2=bc7
       revert z
       revert bc7 out7 jb7
       exact tail.out
      case hn=>
       intro hk20 tail
       refine aL hk20 ?_
       have hb7:O.blt (rk (kyd b (jb+1))) (rk (kyd a ja5))=false:=by simpa [bey] using hk3 0 (by lia) (by lia)
       exact tail.out _ _ _ ⟨I5,hb7,by lia,by lia⟩
      case g=>
       clear I6 hk3 hk1 I5 I4
       intro out7 jb7 bc7 z
       obtain⟨I6,hb7,hj7,hp7⟩:=z
       refine wpS_bind (aY (aM (by lia)) ?_)
       have I7:=I6.a1 hj7 (by lia) hb7
       by_cases e7:ja5+1+1=a.size
       ·refine bb (by simpa using e7) ?_
        exact wpS_pure ⟨hG3.set _,.inl ⟨_,_,rfl,I7.lastA e7 T.last⟩⟩
       refine aL (by simpa using e7) ?_
       split
       ·exact wpS_pure ⟨hG3.set _,.inr ⟨_,_,_,_,_,_,rfl,I7,by lia,hj7,hp7⟩⟩
       ·exact wpS_pure ⟨hG3.set _,_,_,_,_,_,_,rfl,I7,by lia,hj7,hp7⟩
   ·rintro c st3 ⟨hG3,out3,ja,jb,g3,ac,bc,rfl,I3,ha3,hb3,hp3⟩
    exact⟨hG3,.inr ⟨_,_,_,_,_,_,rfl,I3,ha3,hb3,hp3⟩⟩
   ·exact⟨hG,_,_,_,_,_,_,rfl,I2,ha2,hb2,hp2⟩
   ·rintro c st3 ⟨hG3,⟨r,c',rfl,hr⟩ | ⟨out3,ja,jb,g3,ac,bc,rfl,I3,ha3,hb3,hp3⟩⟩
    ·exact wpS_pure ⟨_,_,rfl,hr,hG3⟩
    ·refine wpS_bind (wpS_modify (wpS_pure ⟨out3,ja,jb,_,rfl,I3,ha3,hb3,by lia,hG3.set _⟩))
 ·rintro c st' ⟨out,ia,ib,g,rfl,I,ha,hb,hp,hG⟩
  exfalso;lia
 ·exact⟨_,_,_,_,rfl,I0,by lia,by lia,by lia,.refl⟩
 ·rintro c st' ⟨r,c',rfl,hr,hG⟩
  exact wpS_pure (h r st' hG hr)
end
end L2
namespace L2
open PySem PySem.Spec PyProof.Rows
section
variable {prog:Program}{w:World}{A:Around}{E:Value->Shared->Prop}{s:Shared}{κ:SortKind}{O:KeyOrd}{rk:Keyed->O.α}{S:Keyed->Prop}{st:SortSt}{a b out:Array Keyed}{na nb:Nat}
theorem fk {a:Array Keyed}{n:Nat}:(a.extract 0 n).toList=a.toList.take n:=by
 rw [Array.toList_extract,List.extract_eq_take_drop];simp
theorem MH.doneA (h:MH O rk a b out na nb) (e:na=0):(a.extract 0 na++b.extract 0 nb++out.reverse).toList=mrg O rk a.toList b.toList:=by
 unfold MH at h
 subst e
 rw [Array.toList_append,Array.toList_append,fk,fk,Array.toList_reverse,<-h,List.take_zero,ge,List.nil_append]
theorem MH.doneB (h:MH O rk a b out na nb) (e:nb=0):(a.extract 0 na++b.extract 0 nb++out.reverse).toList=mrg O rk a.toList b.toList:=by
 unfold MH at h
 subst e
 rw [Array.toList_append,Array.toList_append,fk,fk,Array.toList_reverse,<-h,List.take_zero,eO,List.append_nil]
theorem MH.firstB (T:Two O rk S a b) (h:MH O rk a b out na nb) (ha:0 < na) (e:nb=1):(b.extract 0 nb++a.extract 0 na++out.reverse).toList=mrg O rk a.toList b.toList:=by
 unfold MH at h
 subst e
 have e1:b.toList.take 1=[kyd b 0]:=by rw [kQ T.pb];simp
 have e2:a.toList.take na=kyd a 0::(a.toList.drop 1).take (na - 1):=by
  obtain⟨m,rfl⟩:∃ m,na=m+1:=⟨na - 1,by lia⟩
  have:=cZ T.pa
  rw [List.drop_zero] at this
  rw [this];simp
 rw [Array.toList_append,Array.toList_append,fk,fk,Array.toList_reverse,<-h,e1,e2,ku T.first,eO]
 rfl
theorem Two.belowB (T:Two O rk S a b) {i j:Nat}{x:Keyed} (hij:i<=j) (hj:j < b.size) (h:O.blt (rk (kyd b j)) (rk x)=true):O.blt (rk (kyd b i)) (rk x)=true:=
 KeyOrd.klt_of_kle_of_klt (O:=O) (T.ub i j (Nat.zero_le _) hij (by lia)) h
theorem Two.belowA (T:Two O rk S a b) {i j:Nat}{x:Keyed} (hij:i<=j) (hj:j < a.size) (h:O.blt (rk x) (rk (kyd a j))=false):O.blt (rk x) (rk (kyd a i))=false:=
 KeyOrd.kle_trans (O:=O) (T.ua i j (Nat.zero_le _) hij (by lia)) h
theorem oP {a:Array Keyed}{t k:Nat} (h:t+k < a.size):out++(a.extract t (t+(k+1))).reverse=(out.push (kyd a (t+k)))++(a.extract t (t+k)).reverse:=by
 apply Array.toList_inj.mp
 have e:=kM (out:=#[]) (a:=a) (i:=t) (k:=k) h
 have e':a.extract t (t+(k+1))=(a.extract t (t+k)).push (kyd a (t+k)):=by
  have z:∀ x:Array Keyed,#[]++x=x:=λx=>by simp
  rw [z,z] at e;exact e
 rw [e'];simp
theorem MH.as (T:Two O rk S a b) {t:Nat} (hb:∀ i,i < nb->i < b.size->∀ j,t<=j->j < a.size->O.blt (rk (kyd b i)) (rk (kyd a j))=true):∀ (k:Nat) {out:Array Keyed},MH O rk a b out (t+k) nb->t+k<=a.size->MH O rk a b (out++(a.extract t (t+k)).reverse) t nb
 | 0,out,h,_=>by
  have:out++(a.extract t (t+0)).reverse=out:=by apply Array.toList_inj.mp;simp
  rw [this];exact h
 | k+1,out,h,hz=>by
  rw [oP (by lia)]
  exact MH.as T hb k (MH.a1 (na:=t+k) h (by lia) λi h1 h2=>hb i h1 h2 (t+k) (by lia) (by lia)) (by lia)
theorem MH.bs (T:Two O rk S a b) {t:Nat} (hb:∀ i,i < na->i < a.size->∀ j,t<=j->j < b.size->O.blt (rk (kyd b j)) (rk (kyd a i))=false):∀ (k:Nat) {out:Array Keyed},MH O rk a b out na (t+k)->t+k<=b.size->MH O rk a b (out++(b.extract t (t+k)).reverse) na t
 | 0,out,h,_=>by
  have:out++(b.extract t (t+0)).reverse=out:=by apply Array.toList_inj.mp;simp
  rw [this];exact h
 | k+1,out,h,hz=>by
  rw [oP (by lia)]
  exact MH.bs T hb k (MH.b1 (nb:=t+k) h (by lia) λi h1 h2=>hb i h1 h2 (t+k) (by lia) (by lia)) (by lia)
theorem MH.a1' (T:Two O rk S a b) (h:MH O rk a b out na nb) (ha:0 < na) (hz:na<=a.size) (hb:0 < nb) (hz2:nb<=b.size) (hl:O.blt (rk (kyd b (nb - 1))) (rk (kyd a (na - 1)))=true):MH O rk a b (out.push (kyd a (na - 1))) (na - 1) nb:=
 MH.a1 (by rw [show na - 1+1=na by lia];exact h) (by lia) λi h1 h2=>T.belowB (by lia) (by lia) hl
theorem MH.b1' (T:Two O rk S a b) (h:MH O rk a b out na nb) (ha:0 < na) (hz:na<=a.size) (hb:0 < nb) (hz2:nb<=b.size) (hl:O.blt (rk (kyd b (nb - 1))) (rk (kyd a (na - 1)))=false):MH O rk a b (out.push (kyd b (nb - 1))) na (nb - 1):=
 MH.b1 (by rw [show nb - 1+1=nb by lia];exact h) (by lia) λi h1 h2=>T.belowA (by lia) (by lia) hl
theorem MH.as' (T:Two O rk S a b) {t:Nat} (h:MH O rk a b out na nb) (ht:t<=na) (hz:na<=a.size) (hb:0 < nb) (hz2:nb<=b.size) (hq:∀ i,t<=i->i < na->bey O rk false (kyd b (nb - 1)) (kyd a (0+i))=false):MH O rk a b (out++(a.extract t na).reverse) t nb:=by
 by_cases e:t=na
 ·subst e
  have:out++(a.extract t t).reverse=out:=by apply Array.toList_inj.mp;simp
  rw [this];exact h
 have e2:t+(na - t)=na:=by lia
 have:=MH.as T (t:=t) (nb:=nb) (a:=a) (b:=b) (λi h1 h2 j h3 h4=>?_) (na - t) (out:=out) (by rw [e2];exact h) (by lia)
 ·rw [e2] at this;exact this
 ·have q:=hq t (Nat.le_refl _) (by lia)
  simp only [bey,Bool.false_eq_true,if_false,Bool.not_eq_false',Nat.zero_add] at q
  exact T.belowB (j:=nb - 1) (by lia) (by lia) (KeyOrd.klt_of_klt_of_kle (O:=O) q (T.ua t j (Nat.zero_le _) h3 (by lia)))
theorem MH.bs' (T:Two O rk S a b) {t:Nat} (h:MH O rk a b out na nb) (ht:t<=nb) (hz:nb<=b.size) (ha:0 < na) (hz2:na<=a.size) (hq:∀ i,t<=i->i < nb->bey O rk true (kyd a (na - 1)) (kyd b (0+i))=false):MH O rk a b (out++(b.extract t nb).reverse) na t:=by
 by_cases e:t=nb
 ·subst e
  have:out++(b.extract t t).reverse=out:=by apply Array.toList_inj.mp;simp
  rw [this];exact h
 have e2:t+(nb - t)=nb:=by lia
 have:=MH.bs T (t:=t) (na:=na) (a:=a) (b:=b) (λi h1 h2 j h3 h4=>?_) (nb - t) (out:=out) (by rw [e2];exact h) (by lia)
 ·rw [e2] at this;exact this
 ·have q:=hq t (Nat.le_refl _) (by lia)
  simp only [bey,if_true,Nat.zero_add] at q
  exact T.belowA (j:=na - 1) (by lia) (by lia) (KeyOrd.kle_trans (O:=O) q (T.ub t j (Nat.zero_le _) h3 (by lia)))
set_option maxHeartbeats 4000000 in
theorem xM (hC:Cm prog w A s κ O rk S) {Q:Array Keyed->SortSt->Prop} (hk:kindOf st=κ) (T:Two O rk S a b)
  (h:∀ r st',Gs st st'->r.toList=mrg O rk a.toList b.toList->Q r st'):wpS (model prog w) A E s (Aw a b) Q st:=by
 have pa:=T.pa
 have pb:=T.pb
 refine wpS_bind (eM ?_)
 refine wpS_bind (aY (aM (by lia)) ?_)
 have I0:MH O rk a b #[kyd a (a.size - 1)] (a.size - 1) b.size:=by
  have e:a.size - 1+1=a.size:=by lia
  exact MH.a1 (out:=#[]) (by rw [e];exact MH.start) (by lia) λi h1 h2=>T.last i h2
 dsimp -zeta only
 by_cases e1:a.size - 1=0
 ·refine bb (by simpa using e1) ?_
  exact wpS_pure (h _ _ .refl (I0.doneA e1))
 refine aL (by simpa using e1) ?_
 by_cases e2:b.size=1
 ·refine bb (by simpa using e2) ?_
  exact wpS_pure (h _ _ .refl (I0.firstB T (by lia) e2))
 refine aL (by simpa using e2) ?_
 refine wpS_bind (wpS_get ?_)
 refine wpS_bind (wpS_mono (wpS_forRange (I:=λx c st'=>∃ out na nb g,c=(none,na,nb,out,g)/\MH O rk a b out na nb/\0 < na/\1 < nb/\na<=a.size/\nb<=b.size/\na+nb+x+1<=a.size+b.size/\Gs st st')
  (Q:=λc st'=>∃ r c',c=(some r,c')/\r.toList=mrg O rk a.toList b.toList/\Gs st st') ?_ ?_ ?_) ?_)
 ·rintro x c st' _ hx ⟨out,na,nb,g,rfl,I,ha,hb,hza,hzb,hp,hG⟩
  have hk':kindOf st'=κ:=hG.kind.trans hk
  refine wpS_bind (wpS_mono (wpS_forRange (I:=λy c st2=>st2=st'/\∃ out ma mb ac bc,c=(none,ma,mb,out,ac,bc)/\MH O rk a b out ma mb/\0 < ma/\1 < mb/\ma<=a.size/\mb<=b.size/\ma+mb+y<=na+nb)
   (Q:=λc st2=>st2=st'/\((∃ r c',c=(some r,c')/\r.toList=mrg O rk a.toList b.toList)\/∃ out ma mb ac bc,c=(none,ma,mb,out,ac,bc)/\MH O rk a b out ma mb/\0 < ma/\1 < mb/\ma<=a.size/\mb<=b.size/\ma+mb+1<=na+nb)) ?_ ?_ ?_) ?_)
  ·rintro y c st2 _ hy ⟨rfl,out2,ma,mb,ac,bc,rfl,I2,ha2,hb2,za2,zb2,hp2⟩
   dsimp only
   refine wpS_bind (aY (aM (by lia)) (wpS_bind (aY (aM (by lia)) (wpS_bind (oy hC hk' (T.sb _ (by lia)) (T.sa _ (by lia)) ?_)))))
   cases hl:O.blt (rk (kyd b (mb - 1))) (rk (kyd a (ma - 1))) with
   | true=>
    dsimp only
    refine bb rfl ?_
    refine wpS_bind (aY (aM (by lia)) ?_)
    have I3:=I2.a1' T ha2 za2 (by lia) zb2 hl
    by_cases e3:ma - 1=0
    ·refine bb (by simpa using e3) ?_
     exact wpS_pure ⟨rfl,.inl ⟨_,_,rfl,I3.doneA e3⟩⟩
    ·refine aL (by simpa using e3) ?_
     split
     ·exact wpS_pure ⟨rfl,.inr ⟨_,_,_,_,_,rfl,I3,by lia,hb2,by lia,zb2,by lia⟩⟩
     ·exact wpS_pure ⟨rfl,_,_,_,_,_,rfl,I3,by lia,hb2,by lia,zb2,by lia⟩
   | false=>
    dsimp only
    refine aL (by simp) ?_
    refine wpS_bind (aY (aM (by lia)) ?_)
    have I3:=I2.b1' T ha2 za2 (by lia) zb2 hl
    by_cases e3:mb - 1=1
    ·refine bb (by simpa using e3) ?_
     exact wpS_pure ⟨rfl,.inl ⟨_,_,rfl,I3.firstB T ha2 e3⟩⟩
    ·refine aL (by simpa using e3) ?_
     split
     ·exact wpS_pure ⟨rfl,.inr ⟨_,_,_,_,_,rfl,I3,ha2,by lia,za2,by lia,by lia⟩⟩
     ·exact wpS_pure ⟨rfl,_,_,_,_,_,rfl,I3,ha2,by lia,za2,by lia,by lia⟩
  ·rintro c st2 ⟨rfl,out2,ma,mb,ac,bc,rfl,I2,ha2,hb2,za2,zb2,hp2⟩
   exact⟨rfl,.inr ⟨_,_,_,_,_,rfl,I2,ha2,hb2,za2,zb2,by lia⟩⟩
  ·exact⟨rfl,out,na,nb,0,0,rfl,I,ha,hb,hza,hzb,by lia⟩
  ·rintro c st2 ⟨rfl,⟨r,c',rfl,hr⟩ | ⟨out2,ma,mb,ac,bc,rfl,I2,ha2,hb2,za2,zb2,hp2⟩⟩
   ·exact wpS_pure ⟨_,_,rfl,hr,hG⟩
   refine wpS_bind (eM ?_)
   refine wpS_bind (wpS_mono (wpS_forRange (I:=λy c st3=>Gs st st3/\∃ out ma mb g ac bc,c=(none,ma,mb,out,g,ac,bc)/\MH O rk a b out ma mb/\0 < ma/\1 < mb/\ma<=a.size/\mb<=b.size/\ma+mb+1<=na+nb)
    (Q:=λc st3=>Gs st st3/\((∃ r c',c=(some r,c')/\r.toList=mrg O rk a.toList b.toList)\/∃ out ma mb g ac bc,c=(none,ma,mb,out,g,ac,bc)/\MH O rk a b out ma mb/\0 < ma/\1 < mb/\ma<=a.size/\mb<=b.size/\ma+mb+1<=na+nb)) ?_ ?_ ?_) ?_)
   ·rintro y c st3 _ hy ⟨hG3,out3,ma,mb,g3,ac,bc,rfl,I3,ha3,hb3,za3,zb3,hp3⟩
    have gal1:∀ (g4:Nat) (Q':Option Nat->SortSt->Prop),(∀ k,k<=ma->(∀ i,i < k->bey O rk false (kyd b (mb - 1)) (kyd a (0+i))=true)->(∀ i,k<=i->i < ma->bey O rk false (kyd b (mb - 1)) (kyd a (0+i))=false)->Q' (some k) (SortSt.mk' (kindOf st3) (arrOf st3) (pendingOf st3) g4 (failedOf st3)))->
      wpS (model prog w) A E s (mP false (kyd b (mb - 1)) a 0 ma (ma - 1)) Q' (SortSt.mk' (kindOf st3) (arrOf st3) (pendingOf st3) g4 (failedOf st3)):=λg4 Q' hq=>
     dn hC (hG3.kind.trans hk) (T.sb _ (by lia)) (by lia) (λi hi=>T.sa _ (by lia)) (by lia) (T.galA (by lia)) hq
    dsimp only
    apply shr (C:=g3 > 1)
    case hp=>
     intro hg1 tail
     refine bb hg1 ?_
     generalize g3 - 1=g4
     revert g4
     exact tail.out
    case hn=>
     intro hg1 tail
     refine aL hg1 ?_
     exact tail.out g3
    case g=>
     intro g4
     refine wpS_bind (wpS_modify ?_)
     refine wpS_bind (aY (aM (by lia)) (wpS_bind (gal1 _ _ λt hk1 hk2 hk3=>?_)))
     have I4:=I3.as' T hk1 za3 (by lia) zb3 hk3
     have hb5:∀ i,i < t->O.blt (rk (kyd b (mb - 1))) (rk (kyd a i))=false:=λi hi=>by simpa [bey] using hk2 i hi
     clear hk2 hk3 gal1
     dsimp only
     apply shr (C:=ma - t > 0)
     case hp=>
      intro hk0 tail
      refine bb hk0 ?_
      by_cases e3:t=0
      ·refine bb (by simpa using e3) ?_
       exact wpS_pure ⟨hG3.set _,.inl ⟨_,_,rfl,I4.doneA e3⟩⟩
      refine aL (by simpa using e3) ?_
      have ha5:0 < t:=by lia
      have za5:t<=a.size:=by lia
      have hp5:t+mb+1<=na+nb:=by lia
      have J4:=I4
      have jb5:=hb5
      generalize out3++(a.extract t ma).reverse=out5 at J4 ⊢
      generalize ma - t=ac5
      generalize t=t5 at jb5 J4 ha5 za5 hp5 ⊢
      revert jb5 J4 ha5 za5 hp5
      revert ac5 out5 t5
      exact tail.out
     case hn=>
      intro hk0 tail
      refine aL hk0 ?_
      have e0:t=ma:=by lia
      subst e0
      have e9:out3++(a.extract t t).reverse=out3:=by apply Array.toList_inj.mp;simp
      rw [e9] at I4
      exact tail.out _ _ t hb5 I4 ha3 za3 hp3
     case g=>
      clear I4 hb5 hk1
      intro out5 ac5 t hb5 I4 ha5 za5 hp5
      refine wpS_bind (aY (aM (by lia)) ?_)
      have I5:=I4.b1' T ha5 za5 (by lia) zb3 (hb5 _ (by lia))
      by_cases e5:mb - 1=1
      ·refine bb (by simpa using e5) ?_
       exact wpS_pure ⟨hG3.set _,.inl ⟨_,_,rfl,I5.firstB T ha5 e5⟩⟩
      refine aL (by simpa using e5) ?_
      refine wpS_bind (aY (aM (by lia)) (wpS_bind (dn hC (hG3.kind.trans hk) (T.sa _ (by lia)) (by lia) (λi hi=>T.sb _ (by lia)) (by lia) (T.galB (by lia)) λu hk1 hk2 hk3=>?_)))
      have I6:=I5.bs' T hk1 (by lia) ha5 za5 hk3
      have hb7:∀ i,i < u->O.blt (rk (kyd b i)) (rk (kyd a (t - 1)))=true:=λi hi=>by simpa [bey] using hk2 i hi
      clear hk2 hk3
      dsimp only
      apply shr (C:=mb - 1 - u > 0)
      case hp=>
       intro hk20 tail
       refine bb hk20 ?_
       by_cases e6:u=1
       ·refine bb (by simpa using e6) ?_
        exact wpS_pure ⟨hG3.set _,.inl ⟨_,_,rfl,I6.firstB T ha5 e6⟩⟩
       refine aL (by simpa using e6) ?_
       by_cases e7:u=0
       ·refine bb (by simpa using e7) ?_
        exact wpS_pure ⟨hG3.set _,.inl ⟨_,_,rfl,I6.doneB e7⟩⟩
       refine aL (by simpa using e7) ?_
       have hj7:1 < u:=by lia
       have zj7:u<=b.size:=by lia
       have hp7:t+u+1<=na+nb:=by lia
       have J6:=I6
       have jb7:=hb7
       generalize out5.push (kyd b (mb - 1))++(b.extract u (mb - 1)).reverse=out7 at J6 ⊢
       generalize mb - 1 - u=bc7
       generalize u=u7 at jb7 J6 hj7 zj7 hp7 ⊢
       revert jb7 J6 hj7 zj7 hp7
       revert bc7 out7 u7
       exact tail.out
      case hn=>
       intro hk20 tail
       refine aL hk20 ?_
       have e0:u=mb - 1:=by lia
       subst e0
       have e9:out5.push (kyd b (mb - 1))++(b.extract (mb - 1) (mb - 1)).reverse=out5.push (kyd b (mb - 1)):=by apply Array.toList_inj.mp;simp
       rw [e9] at I6
       exact tail.out _ _ (mb - 1) hb7 I6 (by lia) (by lia) (by lia)
      case g=>
       clear I6 hb7 hk1
       intro out7 bc7 u hb7 I6 hj7 zj7 hp7
       refine wpS_bind (aY (aM (by lia)) ?_)
       have I7:=I6.a1' T ha5 za5 (by lia) zj7 (hb7 _ (by lia))
       by_cases e7:t - 1=0
       ·refine bb (by simpa using e7) ?_
        exact wpS_pure ⟨hG3.set _,.inl ⟨_,_,rfl,I7.doneA e7⟩⟩
       refine aL (by simpa using e7) ?_
       split
       ·exact wpS_pure ⟨hG3.set _,.inr ⟨_,_,_,_,_,_,rfl,I7,by lia,hj7,by lia,zj7,by lia⟩⟩
       ·exact wpS_pure ⟨hG3.set _,_,_,_,_,_,_,rfl,I7,by lia,hj7,by lia,zj7,by lia⟩
   ·rintro c st3 ⟨hG3,out3,ja,jb,g3,ac,bc,rfl,I3,ha3,hb3,za3,zb3,hp3⟩
    exact⟨hG3,.inr ⟨_,_,_,_,_,_,rfl,I3,ha3,hb3,za3,zb3,hp3⟩⟩
   ·exact⟨hG,_,_,_,_,_,_,rfl,I2,ha2,hb2,za2,zb2,hp2⟩
   ·rintro c st3 ⟨hG3,⟨r,c',rfl,hr⟩ | ⟨out3,ja,jb,g3,ac,bc,rfl,I3,ha3,hb3,za3,zb3,hp3⟩⟩
    ·exact wpS_pure ⟨_,_,rfl,hr,hG3⟩
    ·refine wpS_bind (wpS_modify (wpS_pure ⟨out3,ja,jb,_,rfl,I3,ha3,hb3,za3,zb3,by lia,hG3.set _⟩))
 ·rintro c st' ⟨out,ia,ib,g,rfl,I,ha,hb,hza,hzb,hp,hG⟩
  exfalso;lia
 ·exact⟨_,_,_,_,rfl,I0,by lia,by lia,by lia,by lia,by lia,.refl⟩
 ·rintro c st' ⟨r,c',rfl,hr,hG⟩
  exact wpS_pure (h r st' hG hr)
end
end L2
namespace L2
open PySem PySem.Spec PyProof.Rows
section
variable {prog:Program}{w:World}{A:Around}{E:Value->Shared->Prop}{s:Shared}{κ:SortKind}{O:KeyOrd}{rk:Keyed->O.α}{S:Keyed->Prop}{st:SortSt}{arr:Array Keyed}{n1 n2:Nat}
theorem rc (sa:Nat):∀ (l:List Keyed) (n:Nat) (arr:Array Keyed),sa+n+l.length<=arr.size->
  ((l.zipIdx n).foldl (λ(a:Array Keyed) x=>match x with | (p,j)=>a.setIfInBounds (sa+j) p) arr).toList=arr.toList.take (sa+n)++l++arr.toList.drop (sa+n+l.length)
 | [],n,arr,h=>by simp
 | p::l,n,arr,h=>by
  rw [List.zipIdx_cons,List.foldl_cons,rc sa l (n+1) _ (by simp only [List.length_cons] at h;simp;lia)]
  have hn:sa+n < arr.toList.length:=by simp only [List.length_cons] at h;simp;lia
  rw [Array.toList_setIfInBounds,<-Nat.add_assoc,List.take_succ_eq_append_getElem (by rw [List.length_set];exact hn),List.getElem_set_self,List.take_set_of_le (Nat.le_refl _),List.drop_set_of_lt (by lia),List.length_cons]
  simp [Nat.add_assoc,Nat.add_comm 1]
theorem dl {a:Array Keyed}{i j k:Nat} (h:k < j - i) (hj:j<=a.size):kyd (a.extract i j) k=kyd a (i+k):=by
 apply cu
 rw [Array.getElem?_extract_of_lt (by lia),Array.getElem?_eq_getElem (by lia)]
theorem mk {a:Array Keyed} (h:Up rk a 0 a.size):a.toList.Pairwise λx y=>O.kle (rk x) (rk y):=by
 rw [List.pairwise_iff_getElem]
 intro i j hi hj hij
 have hi':i < a.size:=by simpa using hi
 have hj':j < a.size:=by simpa using hj
 have q:=h i j (Nat.zero_le _) (by lia) (by lia)
 have e1:=aM hi'
 have e2:=aM hj'
 rw [Array.getElem?_eq_getElem hi'] at e1
 rw [Array.getElem?_eq_getElem hj'] at e2
 rw [<-Option.some.inj e1,<-Option.some.inj e2] at q
 simpa using q
theorem nJ {a:Array Keyed}{i j:Nat} (h:Up rk a i (j - i)) (hj:j<=a.size):Up rk (a.extract i j) 0 (a.extract i j).size:=by
 intro x y _ hxy hy
 have hs:(a.extract i j).size=j - i:=by simp;lia
 rw [dl (by lia) hj,dl (by lia) hj]
 exact h _ _ (by lia) (by lia) (by lia)
theorem jL {a:Array Keyed}{i j:Nat}{x:Keyed} (h:x ∈ (a.extract i j).toList) (hj:j<=a.size):∃ k,i<=k/\k < j/\x=kyd a k:=by
 obtain⟨k,hk,rfl⟩:=rQ h
 have hs:(a.extract i j).size=j - i:=by simp;lia
 exact⟨i+k,by lia,by lia,by rw [dl (by lia) hj]⟩
theorem zD {a:Array Keyed}{i j k:Nat} (h1:i<=j) (h2:j<=k) (h3:k<=a.size):a.toList=a.toList.take i++(a.extract i j).toList++(a.extract j k).toList++a.toList.drop k:=by
 have e1:(a.extract i j).toList=(a.toList.drop i).take (j - i):=by rw [Array.toList_extract,List.extract_eq_take_drop]
 have e2:(a.extract j k).toList=(a.toList.drop j).take (k - j):=by rw [Array.toList_extract,List.extract_eq_take_drop]
 rw [e1,e2]
 have c1:a.toList.take i++(a.toList.drop i).take (j - i)=a.toList.take j:=by
  rw [<-List.take_add,show i+(j - i)=j by lia]
 have c2:a.toList.take j++(a.toList.drop j).take (k - j)=a.toList.take k:=by
  rw [<-List.take_add,show j+(k - j)=k by lia]
 rw [c1,c2,List.take_append_drop]
set_option maxHeartbeats 2000000 in
theorem wv (hC:Cm prog w A s κ O rk S) {Q:Bool->SortSt->Prop}{p q:Nat} (hk:kindOf st=κ) (hf:failedOf st=none) (hp:pendingOf st=#[(0,n1,p),(n1,n2,q)]) (hS:∀ x ∈ (arrOf st).toList,S x) (hz:(arrOf st).size=n1+n2) (h1:0 < n1) (h2:0 < n2)
  (u1:Up rk (arrOf st) 0 n1) (u2:Up rk (arrOf st) n1 n2)
  (h:∀ st',(arrOf st').toList.Perm (arrOf st).toList->(arrOf st').toList.Pairwise (λx y=>O.kle (rk x) (rk y))->failedOf st'=none->pendingOf st'=#[(0,n1+n2,p)]->Q true st'):wpS (model prog w) A E s (yf 0) Q st:=by
 have hSi:∀ i,i < n1+n2->S (kyd (arrOf st) i):=λi hi=>by
  have hi':i < (arrOf st).size:=by lia
  refine hS _ ?_
  have e:=aM hi'
  rw [Array.getElem?_eq_getElem hi'] at e
  rw [<-Option.some.inj e];exact Array.getElem_mem_toList hi'
 refine wpS_bind (wpS_get ?_)
 have e1:(pendingOf st)[0]?=some (0,n1,p):=by rw [hp];rfl
 have e2:(pendingOf st)[0+1]?=some (n1,n2,q):=by rw [hp];rfl
 rw [e1,e2]
 refine wpS_bind ?_
 have hset:∀ (x:SortSt) (Q':PUnit->SortSt->Prop) (st0:SortSt),Q' ⟨⟩ x->wpS (model prog w) A E s (set x:StateT SortSt Sem PUnit) Q' st0:=λx Q' st0 hq=>by
  unfold wpS;exact wpAny_pure ⟨rfl,hq⟩
 refine hset _ _ _ ?_
 have e3:((pendingOf st).setIfInBounds 0 (0,n1+n2,p)).eraseIdxIfInBounds (0+1)=#[(0,n1+n2,p)]:=by
  rw [hp];apply Array.toList_inj.mp;simp [Array.eraseIdxIfInBounds]
 rw [e3]
 clear e1 e2 e3 hp
 delta arrOf kindOf failedOf gallopOf at *
 obtain⟨kd,arr,pn,gl,fl⟩:=st
 dsimp only at hk hf hS hz u1 u2 h hSi
 dsimp -zeta only
 have h:∀ st',(arrOf st').toList.Perm arr.toList->(arrOf st').toList.Pairwise (λx y=>O.kle (rk x) (rk y))->failedOf st'=none->pendingOf st'=#[(0,n1+n2,p)]->Q true st':=h
 have k2:kindOf (SortSt.mk' kd arr #[(0,n1+n2,p)] gl fl)=κ:=hk
 have a2:arrOf (SortSt.mk' kd arr #[(0,n1+n2,p)] gl fl)=arr:=rfl
 have f2:failedOf (SortSt.mk' kd arr #[(0,n1+n2,p)] gl fl)=none:=hf
 have p2:pendingOf (SortSt.mk' kd arr #[(0,n1+n2,p)] gl fl)=#[(0,n1+n2,p)]:=rfl
 have whole:O.kle (rk (kyd arr (n1 - 1))) (rk (kyd arr n1))->arr.toList.Pairwise λx y=>O.kle (rk x) (rk y):=λhm=>mk λi j _ hij hj=>by
  by_cases c1:j < n1
  ·exact u1 i j (Nat.zero_le _) hij (by lia)
  ·by_cases c2:n1<=i
   ·exact u2 i j c2 hij (by lia)
   ·exact KeyOrd.kle_trans (KeyOrd.kle_trans (u1 i (n1 - 1) (Nat.zero_le _) (by lia) (by lia)) hm) (u2 n1 j (Nat.le_refl _) (by lia) (by lia))
 have ok:arr.toList.Pairwise (λx y=>O.kle (rk x) (rk y))->Q true (SortSt.mk' kd arr #[(0,n1+n2,p)] gl fl):=λhw=>h (SortSt.mk' kd arr #[(0,n1+n2,p)] gl fl) (by rw [a2]) (by rw [a2];exact hw) f2 p2
 refine wpS_bind (aY (aM (by lia)) (wpS_bind (dn hC k2 (hSi _ (by lia)) (by lia) (λi hi=>hSi _ (by lia)) (by lia) (λi j hij hj hb=>?_) λk hk1 hk2 hk3=>?_)))
 ·simp only [bey,Bool.false_eq_true,if_false,Bool.not_eq_true'] at hb ⊢
  exact KeyOrd.kle_trans (O:=O) (u1 (0+i) (0+j) (Nat.zero_le _) (by lia) (by lia)) hb
 simp only [bey,Bool.false_eq_true,if_false,Bool.not_eq_true',Bool.not_eq_false',Nat.zero_add] at hk2 hk3
 dsimp only
 by_cases c1:n1 - k=0
 ·refine bb (by simpa using c1) ?_
  exact wpS_pure (ok (whole (hk2 (n1 - 1) (by lia))))
 refine aL (by simpa using c1) ?_
 rw [show 0+k+(n1 - k) - 1=n1 - 1 by lia,Nat.zero_add]
 refine wpS_bind (aY (aM (by lia)) (wpS_bind (dn hC k2 (hSi _ (by lia)) (by lia) (λi hi=>hSi _ (by lia)) (by lia) (λi j hij hj hb=>?_) λnb hb1 hb2 hb3=>?_)))
 ·simp only [bey,if_true] at hb ⊢
  exact KeyOrd.klt_of_kle_of_klt (O:=O) (u2 (n1+i) (n1+j) (by lia) (by lia) (by lia)) hb
 simp only [bey,if_true] at hb2 hb3
 dsimp only
 by_cases c2:nb=0
 ·refine bb (by simpa using c2) ?_
  exact wpS_pure (ok (whole (hb3 0 (by lia) (by lia))))
 refine aL (by simpa using c2) ?_
 have sx:(arr.extract k n1).size=n1 - k:=by simp;lia
 have sy:(arr.extract n1 (n1+nb)).size=nb:=by simp;lia
 have T:Two O rk S (arr.extract k n1) (arr.extract n1 (n1+nb)):=by
  refine⟨λi hi=>?_,λi hi=>?_,nJ (λi j a b c=>u1 i j (Nat.zero_le _) b (by lia)) (by lia),nJ (λi j a b c=>u2 i j a b (by lia)) (by lia),by lia,by lia,?_,λi hi=>?_⟩
  ·rw [dl (by lia) (by lia)];exact hSi _ (by lia)
  ·rw [dl (by lia) (by lia)];exact hSi _ (by lia)
  ·rw [dl (by lia) (by lia),dl (by lia) (by lia)];exact hk3 _ (by lia) (by lia)
  ·rw [dl (by lia) (by lia),dl (by lia) (by lia),sx,show k+(n1 - k - 1)=n1 - 1 by lia];exact hb2 i (by lia)
 have fin:∀ (r:Array Keyed) st',Gs (SortSt.mk' kd arr #[(0,n1+n2,p)] gl fl) st'->r.toList=mrg O rk (arr.extract k n1).toList (arr.extract n1 (n1+nb)).toList->
   Q true (SortSt.mk' (kindOf st') ((r.toList.zipIdx).foldl (λ(a:Array Keyed) x=>match x with | (p,j)=>a.setIfInBounds (k+j) p) (arrOf st')) (pendingOf st') (gallopOf st') (failedOf st')):=by
  rintro r st' ⟨g,rfl⟩ hr
  have hl:r.toList.length=n1 - k+nb:=by rw [hr,(kC _ _).length_eq,List.length_append,Array.length_toList,Array.length_toList,sx,sy]
  have e5:=rc k r.toList 0 arr (by lia)
  rw [Nat.add_zero,hl,show k+(n1 - k+nb)=n1+nb by lia,hr] at e5
  have e6:=zD (a:=arr) (i:=k) (j:=n1) (k:=n1+nb) (by lia) (by lia) (by lia)
  refine h _ ?_ ?_ f2 p2
  ·show (List.foldl _ (arrOf (SortSt.mk' kd arr #[(0,n1+n2,p)] gl fl)) _).toList.Perm _
   rw [a2,hr,e5]
   conv=>rhs;rw [e6]
   exact ((kC _ _).append_left _ |>.append_right _).trans (by rw [List.append_assoc,List.append_assoc,List.append_assoc,List.append_assoc])
  ·show (List.foldl _ (arrOf (SortSt.mk' kd arr #[(0,n1+n2,p)] gl fl)) _).toList.Pairwise _
   rw [a2,hr,e5]
   have m1:∀ x ∈ arr.toList.take k,∃ i,i < k/\x=kyd arr i:=λx hx=>by
    rw [<-fk] at hx
    obtain⟨i,_,hi,e⟩:=jL hx (by lia)
    exact⟨i,hi,e⟩
   have m2:∀ x ∈ arr.toList.drop (n1+nb),∃ i,n1+nb<=i/\i < arr.size/\x=kyd arr i:=λx hx=>by
    rw [<-dH] at hx
    obtain⟨i,h1,h2,e⟩:=jL hx (Nat.le_refl _)
    exact⟨i,h1,h2,e⟩
   have m3:∀ x ∈ mrg O rk (arr.extract k n1).toList (arr.extract n1 (n1+nb)).toList,∃ i,k<=i/\i < n1+nb/\x=kyd arr i:=λx hx=>by
    rcases List.mem_append.mp ((kC _ _).mem_iff.mp hx) with hx | hx
    ·obtain⟨i,h1,h2,e⟩:=jL hx (by lia);exact⟨i,h1,by lia,e⟩
    ·obtain⟨i,h1,h2,e⟩:=jL hx (by lia);exact⟨i,by lia,h2,e⟩
   have lowHi:∀ i j,i < k->n1<=j->j < n1+n2->O.kle (rk (kyd arr i)) (rk (kyd arr j)):=λi j hi h3 h4=>KeyOrd.kle_trans (hk2 i hi) (u2 n1 j (Nat.le_refl _) h3 h4)
   have hiHi:∀ i j,i < n1->n1+nb<=j->j < n1+n2->O.kle (rk (kyd arr i)) (rk (kyd arr j)):=λi j hi h3 h4=>by
    have:=hb3 (j - n1) (by lia) (by lia)
    rw [show n1+(j - n1)=j by lia] at this
    exact KeyOrd.kle_trans (u1 i (n1 - 1) (Nat.zero_le _) (by lia) (by lia)) this
   refine List.pairwise_append.mpr ⟨List.pairwise_append.mpr ⟨?_,Ab (mk T.ua) (mk T.ub),?_⟩,?_,?_⟩
   ·rw [<-fk]
    exact mk (nJ (λi j a b c=>u1 i j (Nat.zero_le _) b (by lia)) (by lia))
   ·intro x hx y hy
    obtain⟨i,hi,rfl⟩:=m1 x hx
    obtain⟨j,j1,j2,rfl⟩:=m3 y hy
    by_cases c:j < n1
    ·exact u1 i j (Nat.zero_le _) (by lia) (by lia)
    ·exact lowHi i j hi (by lia) (by lia)
   ·rw [<-dH]
    exact mk (nJ (λi j a b c=>u2 i j (by lia) b (by lia)) (Nat.le_refl _))
   ·intro x hx y hy
    obtain⟨j,j1,j2,rfl⟩:=m2 y hy
    have hx':∃ i,i < n1+nb/\x=kyd arr i:=by
     rcases List.mem_append.mp hx with hx | hx
     ·obtain⟨i,hi,e⟩:=m1 x hx;exact⟨i,by lia,e⟩
     ·obtain⟨i,_,hi,e⟩:=m3 x hx;exact⟨i,hi,e⟩
    obtain⟨i,hi,rfl⟩:=hx'
    by_cases c:i < n1
    ·exact hiHi i j c j1 (by lia)
    ·exact u2 i j (by lia) (by lia) (by lia)
 have isn:∀ st',Gs (SortSt.mk' kd arr #[(0,n1+n2,p)] gl fl) st'->failedOf st'=none:=by rintro st' ⟨g,rfl⟩;exact f2
 split
 ·refine wpS_bind (xE hC k2 T λr st' hG hr=>?_)
  refine wpS_bind (wpS_modify (wpS_bind (wpS_get (wpS_pure ?_))))
  have:=fin r st' hG hr
  have e:=isn st' hG
  have e':(failedOf st').isNone=true:=by rw [e];rfl
  rw [<-e'] at this
  exact this
 ·refine wpS_bind (xM hC k2 T λr st' hG hr=>?_)
  refine wpS_bind (wpS_modify (wpS_bind (wpS_get (wpS_pure ?_))))
  have:=fin r st' hG hr
  have e:=isn st' hG
  have e':(failedOf st').isNone=true:=by rw [e];rfl
  rw [<-e'] at this
  exact this
end
end L2
namespace L2
open PySem PySem.Spec PyProof.Rows
section
variable {prog:Program}{w:World}{A:Around}{E:Value->Shared->Prop}{s:Shared}{κ:SortKind}{O:KeyOrd}{rk:Keyed->O.α}{S:Keyed->Prop}{st:SortSt}{a0:Array Keyed}
structure zw (κ:SortKind) (O:KeyOrd) (rk:Keyed->O.α) (a0:Array Keyed) (n1:Nat) (st:SortSt):Prop where
 perm:(arrOf st).Perm a0
 kind:kindOf st=κ
 fail:failedOf st=none
 pend:pendingOf st=#[(0,n1,0)]
 up:Up rk (arrOf st) 0 n1
structure xU (κ:SortKind) (O:KeyOrd) (rk:Keyed->O.α) (a0:Array Keyed) (st:SortSt):Prop where
 perm:(arrOf st).Perm a0
 kind:kindOf st=κ
 fail:failedOf st=none
 ex:∃ n1 n2 p,0 < n1/\0 < n2/\n1+n2=a0.size/\pendingOf st=#[(0,n1,p),(n1,n2,0)]/\Up rk (arrOf st) 0 n1/\Up rk (arrOf st) n1 n2
theorem A3 {n:Nat} (h2:2<=n) (h64:n<=64):(n < 64/\minRun' n n 0=n)\/n=64/\minRun' n n 0=32:=by
 by_cases h:n=64
 ·subst h;exact .inr ⟨rfl,rfl⟩
 ·obtain⟨f,rfl⟩:∃ f,n=f+1:=⟨n - 1,by lia⟩
  exact .inl ⟨by lia,by rw [minRun'_succ,if_pos (by lia)]⟩
set_option maxHeartbeats 2000000 in
theorem xx (hC:Cm prog w A s κ O rk S) {Q:Unit->SortSt->Prop} (hk:kindOf st=κ) (hf:failedOf st=none) (hp:pendingOf st=#[]) (ha:arrOf st=a0) (hS:∀ x ∈ a0.toList,S x) (h2:2<=a0.size) (h64:a0.size<=64)
  (h:∀ st',(arrOf st').toList.Perm a0.toList->(arrOf st').toList.Pairwise (λx y=>O.kle (rk x) (rk y))->failedOf st'=none->Q () st'):wpS (model prog w) A E s sortRuns' Q st:=by
 obtain⟨mr,hm0,hmr⟩:∃ mr,(sortPriv% PySem.Builtin.minRun) a0.size a0.size 0=mr/\((a0.size < 64/\mr=a0.size)\/a0.size=64/\mr=32):=⟨_,rfl,A3 h2 h64⟩
 refine wpS_bind (wpS_get ?_)
 have hz:(arrOf st).size=a0.size:=by rw [ha]
 dsimp only
 rw [hz,hm0]
 refine wpS_bind (wpS_mono (wpS_forRange (I:=λx c st'=>(x=0/\c=(none,0)/\SB κ a0 0 #[] (gallopOf st) st')\/(∃ n1,c=(none,n1)/\zw κ O rk a0 n1 st'/\1<=x/\(n1=a0.size\/x=1/\32<=n1/\n1 < 64/\a0.size=64))\/(c=(none,a0.size)/\xU κ O rk a0 st'/\1<=x))
  (Q:=λc st'=>c.1=none/\(zw κ O rk a0 a0.size st'\/xU κ O rk a0 st')) ?_ ?_ ?_) ?_)
 ·rintro x c st' _ hx H
  rcases H with⟨rfl,rfl,hB⟩ | ⟨n1,rfl,hR,hx1,hor⟩ | ⟨rfl,hR,hx1⟩
  ·dsimp only
   refine aL (by lia) ?_
   refine wpS_bind (sv hC hS hB (by lia) (by lia) λm st2 hB2 m1 m2 u=>?_)
   have put:∀ n st3,SB κ a0 0 #[] (gallopOf st) st3->Up rk (arrOf st3) 0 n->mr<=n->n<=a0.size->
     zw κ O rk a0 n (SortSt.mk' (kindOf st3) (arrOf st3) ((pendingOf st3).push (0,n,0)) (gallopOf st3) (failedOf st3))/\(n=a0.size\/0+1=1/\32<=n/\n < 64/\a0.size=64):=λn st3 hB3 u3 h1 h2=>
    ⟨⟨hB3.perm,hB3.kind,hB3.fail,by show (pendingOf st3).push _=_;rw [hB3.pend];rfl,u3⟩,by lia⟩
   dsimp only
   by_cases hlt:m < mr
   ·refine bb hlt ?_
    refine wpS_bind (eM (wpS_bind (n5 hC hS hB2 m1 (by lia) (by lia) u λst3 hB3 u3=>?_)))
    refine aL (by simp) ?_
    have hP:=put _ st3 hB3 u3 (by lia) (by lia)
    refine wpS_bind (wpS_get ?_)
    have hb:(pendingOf st3).back?=none:=by rw [hB3.pend];rfl
    rw [hb]
    exact wpS_bind (wpS_modify (wpS_pure (.inr (.inl ⟨_,by rw [Nat.zero_add],hP.1,by lia,hP.2⟩))))
   ·refine aL hlt ?_
    have hP:=put m st2 hB2 u (by lia) (by lia)
    refine wpS_bind (wpS_get ?_)
    have hb:(pendingOf st2).back?=none:=by rw [hB2.pend];rfl
    rw [hb]
    exact wpS_bind (wpS_modify (wpS_pure (.inr (.inl ⟨_,by rw [Nat.zero_add],hP.1,by lia,hP.2⟩))))
  ·dsimp only
   by_cases hge:n1>=a0.size
   ·refine bb hge ?_
    have e:n1=a0.size:=by lia
    subst e
    exact wpS_pure ⟨rfl,.inl hR⟩
   refine aL hge ?_
   have hsz:(arrOf st').size=a0.size:=hR.perm.size_eq
   have hS':∀ x ∈ (arrOf st').toList,S x:=λx hx=>hS x ((Array.perm_iff_toList_perm.mp hR.perm).mem_iff.mp hx)
   have hB:SB κ (arrOf st') n1 #[(0,n1,0)] (gallopOf st') st':=⟨Array.Perm.refl _,λ_ _=>rfl,hR.kind,hR.fail,hR.pend,rfl⟩
   have hn:32<=n1/\n1 < 64/\a0.size=64/\mr=32:=by lia
   refine wpS_bind (sv hC hS' hB (by lia) (by lia) λm st2 hB2 m1 m2 u=>?_)
   have put:∀ n pw st3,n=a0.size - n1->SB κ (arrOf st') n1 #[(0,n1,0)] (gallopOf st') st3->Up rk (arrOf st3) n1 n->
     xU κ O rk a0 (SortSt.mk' (kindOf st3) (arrOf st3) (((pendingOf st3).modify ((pendingOf st3).size - 1) λx=>(x.1,x.2.1,pw)).push (n1,n,0)) (gallopOf st3) (failedOf st3)):=λn pw st3 hn3 hB3 u3=>
    ⟨hB3.perm.trans hR.perm,hB3.kind,hB3.fail,n1,n,pw,by lia,by lia,by lia,by show (Array.modify (pendingOf st3) _ _).push _=_;rw [hB3.pend];simp,λi j a b c=>by
     show O.kle (rk (kyd (arrOf st3) i)) (rk (kyd (arrOf st3) j))
     rw [cu (hB3.pre i (by lia)),cu (hB3.pre j (by lia))]
     exact hR.up i j a b c,u3⟩
   have inner:∀ st3,SB κ (arrOf st') n1 #[(0,n1,0)] (gallopOf st') st3->∀ (f:Nat->Option Unit×Unit->StateT SortSt Sem (ForInStep (Option Unit×Unit))) (Q':Option Unit×Unit->SortSt->Prop),
     (∀ x,∀ Q'':ForInStep (Option Unit×Unit)->SortSt->Prop,Q'' (.done (none,())) st3->wpS (model prog w) A E s (f x (none,())) Q'' st3)->Q' (none,()) st3->wpS (model prog w) A E s (forIn [0:a0.size] (none,()) f) Q' st3:=λst3 hB3 f Q' hf hq=>
    wpS_forRange (I:=λ_ c st4=>c=(none,())/\st4=st3) (λi c st4 _ _ hI=>by
     obtain⟨rfl,rfl⟩:=hI
     exact hf i _ hq) (λc st4 hI=>by obtain⟨rfl,rfl⟩:=hI;exact hq) ⟨rfl,rfl⟩
   dsimp only
   by_cases hlt:m < mr
   case' pos=>
    refine bb hlt ?_
    refine wpS_bind (eM (wpS_bind (n5 hC hS' hB2 m1 (by lia) (by lia) u λst3 hB3 u3=>?_)))
    refine aL (by simp) ?_
    have e9:min (a0.size - n1) mr=a0.size - n1:=by lia
    rw [e9] at u3 ⊢
   case' neg=>
    refine aL hlt ?_
    have e9:m=a0.size - n1:=by lia
    subst e9
    have hB3:=hB2
    have u3:=u
    revert hB3 u3
    clear u hB2
    generalize st2=st3
    intro hB3 u3
   all_goals
    refine wpS_bind (wpS_get ?_)
    have hb:(pendingOf st3).back?=some (0,n1,0):=by rw [hB3.pend];rfl
    rw [hb]
    refine wpS_bind (inner st3 hB3 _ _ (λx Q'' hq=>?_) ?_)
    ·refine wpS_bind (wpS_get ?_)
     have hb2:(if (pendingOf st3).size > 1 then (pendingOf st3)[(pendingOf st3).size - 2]? else none)=none:=by rw [hB3.pend];rfl
     rw [hb2]
     exact wpS_pure hq
    ·refine wpS_bind (wpS_modify (wpS_bind (wpS_modify (wpS_pure (.inr (.inr ⟨?_,put _ _ st3 rfl hB3 u3,by lia⟩))))))
     rw [show n1+(a0.size - n1)=a0.size by lia]
  ·dsimp only
   refine bb (Nat.le_refl _) ?_
   exact wpS_pure ⟨rfl,.inr hR⟩
 ·rintro c st' (⟨hx,_⟩ | ⟨n1,rfl,hR,hx1,hor⟩ | ⟨rfl,hR,hx1⟩)
  ·lia
  ·have e:n1=a0.size:=by lia
   subst e
   exact⟨rfl,.inl hR⟩
  ·exact⟨rfl,.inr hR⟩
 ·exact .inl ⟨rfl,rfl,by rw [ha],λ_ _=>by rw [ha],hk,hf,hp,rfl⟩
 ·rintro⟨c1,c2⟩ st' ⟨rfl,hR⟩
  dsimp only
  refine wpS_bind (wpS_mono (wpS_forRange (I:=λy c st2=>c=(none,())/\((y=0/\xU κ O rk a0 st2)\/((pendingOf st2).size=1/\(arrOf st2).toList.Perm a0.toList/\(arrOf st2).toList.Pairwise (λx y=>O.kle (rk x) (rk y))/\failedOf st2=none)))
   (Q:=λc st2=>c=(none,())/\(arrOf st2).toList.Perm a0.toList/\(arrOf st2).toList.Pairwise (λx y=>O.kle (rk x) (rk y))/\failedOf st2=none) ?_ ?_ ?_) ?_)
  ·rintro y c st2 _ hy ⟨rfl,⟨rfl,hR2⟩ | ⟨h1,h2',h3,h4⟩⟩
   ·refine wpS_bind (wpS_get ?_)
    obtain⟨n1,n2,p,z1,z2,z3,z4,u1,u2⟩:=hR2.ex
    have hsz:(arrOf st2).size=a0.size:=hR2.perm.size_eq
    have z5:(sortPriv% PySem.Builtin.SortState.pending) st2=#[(0,n1,p),(n1,n2,0)]:=z4
    rw [z5]
    refine wpS_bind (m:=yf 0) (wv hC hR2.kind hR2.fail z4 (λx hx=>hS x ((Array.perm_iff_toList_perm.mp hR2.perm).mem_iff.mp hx)) (by lia) z1 z2 u1 u2 λst3 a1 a2 a3 a4=>?_)
    refine aL (by simp) ?_
    exact wpS_pure ⟨rfl,.inr ⟨by rw [a4];rfl,a1.trans (Array.perm_iff_toList_perm.mp hR2.perm),a2,a3⟩⟩
   ·refine wpS_bind (wpS_get ?_)
    have h1':(pendingOf st2).size<=1:=by lia
    refine bb h1' ?_
    exact wpS_pure ⟨rfl,h2',h3,h4⟩
  ·rintro c st2 ⟨rfl,⟨hy,_⟩ | ⟨h1,h2',h3,h4⟩⟩
   ·lia
   ·exact⟨rfl,h2',h3,h4⟩
  ·refine⟨rfl,?_⟩
   rcases hR with hR | hR
   ·have hsz:(arrOf st').size=a0.size:=hR.perm.size_eq
    exact .inr ⟨by rw [hR.pend];rfl,Array.perm_iff_toList_perm.mp hR.perm,mk (by rw [hsz];exact hR.up),hR.fail⟩
   ·exact .inl ⟨rfl,hR⟩
  ·rintro c st2 ⟨rfl,h2',h3,h4⟩
   exact wpS_pure (h st2 h2' h3 h4)
end
end L2
namespace L2
open PySem PySem.Spec PyProof.Rows PySem.SeqAt
open MeetsSeq MeetsSeq2 MeetsSeq3 SeqRoads2
open AutoSeq1 (wpAny_loadPart')
noncomputable def lD (A:Around) (s:Shared) (y x:Value) (b:Bool):Prop:=∀ (prog:Program) (w:World) (E:Value->Shared->Prop) (Q:Value->Shared->Prop),Q (.bool b) s->wpAny (model prog w) A (richCompare .Lt y x) Q E s
noncomputable def kl (e l:Nat->Bool) (fin:Bool):Nat->Nat->Bool
 | 0,_=>fin
 | k+1,i=>if e i=true then kl e l fin k (i+1) else l i
theorem ky (p q:Addr) (us vs:Array Value) (n n2:Nat) (dd dd2:Option Addr) (sl sl2:Array (Option Value)) (e l:Nat->Bool) :
  Meets (Builtin.«tuple.__lt__» ⟨[.ref p,.ref q],[]⟩)
   (λA R s=>(s.heap.get? p=some ⟨.type "tuple",dd,.seq us n,sl⟩/\s.heap.get? q=some ⟨.type "tuple",dd2,.seq vs n2,sl2⟩)/\
     (∀ j (h1:j < us.size) (h2:j < vs.size),EqAt A.in1 s us[j] vs[j] (e j)/\(e j=false->lD A.in1 s us[j] vs[j] (l j)))/\
     R (.ok (.ret (.bool (kl e l (decide (us.size < vs.size)) (min us.size vs.size) 0)))) s):=
 .of_wp λprog w A R s h=>by
  obtain⟨hp,g,d,tk,os⟩:=s
  obtain⟨⟨h1,h2⟩,he,h⟩:=h
  have f2:=AutoSeq1.sub_tuple_tuple
  have hZ:(us.toList.zip vs.toList).length=min us.size vs.size:=by simp
  wp_walk using wpAny_loadPart' h1,wpAny_loadPart' h2,wpAny_forIn_list _ (λrest b s'=>b.1=none/\s'=⟨hp,g,d,tk,os⟩/\∃ i,i<=min us.size vs.size/\rest=(us.toList.zip vs.toList).drop i/\
   R (.ok (.ret (.bool (kl e l (decide (us.size < vs.size)) (min us.size vs.size - i) i)))) ⟨hp,g,d,tk,os⟩) _
  case turn=>
   rintro⟨y,x⟩ rest b s' ⟨hb',rfl,i,hi,hz,hR⟩
   have hlt:i < (us.toList.zip vs.toList).length:=by
    rcases Nat.lt_or_ge i (us.toList.zip vs.toList).length with h' | h'
    ·exact h'
    ·rw [List.drop_of_length_le h'] at hz;cases hz
   rw [hZ] at hlt
   have g1:i < us.size:=by lia
   have g2:i < vs.size:=by lia
   rw [List.drop_eq_getElem_cons (by rw [hZ];exact hlt)] at hz
   injection hz with hyx hrest
   have hy:y=us[i]:=by have:=congrArg Prod.fst hyx;simpa using this
   have hx:x=vs[i]:=by have:=congrArg Prod.snd hyx;simpa using this
   subst hy hx
   obtain⟨k,hk⟩:∃ k,min us.size vs.size - i=k+1:=⟨min us.size vs.size - i - 1,by lia⟩
   rw [hk] at hR
   have hR':R (.ok (.ret (.bool (if e i=true then kl e l (decide (us.size < vs.size)) k (i+1) else l i)))) ⟨hp,g,d,tk,os⟩:=hR
   refine wpAny_bind ((he i g1 g2).1 prog w _ _ ?_)
   cases hy:e i with
   | true=>
    rw [hy,if_pos rfl] at hR'
    wp_walk
    exact⟨rfl,rfl,i+1,by lia,hrest,by rw [show min us.size vs.size - (i+1)=k by lia];exact hR'⟩
   | false=>
    rw [hy,if_neg (by simp)] at hR'
    simp only [Bool.not_false,if_true]
    refine wpAny_bind (wpAny_rule ?_)
    refine wpAny_bind ((he i g1 g2).2 hy prog w _ _ ?_)
    wp_walk
    exact⟨_,rfl,hR'⟩
  case fin=>
   rintro⟨b1,b2⟩ s' ⟨hb',rfl,i,hi,hz,hR⟩
   simp only at hb'
   subst hb'
   have hge:min us.size vs.size<=i:=by
    rcases Nat.lt_or_ge i (us.toList.zip vs.toList).length with h' | h'
    ·rw [List.drop_eq_getElem_cons h'] at hz;cases hz
    ·rw [hZ] at h';exact h'
   rw [show min us.size vs.size - i=0 by lia] at hR
   wp_walk
   exact⟨_,rfl,by simpa [Builtin.Tuple.tupleCompareSizes,kl] using hR⟩
  case h=>exact⟨rfl,rfl,0,Nat.zero_le _,rfl,h⟩
section
variable {A:Around}{s:Shared}{p q:Addr}{us vs:Array Value}{e l:Nat->Bool}
theorem lD.tuples (hl:s.heap.IsTuple p us) (hb:s.heap.IsTuple q vs) (hu:A.units < cLine) (he:∀ j (h1:j < us.size) (h2:j < vs.size),EqAt A.in1 s us[j] vs[j] (e j)/\(e j=false->lD A.in1 s us[j] vs[j] (l j))) :
  lD A s (.ref p) (.ref q) (kl e l (decide (us.size < vs.size)) (min us.size vs.size) 0):=λprog w E Q h=>by
 obtain⟨⟨cls,dd,data,sl⟩,ho,hc,n,hd⟩:=id hl
 obtain⟨⟨cls2,dd2,data2,sl2⟩,ho2,hc2,n2,hd2⟩:=id hb
 simp only at hc hd hc2 hd2
 subst hc hd hc2 hd2
 exact richCompare_meets_room (op:=.Lt) ⟨_,ho,rfl⟩ ⟨_,ho2,rfl⟩ PySem.F.slot_tuple_lt PySem.F.entry_tuple_lt (PySem.F.args_tuple_lt_2 _ _) (ky p q us vs n n2 dd dd2 sl sl2 e l)
  ⟨⟨ho,ho2⟩,he,(λx=>nomatch x),h⟩ hu
end
end L2
namespace L2
open PySem PySem.Spec PyProof.Rows PySem.SeqAt PySem.W
noncomputable def bD:List Int->List Int->Bool
 | [],[]=>false
 | [],_::_=>true
 | _::_,[]=>false
 | a::as,b::bs=>if a=b then bD as bs else decide (a < b)
theorem gU:∀ a,bD a a=false
 | []=>rfl
 | a::as=>by unfold bD;rw [if_pos rfl];exact gU as
theorem fC:∀ a b,bD a b=false->bD b a=false->a=b
 | [],[],_,_=>rfl
 | [],_::_,h,_=>by cases h
 | _::_,[],_,h=>by cases h
 | a::as,b::bs,h,h'=>by
  unfold bD at h h'
  by_cases e:a=b
  ·subst e
   rw [if_pos rfl] at h h'
   rw [fC as bs h h']
  ·rw [if_neg e] at h
   rw [if_neg (Ne.symm e)] at h'
   rw [decide_eq_false_iff_not] at h h'
   lia
theorem jR:∀ a b c,bD a b=true->bD b c=true->bD a c=true
 | [],[],_,h,_=>by cases h
 | [],_::_,[],_,h=>by cases h
 | [],_::_,_::_,_,_=>rfl
 | _::_,[],_,h,_=>by cases h
 | _::_,_::_,[],_,h=>by cases h
 | a::as,b::bs,c::cs,h,h'=>by
  unfold bD at h h' ⊢
  by_cases e:a=b
  ·subst e
   rw [if_pos rfl] at h
   by_cases e2:a=c
   ·subst e2;rw [if_pos rfl] at h' ⊢;exact jR as bs cs h h'
   ·rw [if_neg e2] at h' ⊢;exact h'
  ·rw [if_neg e,decide_eq_true_iff] at h
   by_cases e2:b=c
   ·subst e2;rw [if_neg e,decide_eq_true_iff];exact h
   ·rw [if_neg e2,decide_eq_true_iff] at h'
    rw [if_neg (by lia),decide_eq_true_iff];lia
theorem uA:∀ a b c,bD a c=true->bD a b=true\/bD b c=true
 | a,b,c,h=>by
  by_cases h1:bD a b=true
  ·exact .inl h1
  ·rw [Bool.not_eq_true] at h1
   by_cases h2:bD b a=true
   ·exact .inr (jR b a c h2 h)
   ·rw [Bool.not_eq_true] at h2
    rw [fC a b h1 h2] at h;exact .inr h
noncomputable def OI:KeyOrd:=⟨List Int,bD,gU,jR,uA,fC⟩
noncomputable def TuI (h:Heap) (v:Value) (l:List Int):Prop:=∃ a its,v=.ref a/\h.IsTuple a its/\IntsAre its.toList l
noncomputable def aU:Value->Int
 | .int n _=>n
 | _=>0
noncomputable def tuI (h:Heap):Value->List Int
 | .ref a=>match h.get? a with
  | some o=>match o.data with
   | .seq its _=>its.toList.map aU
   | _=>[]
  | none=>[]
 | _=>[]
theorem iq:∀ {us:List Value}{l:List Int},IntsAre us l->us.map aU=l
 | _,_,.nil=>rfl
 | _,_,.cons n t h=>by rw [List.map_cons,iq h];rfl
theorem dA:∀ {us:List Value}{l:List Int},IntsAre us l->us.length=l.length
 | _,_,.nil=>rfl
 | _,_,.cons n t h=>by rw [List.length_cons,List.length_cons,dA h]
theorem fW:∀ {us:List Value}{l:List Int},IntsAre us l->∀ (j:Nat) (h:j < us.length),∃ t,us[j]=.int (l.getD j 0) t
 | _,_,.nil,j,h=>absurd h (Nat.not_lt_zero j)
 | _,_,.cons n t hh,0,h=>⟨t,rfl⟩
 | _,_,.cons n t hh,j+1,h=>by
  obtain⟨t',e⟩:=fW hh j (Nat.lt_of_succ_lt_succ h)
  exact⟨t',by simpa using e⟩
theorem TuI.is {h:Heap}{v:Value}{l:List Int} (t:TuI h v l):tuI h v=l:=by
 obtain⟨a,its,rfl,⟨o,ho,hc,n,hd⟩,hi⟩:=t
 simp only [tuI,ho,hd]
 exact iq hi
theorem TuI.fit {h h':Heap}{v:Value}{l:List Int} (t:TuI h v l) (hk:∀ b o,h.get? b=some o->h'.get? b=some o):TuI h' v l:=by
 obtain⟨a,its,rfl,⟨o,ho,r⟩,hi⟩:=t
 exact⟨a,its,rfl,⟨o,hk _ _ ho,r⟩,hi⟩
theorem kB:∀ (l m:List Int) (i:Nat) (e f:Nat->Bool),(∀ j,j < l.length->j < m.length->e (i+j)=decide (l.getD j 0=m.getD j 0)/\f (i+j)=decide (l.getD j 0 < m.getD j 0))->
  kl e f (decide (l.length < m.length)) (min l.length m.length) i=bD l m
 | [],[],i,e,f,_=>by simp [kl,bD]
 | [],b::m,i,e,f,_=>by simp [kl,bD]
 | a::l,[],i,e,f,_=>by simp [kl,bD]
 | a::l,b::m,i,e,f,h=>by
  have h0:=h 0 (by simp) (by simp)
  rw [List.length_cons,List.length_cons,show min (l.length+1) (m.length+1)=min l.length m.length+1 by lia]
  have e1:decide (l.length+1 < m.length+1)=decide (l.length < m.length):=by rw [Bool.eq_iff_iff];simp
  rw [e1]
  show (if e i=true then kl e f (decide (l.length < m.length)) (min l.length m.length) (i+1) else f i)=if a=b then bD l m else decide (a < b)
  rw [Nat.add_zero] at h0
  rw [h0.1,h0.2]
  by_cases q:a=b
  ·subst q
   simp only [List.getD_cons_zero,decide_true,if_true]
   exact kB l m (i+1) e f λj h1 h2=>by
    have:=h (j+1) (by simpa using h1) (by simpa using h2)
    rw [show i+1+j=i+(j+1) by lia]
    simpa using this
  ·simp [q]
section
variable {prog:Program}{w:World}{A:Around}{E:Value->Shared->Prop}{s:Shared}{x y:Value}{l m:List Int}
theorem lD.ints {a b:Int}{t u:Tok}:lD A s (.int a t) (.int b u) (decide (a < b)):=λprog w E Q h=>PyProof.Rows.lt_int h
theorem EqAt.ints {a b:Int}{t u:Tok}:EqAt A s (.int a t) (.int b u) (decide (a=b)):=by
 have:=qP (A:=A) (s:=s) (y:=.int a) (x:=.int b) (u:=.int a t) (v:=.int b u) ⟨t,rfl⟩ ⟨u,rfl⟩ rfl rfl
 have e:eqV (.int a) (.int b)=decide (a=b):=by simp [eqV,Bool.beq_eq_decide_eq]
 rw [e] at this;exact this
theorem TuI.lt (tx:TuI s.heap x l) (ty:TuI s.heap y m) (hu:A.units < cLine):lD A s x y (bD l m):=by
 obtain⟨a,us,rfl,h1,i1⟩:=tx
 obtain⟨b,vs,rfl,h2,i2⟩:=ty
 have e1:us.size=l.length:=by rw [<-Array.length_toList];exact dA i1
 have e2:vs.size=m.length:=by rw [<-Array.length_toList];exact dA i2
 have z:=lD.tuples (A:=A) (e:=λj=>decide (l.getD j 0=m.getD j 0)) (l:=λj=>decide (l.getD j 0 < m.getD j 0)) h1 h2 hu λj g1 g2=>by
  obtain⟨t,q1⟩:=fW i1 j (by simpa using g1)
  obtain⟨t',q2⟩:=fW i2 j (by simpa using g2)
  rw [Array.getElem_toList] at q1 q2
  rw [q1,q2]
  exact⟨EqAt.ints,λ_=>lD.ints⟩
 rw [e1,e2,kB l m 0 _ _ λj h1 h2=>by rw [Nat.zero_add];exact⟨rfl,rfl⟩] at z
 exact z
theorem TuI.one (tx:TuI s.heap x l) (ty:TuI s.heap y m) (hu:A.units < cLine) {Q:Bool->Shared->Prop} (h:Q (bD l m) s) (b:Bool):wpAny (model prog w) A (oneLt' b x y) Q E s:=by
 cases b with
 | false=>exact kat_one _ _ (tx.lt ty hu _ _ _ _ h)
 | true=>
  rw [oneLt'_eq]
  simp only [if_true]
  refine wpAny_bind (wpAny_cRoomFor hu ?_)
  obtain⟨a,us,rfl,h1,i1⟩:=id tx
  obtain⟨c,vs,rfl,h2,i2⟩:=id ty
  obtain⟨⟨cls,dd,data,sl⟩,ho,hc,n,hd⟩:=id h1
  obtain⟨⟨cls2,dd2,data2,sl2⟩,ho2,hc2,n2,hd2⟩:=id h2
  simp only at hc hd hc2 hd2
  subst hc hd hc2 hd2
  have e1:us.size=l.length:=by rw [<-Array.length_toList];exact dA i1
  have e2:vs.size=m.length:=by rw [<-Array.length_toList];exact dA i2
  refine wpAny_bind (wpAny_callSpecialIfBound?_slot (T:="tuple") ⟨_,ho,rfl⟩ PySem.F.slot_tuple_lt (call_meets PySem.F.slot_tuple_lt ⟨_,ho,rfl⟩ PySem.F.entry_tuple_lt (PySem.F.args_tuple_lt_2 _ _)
   (ky a c us vs n n2 dd dd2 sl sl2 (λj=>decide (l.getD j 0=m.getD j 0)) λj=>decide (l.getD j 0 < m.getD j 0)) ⟨⟨ho,ho2⟩,λj g1 g2=>?_,?_⟩))
  ·obtain⟨t,q1⟩:=fW i1 j (by simpa using g1)
   obtain⟨t',q2⟩:=fW i2 j (by simpa using g2)
   rw [Array.getElem_toList] at q1 q2
   rw [q1,q2]
   exact⟨EqAt.ints,λ_=>lD.ints⟩
  ·rw [e1,e2,kB l m 0 _ _ λj h1 h2=>by rw [Nat.zero_add];exact⟨rfl,rfl⟩]
   exact wpAny_truthy_bool h
theorem uE {Q:Bool->Shared->Prop}{fin:Bool}:∀ {us vs:List Value}{l m:List Int} (i:Nat),IntsAre us l->IntsAre vs m->(fin=decide (l.length < m.length))->Q (bD l m) s->KatLex prog w A true fin Q (us.zip vs) i s
 | _,_,_,_,i,.nil,.nil,hf,h=>kat_nil (by rw [hf];exact h)
 | _,_,_,_,i,.nil,.cons n t r,hf,h=>kat_nil (by rw [hf];simpa [bD] using h)
 | _,_,_,_,i,.cons n t r,.nil,hf,h=>kat_nil (by rw [hf];simpa [bD] using h)
 | _,_,_,_,i,.cons (vs:=us) (ns:=l) a t r,.cons (vs:=vs) (ns:=m) b u r',hf,h=>by
  rw [List.zip_cons_cons]
  refine kat_cons (EqAt.ints prog w _ _ ?_)
  unfold bD at h
  by_cases e:a=b
  ·subst e
   rw [if_pos rfl] at h
   rw [decide_eq_true rfl]
   exact kat_yes (uE (i+1) r r' (by rw [hf,Bool.eq_iff_iff];simp) h)
  ·rw [if_neg e] at h
   rw [decide_eq_false e]
   refine kat_no ?_
   cases (true && i==0) with
   | true=>exact oneLt_int h
   | false=>exact kat_one _ _ (PyProof.Rows.lt_int h)
theorem TuI.tups (tx:TuI s.heap x l) (ty:TuI s.heap y m) {Q:Bool->Shared->Prop} (h:Q (bD l m) s):wpAny (model prog w) A (keyLt' (tuples' true) x y) Q E s:=by
 obtain⟨a,us,rfl,⟨o,ho,hc,n,hd⟩,i1⟩:=tx
 obtain⟨c,vs,rfl,⟨o2,ho2,hc2,n2,hd2⟩,i2⟩:=ty
 have e1:us.size=l.length:=by rw [<-Array.length_toList];exact dA i1
 have e2:vs.size=m.length:=by rw [<-Array.length_toList];exact dA i2
 exact kat_lt ho hd ho2 hd2 (uE 0 i1 i2 (by rw [e1,e2]) h)
end
end L2
namespace L2
open PySem PySem.Spec PyProof.Rows PySem.SeqAt PySem.W
section
variable {prog:Program}{w:World}{A:Around}{E:Value->Shared->Prop}{s:Shared}{O:KeyOrd}{rk:Keyed->O.α}{S:Keyed->Prop}{vs:List Value}
theorem ox:∀ (vs:List Value),vs.zip vs=vs.map λv=>(v,v)
 | []=>rfl
 | v::vs=>by rw [List.zip_cons_cons,ox vs];rfl
theorem zr {α β:Type}{f:α->β}{R:β->β->Prop}:∀ {vs:List α},vs.toArray.size < 2->(vs.map f).Pairwise R
 | [],_=>List.Pairwise.nil
 | [v],_=>List.pairwise_singleton _ _
 | _::_::_,h=>absurd h (by simp)
set_option maxHeartbeats 1000000 in
theorem fX {a:Addr}{n:Nat}{P:PySem.Fin->Shared->Prop} (ho:s.heap.get? a=some (seqObj "list" vs.toArray n)) (h64:vs.length<=64)
  (hyp:∀ h',(∀ b o,b≠a->s.heap.get? b=some o->h'.get? b=some o)->∃ κ,(2<=vs.length->∀ (Q':SortKind->Shared->Prop) E',Q' κ { s with heap:=h' }->wpAny (model prog w) A (keyKind' vs.toArray) Q' E' { s with heap:=h' })/\Cm prog w A { s with heap:=h' } κ O rk S)
  (hS:∀ v ∈ vs,S (v,v))
  (h:∀ out:List Value,out.Perm vs->out.Pairwise (λx y=>O.kle (rk (x,x)) (rk (y,y)))->P (.done (.ret .none)) { s with heap:=sortedHeap s.heap a vs out.toArray }) :
  wpAny (model prog w) A (Builtin.«list.sort» ⟨[.ref a],[]⟩) P E s:=by
 rw [list_sort_plain]
 have hlt:a < s.heap.objs.size:=Heap.lt_size ho
 have hsz:vs.toArray.size=vs.length:=by simp
 refine wpAny_bind (listItems_at ho rfl ?_)
 refine wpAny_bind (listUpdate_at ho rfl ?_ (by rw [hsz,sizeLine_eq];lia))
 obtain⟨e1,ho1⟩:∃ e1,(s.heap.update a (Obj.mapSeq λ_=>#[])).get? a=some (seqObj "list" #[] e1):=⟨_,get?_update_seq ho (λ_=>#[])⟩
 refine wpAny_bind (seqEpoch_at ho1 rfl ?_)
 refine wpAny_bind (wpAny_newTuple ?_ (by rw [sizeLine_eq];show vs.toArray.toList.length<=_;simp;lia))
 refine wpAny_bind (wpAny_newList ?_)
 refine wpAny_holding ?_
 have z1:(s.heap.update a (Obj.mapSeq λ_=>(#[]:Array Value))).objs.size=s.heap.objs.size:=Heap.size_update ..
 have keepN:∀ b o,b < s.heap.objs.size->(s.heap.update a (Obj.mapSeq λ_=>(#[]:Array Value))).get? b=some o->
   (((s.heap.update a (Obj.mapSeq λ_=>#[])).push (seqObj "tuple" vs.toArray 0)).push (seqObj "list" #[] 0)).get? b=some o:=λb o hb q=>by
  rw [Heap.get?_push_ne _ _ _ (Nat.ne_of_lt (by rw [size_push',z1];exact Nat.lt_succ_of_lt hb)),Heap.get?_push_ne _ _ _ (Nat.ne_of_lt (by rw [z1];exact hb))]
  exact q
 have ho6:=keepN a _ hlt ho1
 obtain⟨κ,hkk,hC⟩:=hyp (((s.heap.update a (Obj.mapSeq λ_=>#[])).push (seqObj "tuple" vs.toArray 0)).push (seqObj "list" #[] 0)) λb o hb q=>
  keepN b o (Heap.lt_size q) (by rw [Heap.get?_update_ne _ _ _ _ hb];exact q)
 show wpAny (model prog w) A _ P E { s with heap:=((s.heap.update a (Obj.mapSeq λ_=>#[])).push (seqObj "tuple" vs.toArray 0)).push (seqObj "list" #[] 0) }
 have pt:(vs.toArray.zip vs.toArray).toList=vs.map λv=>(v,v):=by rw [<-ox];simp
 have fin:∀ st':SortSt,(arrOf st').toList.Perm (vs.map λv=>(v,v))->(arrOf st').toList.Pairwise (λx y=>O.kle (rk x) (rk y))->∃ out:List Value,out.length=vs.length/\(arrOf st').map (·.2)=out.toArray/\P (.done (.ret .none)) { s with heap:=sortedHeap s.heap a vs out.toArray }:=λst' h1 h2=>by
  refine⟨(arrOf st').toList.map (·.2),by rw [List.length_map,h1.length_eq,List.length_map],by apply Array.toList_inj.mp;simp,h _ ?_ ?_⟩
  ·have:=h1.map (·.2)
   rw [List.map_map] at this
   have e:(vs.map ((λx=>x.2) ∘ λv=>((v,v):Keyed)))=vs:=by rw [show ((λx:Keyed=>x.2) ∘ λv=>((v,v):Keyed))=id from rfl,List.map_id]
   rw [e] at this;exact this
  ·rw [List.pairwise_map]
   refine h2.imp_of_mem λ{x y} hx hy q=>?_
   have dx:x=(x.2,x.2):=by obtain⟨v,_,rfl⟩:=List.mem_map.mp (h1.mem_iff.mp hx);rfl
   have dy:y=(y.2,y.2):=by obtain⟨v,_,rfl⟩:=List.mem_map.mp (h1.mem_iff.mp hy);rfl
   rw [<-dx,<-dy];exact q
 dsimp only
 by_cases h2:vs.toArray.size < 2
 ·rw [if_pos h2,if_pos h2]
  refine wpAny_bind (wpAny_pure ?_)
  rw [StateT.run_pure]
  refine wpAny_bind (wpAny_pure ?_)
  dsimp only
  obtain⟨out,q0,q1,q2⟩:=fin (SortSt.mk' general' (vs.toArray.zip vs.toArray) #[] 7 none) (by rw [pt]) (by rw [pt];exact zr h2)
  refine wpAny_bind (seqEpoch_at ho6 rfl ?_)
  rw [q1]
  refine wpAny_bind (listUpdate_at ho6 rfl ?_ (hsz2:=by show out.length<=_;rw [q0,sizeLine_eq];lia))
  simp only [bne_self_eq_false,Bool.false_eq_true,if_false]
  exact wpAny_pure q2
 ·rw [if_neg h2,if_neg h2]
  refine wpAny_bind (hkk (by lia) _ _ ?_)
  refine wpAny_bind (wpAny_mono (xx hC (st:=SortSt.mk' κ (vs.toArray.zip vs.toArray) #[] 7 none) (a0:=vs.toArray.zip vs.toArray) (Q:=λ_ st'=>(arrOf st').toList.Perm (vs.map λv=>(v,v))/\(arrOf st').toList.Pairwise (λx y=>O.kle (rk x) (rk y))/\failedOf st'=none)
   rfl rfl rfl rfl (λx hx=>?_) (by simp;lia) (by simp;lia) λst' a1 a2 a3=>⟨by rw [<-pt];exact a1,a2,a3⟩) ?_ λ_ _ e=>e)
  ·rw [pt] at hx
   obtain⟨v,hv,rfl⟩:=List.mem_map.mp hx
   exact hS v hv
  rintro⟨⟨⟩,st'⟩ s' ⟨rfl,a1,a2,a3⟩
  dsimp only
  obtain⟨out,q0,q1,q2⟩:=fin st' a1 a2
  refine wpAny_bind (seqEpoch_at ho6 rfl ?_)
  rw [q1]
  refine wpAny_bind (listUpdate_at ho6 rfl ?_ (hsz2:=by show out.length<=_;rw [q0,sizeLine_eq];lia))
  rw [a3]
  simp only [bne_self_eq_false,Bool.false_eq_true,if_false]
  exact wpAny_pure q2
theorem jW {l:Addr}{Q:Value->Shared->Prop} (hl:s.heap.IsList l vs.toArray) (h64:vs.length<=64)
  (hyp:∀ h',(∀ b o,s.heap.get? b=some o->h'.get? b=some o)->∃ κ,(2<=vs.length->∀ (Q':SortKind->Shared->Prop) E',Q' κ { s with heap:=h' }->wpAny (model prog w) A.in1.in1 (keyKind' vs.toArray) Q' E' { s with heap:=h' })/\Cm prog w A.in1.in1 { s with heap:=h' } κ O rk S)
  (hS:∀ v ∈ vs,S (v,v))
  (h:∀ out:List Value,out.Perm vs->out.Pairwise (λx y=>O.kle (rk (x,x)) (rk (y,y)))->Q (.ref (s.heap.objs.size+1)) { s with heap:=sortedAll s.heap vs out.toArray }) :
  wpAny (model prog w) A (call (.builtin "sorted") [.ref l]) Q E s:=by
 refine Calls.call_function_entry kind_sorted plain_sorted entry_sorted (args_sorted1 _) ?_
 unfold Builtin.«sorted»
 refine wpAny_bind (m:=checkCount "sorted" 1 1 _) (wpAny_pure ?_)
 refine wpAny_bind (collect_list hl ?_ (by rw [sizeLine_eq];lia))
 refine wpAny_bind (wpAny_newList ?_ (by rw [sizeLine_eq];lia))
 have hz:((s.heap.push (seqObj "list" #[] 0)).update s.heap.objs.size (Obj.mapSeq (·++vs.toArray))).objs.size=s.heap.objs.size+1:=by rw [Heap.size_update,size_push']
 generalize hh:((s.heap.push (seqObj "list" #[] 0)).update s.heap.objs.size (Obj.mapSeq (·++vs.toArray)))=hB at hz ⊢
 have hoL:(hB.push (seqObj "list" vs.toArray 0)).get? (s.heap.objs.size+1)=some (seqObj "list" vs.toArray 0):=by
  rw [<-hz];exact Heap.get?_push_size _ rfl
 have keep:∀ b o,s.heap.get? b=some o->b≠s.heap.objs.size+1/\(hB.push (seqObj "list" vs.toArray 0)).get? b=some o:=λb o q=>by
  have hlt:b < s.heap.objs.size:=Heap.lt_size q
  refine⟨Nat.ne_of_lt (Nat.lt_succ_of_lt hlt),?_⟩
  rw [Heap.get?_push_ne _ _ _ (Nat.ne_of_lt (by rw [hz];exact Nat.lt_succ_of_lt hlt)),<-hh,Heap.get?_update_ne _ _ _ _ (Nat.ne_of_lt hlt),Heap.get?_push_ne _ _ _ (Nat.ne_of_lt hlt)]
  exact q
 show wpAny _ _ _ _ _ { s with heap:=hB.push (seqObj "list" vs.toArray 0) }
 rw [hz]
 refine wpAny_bind (wpAny_holding (wpAny_call_entry slot_list_sort ⟨_,hoL,rfl⟩ entry_list_sort (fX (s:={ s with heap:=hB.push (seqObj "list" vs.toArray 0) }) hoL h64 (λh' hk=>hyp h' λb o q=>hk b o (keep b o q).1 (keep b o q).2) hS λout a1 a2=>⟨_,rfl,?_⟩) (args_list_sort _)))
 refine wpAny_pure ⟨_,rfl,?_⟩
 have:=h out a1 a2
 unfold sortedAll at this
 rw [hh] at this
 exact this
end
end L2
namespace L2
open PySem PySem.Spec PyProof.Rows PySem.SeqAt PySem.W
noncomputable def i7 (h:Heap):Value->Option Value
 | .ref a=>match h.get? a with
  | some o=>match o.data with
   | .seq its _=>its[0]?
   | _=>none
  | none=>none
 | _=>none
theorem TuI.fst {h:Heap}{v:Value}{l:List Int} (t:TuI h v l):i7 h v=none\/∃ n t,i7 h v=some (.int n t):=by
 obtain⟨a,its,rfl,⟨o,ho,hc,n,hd⟩,hi⟩:=t
 simp only [i7,ho,hd]
 by_cases hz:0 < its.size
 ·obtain⟨t,e⟩:=fW hi 0 (by simpa using hz)
  exact .inr ⟨_,t,by rw [Array.getElem?_eq_getElem hz];rw [Array.getElem_toList] at e;rw [e]⟩
 ·exact .inl (Array.getElem?_eq_none (by lia))
section
variable {prog:Program}{w:World}{A:Around}{E:Value->Shared->Prop}{s:Shared}
theorem sf {v:Value}{l:List Int} (t:TuI s.heap v l) {Q:Value->Shared->Prop} (h:Q (.type "tuple") s):wpAny (model prog w) A (typeOf v) Q E s:=by
 obtain⟨a,its,rfl,⟨o,ho,hc,n,hd⟩,hi⟩:=t
 refine Looks.here (show Looks (model prog w) s.heap (typeOf (.ref a)) o.cls from (Looks.ld ho).andThen .now) ?_
 rw [hc];exact h
theorem sU {v:Value}{l:List Int} (t:TuI s.heap v l) {Q:Option Value->Shared->Prop} (h:Q (i7 s.heap v) s):wpAny (model prog w) A (firstOfTuple' v) Q E s:=by
 rw [kas_first_eq]
 refine wpAny_bind (sf t ?_)
 obtain⟨a,its,rfl,⟨o,ho,hc,n,hd⟩,hi⟩:=t
 rw [if_neg (by simp)]
 simp only [i7,ho,hd] at h
 exact wpAny_bind (listItems_at ho hd (wpAny_pure h))
theorem eQ:∀ {vs:List Value}{Q:List (Option Value)->Shared->Prop},(∀ v ∈ vs,∃ l,TuI s.heap v l)->Q (vs.map (i7 s.heap)) s->wpAny (model prog w) A (vs.mapM firstOfTuple') Q E s
 | [],_,_,h=>by rw [List.mapM_nil];exact wpAny_pure h
 | v::vs,Q,t,h=>by
  rw [List.mapM_cons]
  obtain⟨l,tv⟩:=t v List.mem_cons_self
  refine wpAny_bind (sU tv (wpAny_bind (eQ (Q:=λbs s'=>wpAny (model prog w) A (pure (i7 s.heap v::bs)) Q E s') (λu hu=>t u (List.mem_cons_of_mem _ hu)) (wpAny_pure h))))
theorem qT {x y:Value}{l m:List Int} (hx:TuI s.heap x l) (hy:TuI s.heap y m) {Q:Bool->Shared->Prop} (h:Q (OI.blt (tuI s.heap x) (tuI s.heap y)) s):Q (bD l m) s:=by
 have h':Q (bD (tuI s.heap x) (tuI s.heap y)) s:=h
 rw [hx.is,hy.is] at h';exact h'
theorem jY {vs:List Value} (t:∀ v ∈ vs,∃ l,TuI s.heap v l) (hu:A.units < cLine):∃ κ,(2<=vs.length->∀ (Q':SortKind->Shared->Prop) E',Q' κ s->wpAny (model prog w) A (keyKind' vs.toArray) Q' E' s)/\
  Cm prog w A s κ OI (λp=>tuI s.heap p.1) (λp=>∃ l,TuI s.heap p.1 l):=by
 by_cases c1:(vs.map (i7 s.heap)).toArray.all (·.isSome)=true
 ·refine⟨tuples' true,λh2 Q' E' hq=>?_,λx y ⟨l,hx⟩ ⟨m,hy⟩ Q E h=>hx.tups hy (qT hx hy h)⟩
  rw [keyKind'_eq,List.mapM_toArray,map_eq_pure_bind]
  refine wpAny_bind (wpAny_bind (eQ t (wpAny_pure ?_)))
  rw [if_pos c1]
  refine wpAny_bind (wpAny_rule ?_)
  have hf:∀ v ∈ (vs.map (i7 s.heap)).filterMap id,∃ n t,v=.int n t:=λv hv=>by
   obtain⟨o,ho,e⟩:=List.mem_filterMap.mp hv
   obtain⟨u,hu,rfl⟩:=List.mem_map.mp ho
   obtain⟨l,tu⟩:=t u hu
   rcases tu.fst with q | ⟨n,t',q⟩
   ·rw [q] at e;cases e
   ·rw [q] at e;exact⟨n,t',(Option.some.inj e).symm⟩
  have hl:∃ f fr,(vs.map (i7 s.heap)).filterMap id=f::fr:=by
   match vs,h2,c1 with
   | v::vs,_,c1=>
    simp only [List.map_cons,List.all_toArray,List.all_cons,Bool.and_eq_true] at c1
    obtain⟨u,hu⟩:=Option.isSome_iff_exists.mp c1.1
    exact⟨u,(vs.map (i7 s.heap)).filterMap id,by rw [List.map_cons,List.filterMap_cons,hu];rfl⟩
  obtain⟨f,fr,e⟩:=hl
  have e2:(vs.map (i7 s.heap)).toArray.filterMap id=(f::fr).toArray:=by rw [<-e];simp
  rw [e2,oneTypeOnly'_eq,List.mapM_toArray,map_eq_pure_bind]
  refine wpAny_bind (wpAny_bind (wpAny_bind (kas_mapM (r:=.type "int") _ (λv hv Q'' hq'=>?_) (wpAny_pure ?_))))
  ·rw [<-e] at hv
   obtain⟨n,t',rfl⟩:=hf v hv
   exact wpAny_pure hq'
  ·have h0:(List.map (λ_=>Value.type "int") (f::fr)).toArray[0]?=some (.type "int"):=by simp
   rw [h0]
   have hall:((List.map (λ_=>Value.type "int") (f::fr)).toArray.all λx=>x==.type "int")=true:=by
    simp only [List.all_toArray,List.all_map,List.all_eq_true];intro _ _;rfl
   simp only [hall,if_true]
   exact wpAny_pure (wpAny_pure hq)
 ·by_cases c2:((vs.map (i7 s.heap)).toArray[0]?.bind id).isSome=true
  ·refine⟨general',λh2 Q' E' hq=>?_,λx y ⟨l,hx⟩ ⟨m,hy⟩ Q E h=>hx.one hy hu (qT hx hy h) false⟩
   rw [keyKind'_eq,List.mapM_toArray,map_eq_pure_bind]
   refine wpAny_bind (wpAny_bind (eQ t (wpAny_pure ?_)))
   rw [if_neg c1,if_pos c2]
   exact wpAny_pure hq
  ·refine⟨oneType',λh2 Q' E' hq=>?_,λx y ⟨l,hx⟩ ⟨m,hy⟩ Q E h=>hx.one hy hu (qT hx hy h) true⟩
   rw [keyKind'_eq,List.mapM_toArray,map_eq_pure_bind]
   refine wpAny_bind (wpAny_bind (eQ t (wpAny_pure ?_)))
   rw [if_neg c1,if_neg c2,oneTypeOnly'_eq,List.mapM_toArray,map_eq_pure_bind]
   refine wpAny_bind (wpAny_bind (wpAny_bind (kas_mapM (r:=.type "tuple") _ (λv hv Q'' hq'=>?_) (wpAny_pure ?_))))
   ·obtain⟨l,tv⟩:=t v hv
    exact sf tv hq'
   ·obtain⟨v,vs,rfl⟩:∃ v r,vs=v::r:=by
     match vs,h2 with
     | v::r,_=>exact⟨v,r,rfl⟩
    have h0:(List.map (λ_=>Value.type "tuple") (v::vs)).toArray[0]?=some (.type "tuple"):=by simp
    rw [h0]
    have hall:((List.map (λ_=>Value.type "tuple") (v::vs)).toArray.all λx=>x==.type "tuple")=true:=by
     simp only [List.all_toArray,List.all_map,List.all_eq_true];intro _ _;rfl
    simp only [hall,if_true]
    exact wpAny_pure (wpAny_pure hq)
theorem pE {vs:List Value}{ns:List Int} (t:IntsAre vs ns):(2<=vs.length->∀ (Q':SortKind->Shared->Prop) E',Q' oneType' s->wpAny (model prog w) A (keyKind' vs.toArray) Q' E' s)/\
  Cm prog w A s oneType' OI (λp=>[aU p.1]) (λp=>∃ n t,p.1=.int n t):=by
 refine⟨λh2 Q' E' hq=>?_,λx y ⟨n,t,hx⟩ ⟨m,u,hy⟩ Q E h=>?_⟩
 ·match vs,h2,t with
  | v1::v2::r,_,t=>rw [keyKind_ints t];exact wpAny_pure hq
 ·rw [keyLt'_oneType,hx,hy]
  refine oneLt_int ?_
  have e:OI.blt [aU x.1] [aU y.1]=decide (n < m):=by
   rw [hx,hy]
   show (if n=m then bD [] [] else decide (n < m))=_
   by_cases q:n=m
   ·subst q;simp [bD]
   ·rw [if_neg q]
  rw [e] at h;exact h
end
noncomputable def pS (x:List Int):List (List Int)->List (List Int)
 | []=>[x]
 | y::ys=>if bD y x=true then y::pS x ys else x::y::ys
noncomputable def aS:List (List Int)->List (List Int)
 | []=>[]
 | x::xs=>pS x (aS xs)
theorem iF (x:List Int):∀ ys,(pS x ys).Perm (x::ys)
 | []=>List.Perm.refl _
 | y::ys=>by
  unfold pS
  split
  ·exact (List.Perm.cons y (iF x ys)).trans (List.Perm.swap x y ys)
  ·exact List.Perm.refl _
theorem bf:∀ xs,(aS xs).Perm xs
 | []=>List.Perm.refl _
 | x::xs=>(iF x _).trans (List.Perm.cons x (bf xs))
noncomputable def leL (a b:List Int):Prop:=bD b a=false
theorem tJ {a b c:List Int} (h:leL a b) (h':leL b c):leL a c:=KeyOrd.kle_trans (O:=OI) h h'
theorem we {a b:List Int} (h:leL a b) (h':leL b a):a=b:=fC a b h' h
theorem jg (x:List Int):∀ {ys:List (List Int)},ys.Pairwise leL->(pS x ys).Pairwise leL
 | [],_=>by simp [pS]
 | y::ys,h=>by
  unfold pS
  split
  ·rename_i hxy
   refine List.pairwise_cons.mpr ⟨λz hz=>?_,jg x (List.pairwise_cons.mp h).2⟩
   rcases List.mem_cons.mp ((iF x ys).mem_iff.mp hz) with rfl | hz
   ·exact KeyOrd.klt_asymm (O:=OI) hxy
   ·exact (List.pairwise_cons.mp h).1 z hz
  ·rename_i hxy
   rw [Bool.not_eq_true] at hxy
   refine List.pairwise_cons.mpr ⟨λz hz=>?_,h⟩
   rcases List.mem_cons.mp hz with rfl | hz
   ·exact hxy
   ·exact tJ hxy ((List.pairwise_cons.mp h).1 z hz)
theorem bZ:∀ xs,(aS xs).Pairwise leL
 | []=>List.Pairwise.nil
 | x::xs=>jg x (bZ xs)
theorem cF {xs ys:List (List Int)} (p:xs.Perm ys) (h1:xs.Pairwise leL) (h2:ys.Pairwise leL):xs=ys:=
 List.Perm.eq_of_pairwise (λa b _ _ h1 h2=>we h1 h2) h1 h2 p
end L2
namespace L2
open PySem PySem.Spec PyProof.Rows PySem.SeqAt PySem.W
noncomputable def gH:List D->Option (List (List Int))
 | []=>some []
 | .tup l::ds=>(aH l).bind λns=>(gH ds).map λr=>ns::r
 | _=>none
noncomputable def ai (l:List Int):D:=.tup (l.map D.int)
theorem fI:∀ {ds:List D}{ls:List (List Int)},gH ds=some ls->ds=ls.map ai
 | [],_,h=>by cases h;rfl
 | .tup l::ds,_,h=>by
  simp only [gH,Option.bind_eq_some_iff,Option.map_eq_some_iff] at h
  obtain⟨ns,e1,r,e2,rfl⟩:=h
  rw [fI e2,cw e1];rfl
 | .non::_,_,h=>by cases h
 | .bl _::_,_,h=>by cases h
 | .int _::_,_,h=>by cases h
 | .str _::_,_,h=>by cases h
 | .ty _::_,_,h=>by cases h
 | .dct::_,_,h=>by cases h
 | .scr _::_,_,h=>by cases h
 | .lst _::_,_,h=>by cases h
theorem gE:∀ (ls:List (List Int)),gH (ls.map ai)=some ls
 | []=>rfl
 | l::ls=>by
  have:aH (l.map D.int)=some l:=by
   induction l with
   | nil=>rfl
   | cons a l ih=>simp [aH,ih]
  simp only [List.map_cons,ai,gH,this,Option.bind_some]
  rw [show List.map ai ls=List.map ai ls from rfl,gE ls];rfl
noncomputable def pF (ds:List D):Option (List D):=match aH ds with
 | some ns=>some ((lx ns).map D.int)
 | none=>(gH ds).map λls=>(aS ls).map ai
noncomputable def j9 (st:Sto):List W->Option (List D)
 | [w]=>(lsD st w).bind λds=>if ds.length<=64 then pF ds else none
 | _=>none
section
variable {K:PySem.W.Frag}{X:Cx}{pins:List (Addr×Obj)}{σ:St}{H:Hp}{s:Shared}{φ:List Addr}
noncomputable def toV:Value->V
 | .ref a=>.ref a
 | _=>.non
theorem w6 {l:List Int}{v:V}{u:Value} (I:Inv X pins σ H s) (r:Rl X.K H φ (ai l) v) (q:az v u):TuI s.heap u l/\v=toV u/\az (toV u) u:=by
 obtain⟨a,vs,rfl,h1,h2⟩:=r
 obtain⟨its,rv,p,_⟩:=I.tuple (SqT.of h1)
 have e:=h2.ints
 subst e
 have e:u=.ref a:=q
 subst e
 exact⟨⟨a,its.toArray,rfl,p,by simpa using eP rv⟩,rfl,rfl⟩
theorem g8 (I:Inv X pins σ H s):∀ {ls:List (List Int)}{vs:List V}{us:List Value},Rls X.K H φ (ls.map ai) vs->ay vs us->
  us.map (tuI s.heap)=ls/\∀ u ∈ us,TuI s.heap u (tuI s.heap u)/\Rl X.K H φ (ai (tuI s.heap u)) (toV u)/\az (toV u) u
 | [],_,us,h,q=>by cases h;cases q;exact⟨rfl,λu hu=>by cases hu⟩
 | l::ls,_,us,h,q=>by
  obtain⟨v,r,rfl,h1,h2⟩:=h
  cases q with
  | cons q1 q2=>
   rename_i u us
   obtain⟨t,e,e'⟩:=w6 I h1 q1
   obtain⟨i1,i2⟩:=g8 I h2 q2
   refine⟨by rw [List.map_cons,i1,t.is],λx hx=>?_⟩
   rcases List.mem_cons.mp hx with rfl | hx
   ·rw [t.is,<-e];exact⟨t,h1,q1⟩
   ·exact i2 x hx
theorem gY:∀ {us:List Value},(∀ u ∈ us,TuI s.heap u (tuI s.heap u)/\Rl K H φ (ai (tuI s.heap u)) (toV u)/\az (toV u) u)->Rls K H φ (us.map λu=>ai (tuI s.heap u)) (us.map toV)/\ay (us.map toV) us
 | [],_=>⟨rfl,.nil⟩
 | u::us,h=>by
  have h1:=h u List.mem_cons_self
  have h2:=gY λx hx=>h x (List.mem_cons_of_mem _ hx)
  exact⟨⟨_,_,rfl,h1.2.1,h2.1⟩,.cons h1.2.2 h2.2⟩
theorem fj:∀ {us:List Value}{l:List Int},IntsAre us l->∀ u ∈ us,∃ n t,u=.int n t
 | _,_,.nil,u,hu=>by cases hu
 | _,_,.cons n t h,u,hu=>by
  rcases List.mem_cons.mp hu with rfl | hu
  ·exact⟨n,t,rfl⟩
  ·exact fj h u hu
theorem iU:∀ {us:List Value},(∀ u ∈ us,∃ n t,u=.int n t)->IntsAre us (us.map aU)
 | [],_=>.nil
 | u::us,h=>by
  obtain⟨n,t,rfl⟩:=h u List.mem_cons_self
  exact .cons n t (iU λx hx=>h x (List.mem_cons_of_mem _ hx))
theorem uH {k:Nat} (hr:bu k X.A) (hK:X.K=K:=by rfl):yt K X (.builtin "sorted") j9:=by
 subst hK
 refine⟨λst ws d h=>?_⟩
 unfold j9 at h
 split at h
 next w=>
  simp only [Option.bind_eq_some_iff] at h
  obtain⟨ds,e1,h⟩:=h
  split at h
  ·rename_i hl
   intro pins s σ H xs us Q I rv q
   obtain⟨φ,S,⟨v,r,rfl,r1,rfl⟩,q⟩:=q
   obtain⟨a,vs,rfl,h1,h2⟩:=iM S r1 e1
   obtain⟨u,rfl,ru⟩:=g9 rv
   cases ru
   obtain⟨its,rv',pl,hz⟩:=I.list (.inl h1)
   have hlen:its.length<=64:=by
    have:=rv'.length
    have:=h2.length
    lia
   have hun:X.A.in1.in1.units < cLine:=by
    have:=hr.un
    show X.A.units+1+1 < cLine
    lia
   have hn:H (s.heap.objs.size+1)=none:=I.hok.fresh (Nat.le_succ _)
   have lay:∀ (out:List Value) (vs':List V),ay vs' out->out.length<=64->Inv X pins σ (upd H (s.heap.objs.size+1) (.lst vs')) { s with heap:=sortedAll s.heap its out.toArray }:=λout vs' hv ho=>by
    obtain⟨ep,he⟩:=sortedAll_at s.heap its out.toArray
    refine I.laid (t':=s.toks) (a:=s.heap.objs.size+1) (o:=.lst vs') (λb o q=>sortedAll_old q) (Nat.le_succ _) ⟨?_,out,ep,hv,by simpa [seqObj] using he⟩
    rw [hv.length];exact eJ (by lia)
   unfold pF at h
   cases hi:aH ds with
   | some ns=>
    rw [hi] at h
    cases h
    cases cw hi
    cases h2.ints
    have hI:=eP rv'
    refine jW (O:=OI) (rk:=λp=>[aU p.1]) (S:=λp=>∃ n t,p.1=.int n t) pl.isList hlen (λh' _=>⟨oneType',pE (s:={ s with heap:=h' }) hI⟩) (λv hv=>fj hI v hv) λout a1 a2=>?_
    have ho:∀ u ∈ out,∃ n t,u=.int n t:=λu hu=>fj hI u (a1.mem_iff.mp hu)
    have hp:(out.map aU).Perm ns:=by
     have:=a1.map aU
     rw [iq hI] at this;exact this
    have hs:(out.map aU).Pairwise (·<=·):=by
     rw [List.pairwise_map]
     refine a2.imp λ{x y} q=>?_
     have q':bD [aU y] [aU x]=false:=q
     by_cases e:aU y=aU x
     ·lia
     ·have:bD [aU y] [aU x]=decide (aU y < aU x):=by show (if _ then _ else _)=_;rw [if_neg e]
      rw [this,decide_eq_false_iff_not] at q';lia
    have e:out.map aU=lx ns:=jm (hp.trans (jp ns).symm) hs (gu ns)
    have hv:=eL (iU ho)
    rw [e] at hv
    exact⟨.ref _,_,lay out _ hv (by rw [a1.length_eq];exact hlen),rfl,q _ _ H (br.refl H) hn (Rls.of_ints _)⟩
   | none=>
    rw [hi] at h
    obtain⟨ls,hls,rfl⟩:=Option.map_eq_some_iff.mp h
    cases fI hls
    obtain⟨m1,m2⟩:=g8 I h2 rv'
    refine jW (O:=OI) (rk:=λp=>tuI s.heap p.1) (S:=λp=>∃ l,TuI s.heap p.1 l) pl.isList hlen (λh' hk=>?_) (λv hv=>⟨_,(m2 v hv).1⟩) λout a1 a2=>?_
    ·obtain⟨κ,k1,k2⟩:=jY (prog:=X.prog) (w:=X.w) (s:={ s with heap:=h' }) (vs:=its) (λv hv=>⟨_,(m2 v hv).1.fit hk⟩) hun
     refine⟨κ,k1,λx y ⟨l,hx⟩ ⟨m,hy⟩ Q E hq=>k2 x y ⟨l,hx.fit hk⟩ ⟨m,hy.fit hk⟩ Q E ?_⟩
     have hx':=hx.fit hk
     have hy':=hy.fit hk
     have hq':Q (bD (tuI s.heap x.1) (tuI s.heap y.1)) { s with heap:=h' }:=hq
     show Q (bD (tuI h' x.1) (tuI h' y.1)) { s with heap:=h' }
     rw [hx'.is,hy'.is]
     rw [hx.is,hy.is] at hq'
     exact hq'
    ·have ho:=λu hu=>m2 u (a1.mem_iff.mp hu)
     obtain⟨b1,b2⟩:=gY (K:=X.K) (H:=H) (φ:=φ) ho
     have hp:(out.map (tuI s.heap)).Perm ls:=by
      have:=a1.map (tuI s.heap)
      rw [m1] at this;exact this
     have hs:(out.map (tuI s.heap)).Pairwise leL:=by
      rw [List.pairwise_map]
      exact a2.imp λ{x y} q=>q
     have e:out.map (tuI s.heap)=aS ls:=cF (hp.trans (bf ls).symm) hs (bZ ls)
     have e2:(out.map λu=>ai (tuI s.heap u))=(aS ls).map ai:=by rw [<-e,List.map_map];rfl
     rw [e2] at b1
     exact⟨.ref _,_,lay out _ b2 (by rw [a1.length_eq];exact hlen),rfl,q _ _ H (br.refl H) hn b1⟩
  ·cases h
 next=>cases h
end
end L2
namespace L2
open PySem PySem.Spec PyProof.Rows
open PySem.AutoSeq1 (wpAny_loadPart')
section
variable {prog:Program}{w:World}{A:Around}{E:Value->Shared->Prop}{s:Shared}{k k2:Bool}
variable {z TI TO i1 i2 l1 l2:Addr}{n:Nat}{xs ys:Array Value}{a b:Value}
end
end L2
namespace L2
open PySem PySem.Spec PyProof.Rows
open PySem.AutoSeq1 (wpAny_loadPart')
section
variable {prog:Program}{w:World}{A:Around}{E:Value->Shared->Prop}{s:Shared}{k k2:Bool}
end
section
variable {K:PySem.W.Frag}{X:Cx}{a b:Expr}{pos:Pos}{af:Af}
end
end L2
namespace L2
open PySem PySem.Spec PyProof.Rows
section
variable {prog:Program}{w:World}{A:Around}{s:Shared}{I l S:Addr}{items:Array Value}{ns:List Int}{kw:List (Str×Value)}{R:Result->Shared->Prop}
variable {E:Value->Shared->Prop}
end
end L2
namespace L2
open PySem PySem.Spec PyProof.Rows
section
variable {K:PySem.W.Frag}{X:Cx}{e a b:Expr}{es:List Expr}{pos:Pos}{f fa fb:Ef}{af:Af}
end
end L2
namespace L2
open PySem PySem.Spec PyProof.Rows
section
variable {K:PySem.W.Frag}{X:Cx}
noncomputable def sS (_:Sto):W->W->Option D
 | .d (.int i),.d (.int j)=>some (.int (Builtin.bitAnd i j))
 | _,_=>none
theorem vV:OpD K X (binaryOp .BitAnd) sS:=on (λ_=>rfl) (λ_ _=>rfl) λi j=>zb.imp λvx vy H Q h=>⟨i,j,h.1,h.2.1,h.2.2⟩
end
end L2
namespace L2
open PySem PySem.Spec PyProof.Rows
section
variable {K:PySem.W.Frag}{X:Cx}{pos:Pos}{a b:Expr}{af:Af}
end
end L2
namespace L2
open PySem PySem.Spec PyProof.Rows
noncomputable def eI (a b:Ef):Ef
 | env,st=>(a env st).bind λx=>(b env x.2).bind λy=>match x.1,y.1 with
 | .h n,.d (.int i)=>(match y.2[n]? with
  | some (.n ws)=>(atI ws i).map λw=>(w,y.2)
  | _=>none)
 | _,_=>none
noncomputable def re (a:Af):Ef
 | env,st=>(a env st).bind λr=>if r.1.length<=1000 then some (.h r.2.length,r.2++[.n r.1]) else none
noncomputable def hW (o i v:Ef):Sf
 | env,st=>(v env st).bind λrv=>(o env rv.2).bind λro=>(i env ro.2).bind λri=>match ro.1,ri.1,rv.1 with
 | .h n,.d (.int k),.d x=>(match ri.2[n]? with
  | some (.n ws)=>(ixN ws.length k).map λj=>.nx env (ri.2.set n (.n (ws.set j (.d x))))
  | _=>none)
 | _,_,_=>none
noncomputable def vH (ds:List D):List W->Option (D×List D)
 | [.d (.int i)]=>(ixN ds.length i).bind λk=>(ds[k]?).bind λd=>if b8 d=true/\-(2 ^ 62)<=i/\i < 2 ^ 62 then some (d,ds.eraseIdx k) else none
 | _=>none
section
variable {K:PySem.W.Frag}{X:Cx}{pos:Pos}{e a b c:Expr}{es:List Expr}{f fa fb:Ef}{af:Af}
theorem Rws.get {H:Hp}{φ:List Addr}:∀ {ds:List W}{vs:List V},Rws K H φ ds vs->∀ {i:Nat}{d:W},ds[i]?=some d->∃ v,vs[i]?=some v/\Rw K H φ d v
 | [],_,h,i,d,e=>by simp at e
 | d::ds,_,h,i,e,q=>by
  obtain⟨v,r,rfl,h1,h2⟩:=h
  cases i with
  | zero=>simp at q;subst q;exact⟨v,rfl,h1⟩
  | succ i=>simpa using Rws.get h2 (i:=i) (d:=e) (by simpa using q)
theorem Rws.set {H:Hp}{φ:List Addr}:∀ {ds:List W}{vs:List V} (n:Nat) {d:W}{v:V},Rws K H φ ds vs->Rw K H φ d v->Rws K H φ (ds.set n d) (vs.set n v)
 | [],_,_,_,_,h,_=>by cases h;exact rfl
 | e::ds,_,0,d,v,h,hd=>by
  obtain⟨u,r,rfl,h1,h2⟩:=h
  exact⟨v,r,rfl,hd,h2⟩
 | e::ds,_,n+1,d,v,h,hd=>by
  obtain⟨u,r,rfl,h1,h2⟩:=h
  exact⟨u,_,rfl,h1,Rws.set n h2 hd⟩
theorem Rws.mem {H:Hp}{φ:List Addr}:∀ {ds:List W}{vs:List V},Rws K H φ ds vs->∀ {m:Nat},W.h m ∈ ds->m < φ.length
 | [],_,_,m,hm=>nomatch hm
 | d::ds,_,h,m,hm=>by
  obtain⟨v,r,rfl,h1,h2⟩:=h
  rcases List.mem_cons.mp hm with z | z
  ·subst z
   obtain⟨a,e,_⟩:=h1
   exact (List.getElem?_eq_some_iff.mp e).1
  ·exact Rws.mem h2 z
theorem Sr.atn {H:Hp}{φ:List Addr}{st:Sto} (S:Sr K H φ st) {n:Nat}{p:Addr}{ws:List W} (e1:φ[n]?=some p) (e2:st[n]?=some (.n ws)):∃ vs,H p=some (.lst vs)/\Rws K H φ ws vs/\∀ m,W.h m ∈ ws->m < n:=S.at_ n p _ e1 e2
theorem wy {H:Hp}{φ:List Addr}{ds:List W}{vs:List V}{i:Int}{d:W} (r:Rws K H φ ds vs) (e:atI ds i=some d):∃ v,atI vs i=some v/\Rw K H φ d v:=by
 unfold atI at e ⊢
 rw [<-r.length]
 obtain⟨j,e1,e2⟩:=Option.bind_eq_some_iff.mp e
 obtain⟨v,ev,rv⟩:=r.get e2
 exact⟨v,by rw [e1];exact ev,rv⟩
theorem di (ha:IE K X a fa) (hb:IE K X b fb) (hs:i5 b=true:=by rfl) (hK:X.K=K:=by rfl):IE K X (.Subscript a b pos) (eI fa fb):=by
 subst hK
 refine⟨λenv st r hr=>?_⟩
 simp only [eI,Option.bind_eq_some_iff] at hr
 obtain⟨⟨x,s1⟩,hx,⟨y,s2⟩,hy,hr⟩:=hr
 match x,y,hr with
 | .h n,.d (.int i),hr=>
  dsimp only at hr
  split at hr
  ·rename_i ws hws
   obtain⟨w,hw,rfl⟩:=Option.map_eq_some_iff.mp hr
   refine (yd qN (ha.run _ _ _ hx) (hb.run _ _ _ hy) (pz hs)).imp ?_
   rintro σ H Q ⟨φ,hE,hS,q⟩
   refine⟨φ,hE,hS,λv H1 φ1 f1 S1 w1=>⟨φ1,hE.fw hS f1,S1,λu H2 φ2 f2 S2 w2=>?_⟩⟩
   obtain⟨p,ep,rfl⟩:=w1.fw S1 f2
   obtain⟨vs,hv,rl,_⟩:=S2.atn ep hws
   obtain⟨z,ez,rz⟩:=wy rl hw
   exact .inl ⟨p,vs,i,z,rfl,w2,SqL.of hv,ez,q z H2 φ2 (f1.trans f2) S2 rz⟩
  ·cases hr
theorem wL (h:IA K X es af):IE K X (.List es pos) (re af):=by
 refine⟨λenv st r hr=>?_⟩
 simp only [re,Option.bind_eq_some_iff] at hr
 obtain⟨y,hy,hr⟩:=hr
 split at hr
 ·cases hr
  rename_i hl
  refine (uP (h.run _ _ _ hy)).imp ?_
  rintro σ H Q ⟨φ,hE,hS,q⟩
  refine⟨φ,hE,hS,λvs H1 φ1 f1 s1 w1=>?_⟩
  refine⟨by rw [<-w1.length];exact eJ hl,λp hp=>?_⟩
  exact q _ _ (φ1++[p]) (f1.trans (Fw.more hp)) (s1.moreC hp ⟨vs,aP,w1.fw s1 (Fw.more hp),λm hm=>w1.mem hm⟩) ⟨p,by rw [<-s1.len];simp,rfl⟩
 ·cases hr
theorem tR {tpos:Pos} (ho:IE K X a fa) (hi:IE K X b fb) (hv:IE K X e f) (hb:i5 b=true:=by rfl) (hs:swapsWithSole [.Subscript a b tpos] e pos.line X.env=pure false:=by rfl) (hw:swappedStores [.Subscript a b tpos] e X.env=pure none:=by rfl) :
  IS K X (.Assign [.Subscript a b tpos] e pos) (hW fa fb f):=by
 refine⟨λenv st r hr=>?_⟩
 simp only [hW,Option.bind_eq_some_iff] at hr
 obtain⟨⟨rv,s1⟩,ev,⟨ro,s2⟩,eo,⟨ri,s3⟩,ei,hr⟩:=hr
 match ro,ri,rv,hr with
 | .h n,.d (.int k),.d x,hr=>
  dsimp only at hr
  split at hr
  ·rename_i ws hws
   obtain⟨j,ej,rfl⟩:=Option.map_eq_some_iff.mp hr
   refine (qS (hv.run _ _ _ ev) (vf (ho.run _ _ _ eo) (hi.run _ _ _ ei) oT (rf hb)) hs hw (np rfl)).imp ?_
   rintro D σ H ⟨φ,hE,hS,q⟩
   refine⟨φ,hE,hS,λv H1 φ1 f1 s1 w1=>⟨φ1,hE.fw hS f1,s1,λo H2 φ2 f2 s2 w2=>⟨φ2,(hE.fw hS f1).fw s1 f2,s2,λi H3 φ3 f3 s3 w3=>?_⟩⟩⟩
   have e3:=((hE.fw hS f1).fw s1 f2).fw s2 f3
   have w1':=(w1.fw s1 f2).fw s2 f3
   obtain⟨p,ep,rfl⟩:=w2.fw s2 f3
   obtain⟨vs,hp,rl,bd⟩:=s3.atn ep hws
   have w3':i=.int k:=w3
   subst w3'
   obtain⟨f4,s4⟩:=s3.putC (o:=.lst (vs.set j v)) (c:=.n (ws.set j (.d x))) ep λf=>⟨_,aP,(Rws.set j rl w1').fw s3 f,λm hm=>by
    rcases List.mem_or_eq_of_mem_set hm with z | z
    ·exact bd m z
    ·cases z⟩
   refine⟨p,vs,k,j,rfl,rfl,hp,by rw [<-rl.length];exact ej,?_⟩
   exact q _ _ φ3 (((f1.trans f2).trans f3).trans f4) (e3.fw s3 f4) s4
  ·cases hr
theorem Rls.erase {H:Hp}{φ:List Addr}:∀ {ds:List D}{vs:List V} (n:Nat),Rls K H φ ds vs->Rls K H φ (ds.eraseIdx n) (vs.eraseIdx n)
 | [],_,_,h=>by cases h;exact rfl
 | d::ds,_,0,h=>by
  obtain⟨v,r,rfl,h1,h2⟩:=h
  exact h2
 | d::ds,_,n+1,h=>by
  obtain⟨v,r,rfl,h1,h2⟩:=h
  exact⟨v,_,rfl,h1,Rls.erase n h2⟩
theorem zK {apos:Pos} (ho:IE K X a fa) (ha:IA K X (e::es) af) (hbase:attributeBase a "pop" X.env (eval a X.env)=eval a X.env:=by rfl)
  (hall:(e::es).all aA=true:=by rfl) (hfl30:(e::es).length < 30:=by decide) (hline:(apos.endLine==pos.line)=true:=by rfl) (hK:X.K=K:=by rfl) :
  IE K X (.Call (.Attribute a "pop" apos) (e::es) [] pos) (eD vH fa af):=by
 refine qz PySem.F.slot_list_pop PySem.F.type_list_pop vC (λH φ st n ad ds vs ws us y Q S ea eds hv rl rw hy q=>?_) (λds ws y h=>?_) ho ha hbase hall hfl30 hline hK
 ·match ws,hy with
  | [.d (.int i)],hy=>
   simp only [vH,Option.bind_eq_some_iff] at hy
   obtain⟨k,hk,d,hd,hy⟩:=hy
   split at hy
   ·rename_i hl
    cases hy
    obtain⟨v,r,rfl,r1,rfl⟩:=rw
    obtain⟨x,ex,rx⟩:=rl.get hd
    refine⟨ad,vs,i,k,x,rfl,by rw [show v=.int i from r1],hv,by lia,by lia,by rw [<-rl.length];exact (m8 hk).1,ex,q _ _ rx (rl.erase k) λb z=>?_⟩
    obtain⟨z1,z2⟩:=cQ hl.1 rx
    rw [z] at z2
    cases z2
   ·cases hy
 ·match ws,h with
  | [.d (.int i)],h=>
   simp only [vH,Option.bind_eq_some_iff] at h
   obtain⟨k,hk,d,hd,h⟩:=h
   split at h
   ·rename_i hl
    cases h;exact hl.1
   ·cases h
end
end L2
namespace L2
open PySem PySem.Spec PyProof.Rows
noncomputable def ao (m:Nat):List Nat:=(List.range 6).filter λk=>m.testBit k
noncomputable def yB (m k:Nat):Bool:=((ao m).toArray[SetTable.below (ao m).toArray k]?==some k)==m.testBit k
theorem tz:∀ m:Fin 64,∀ k:Fin 6,yB m.1 k.1=true:=by decide +kernel
theorem qw {m k:Nat} (hm:m < 64) (hk:k < 6):((ao m).toArray[SetTable.below (ao m).toArray k]?==some k)=m.testBit k:=eq_of_beq (tz ⟨m,hm⟩ ⟨k,hk⟩)
noncomputable def uI (m k:Nat):Bool:=m.testBit k || (ao (m ||| 1 <<< k)==(ao m).take (SetTable.below (ao m).toArray k)++k::(ao m).drop (SetTable.below (ao m).toArray k))
theorem sW:∀ m:Fin 64,∀ k:Fin 6,uI m.1 k.1=true:=by decide +kernel
theorem qE {m k:Nat} (hm:m < 64) (hk:k < 6) (hb:m.testBit k=false):ao (m ||| 1 <<< k)=(ao m).take (SetTable.below (ao m).toArray k)++k::(ao m).drop (SetTable.below (ao m).toArray k):=by
 have:=sW ⟨m,hm⟩ ⟨k,hk⟩
 unfold uI at this
 rw [show (⟨m,hm⟩:Fin 64).1=m from rfl,show (⟨k,hk⟩:Fin 6).1=k from rfl,hb,Bool.false_or] at this
 exact eq_of_beq this
noncomputable def vz (m k:Nat):Bool:=!m.testBit k || ((ao m)[SetTable.below (ao m).toArray k]?==some k && (ao (m ^^^ 1 <<< k)==(ao m).take (SetTable.below (ao m).toArray k)++(ao m).drop (SetTable.below (ao m).toArray k+1)))
theorem sX:∀ m:Fin 64,∀ k:Fin 6,vz m.1 k.1=true:=by decide +kernel
theorem pY {m k:Nat} (hm:m < 64) (hk:k < 6) (hb:m.testBit k=true):(ao m)[SetTable.below (ao m).toArray k]?=some k/\ao (m ^^^ 1 <<< k)=(ao m).take (SetTable.below (ao m).toArray k)++(ao m).drop (SetTable.below (ao m).toArray k+1):=by
 have:=sX ⟨m,hm⟩ ⟨k,hk⟩
 unfold vz at this
 rw [show (⟨m,hm⟩:Fin 64).1=m from rfl,show (⟨k,hk⟩:Fin 6).1=k from rfl,hb,Bool.not_true,Bool.false_or,Bool.and_eq_true] at this
 exact⟨eq_of_beq this.1,eq_of_beq this.2⟩
noncomputable def gr:List Nat:=[7,15,31]
noncomputable def zq (m mask:Nat):Bool:=SetTable.laid mask 0 0 true true ((ao m).map λ(k:Nat)=>(k:Int)).toArray==some (⟨mask,(ao m).toArray,#[],0,true,0,true⟩,Array.range (ao m).length)
theorem sV:∀ m:Fin 64,(gr.all λq=>zq m.1 q)=true:=by decide +kernel
theorem u4 (mask f mv:Nat) (l p:Bool) (hs:Array Int):SetTable.laid mask f mv l p hs=(SetTable.laid mask 0 0 true true hs).map λx=>({ x.1 with finger:=f,led:=l,moves:=mv,plain:=p },x.2):=by
 unfold SetTable.laid
 cases SetTable.layClean mask hs<;>rfl
theorem si {m mask:Nat} (hm:m < 64) (hq:mask ∈ gr) (f mv:Nat) (l p:Bool):SetTable.laid mask f mv l p ((ao m).map λ(k:Nat)=>(k:Int)).toArray=some (⟨mask,(ao m).toArray,#[],f,l,mv,p⟩,Array.range (ao m).length):=by
 have:=List.all_eq_true.mp (sV ⟨m,hm⟩) mask hq
 rw [u4,eq_of_beq this];rfl
noncomputable def sj (m i:Nat):Bool:=i < (ao m).length.succ && !(SetTable.below (ao m).toArray (if i=0 then 0 else (ao m).getD (i - 1) 0+1)==i) 
theorem qt:∀ m:Fin 64,∀ i:Fin 7,sj m.1 i.1=false:=by decide +kernel
noncomputable def kR (m i:Nat):Nat:=if i=0 then 0 else (ao m).getD (i - 1) 0+1
theorem p9:∀ m:Fin 64,(ao m.1).length<=6:=by decide +kernel
theorem eN {m:Nat} (hm:m < 64):(ao m).length<=6:=p9 ⟨m,hm⟩
theorem wX {m i:Nat} (hm:m < 64) (hi:i<=(ao m).length):SetTable.below (ao m).toArray (kR m i)=i:=by
 have hl:=eN hm
 have:=qt ⟨m,hm⟩ ⟨i,by lia⟩
 unfold sj at this
 have h1:decide (i < (ao m).length.succ)=true:=decide_eq_true (by lia)
 rw [show (⟨m,hm⟩:Fin 64).1=m from rfl,show ((⟨i,by lia⟩:Fin 7)).1=i from rfl,h1,Bool.true_and,Bool.not_eq_false'] at this
 exact eq_of_beq this
noncomputable def sr (m d:Nat):Bool:=m &&& d != 0 || decide ((ao m).length+(ao d).length<=6)
theorem qc:∀ m:Fin 64,∀ d:Fin 64,sr m.1 d.1=true:=by decide +kernel
theorem xv {m d:Nat} (hm:m < 64) (hd:d < 64) (h:m &&& d=0):(ao m).length+(ao d).length<=6:=by
 have:=qc ⟨m,hm⟩ ⟨d,hd⟩
 unfold sr at this
 rw [show (⟨m,hm⟩:Fin 64).1=m from rfl,show (⟨d,hd⟩:Fin 64).1=d from rfl,h] at this
 simpa using this
theorem kc {m k:Nat}:k ∈ ao m↔k < 6/\m.testBit k=true:=by
 unfold ao;rw [List.mem_filter,List.mem_range]
theorem rE {m k:Nat} (h:k ∈ ao m):k < 6:=(kc.mp h).1
theorem nc {m k:Nat} (hm:m < 64) (hk:k < 6):m ||| 1 <<< k < 64:=Nat.or_lt_two_pow (n:=6) hm (by
 rw [Nat.one_shiftLeft];exact Nat.pow_lt_pow_right (by decide) hk)
theorem oa {m k:Nat} (hm:m < 64) (hk:k < 6):m ^^^ 1 <<< k < 64:=Nat.xor_lt_two_pow (n:=6) hm (by
 rw [Nat.one_shiftLeft];exact Nat.pow_lt_pow_right (by decide) hk)
theorem eG {k j:Nat}:(1 <<< k).testBit j=decide (k=j):=by rw [Nat.one_shiftLeft,Nat.testBit_two_pow]
noncomputable def aB (m:Nat) (f:Nat->Tok):Array (Int×Value):=((ao m).map λ(k:Nat)=>((k:Int),Value.int k (f k))).toArray
theorem aB.size (m:Nat) (f:Nat->Tok):(aB m f).size=(ao m).length:=by simp [aB]
theorem aB.toList (m:Nat) (f:Nat->Tok):(aB m f).toList=(ao m).map λ(k:Nat)=>((k:Int),Value.int k (f k)):=by simp [aB]
theorem aB.hashes (m:Nat) (f:Nat->Tok):(aB m f).map (·.1)=((ao m).map λ(k:Nat)=>(k:Int)).toArray:=by
 simp [aB,List.map_map,Function.comp_def]
structure dh (b:Bool) (t:SetTable) (m d:Nat):Prop where
 msk:t.mask ∈ gr
 pl:t.place=(ao m).toArray
 du:t.dummies=(ao d).toArray
 led:t.led=!b
 plain:t.plain=true
section
variable {b:Bool}{t:SetTable}{m d k:Nat}
theorem dh.fits (T:dh b t m d) (hm:m < 64) (hd:d < 64) (h:m &&& d=0) (f:Nat->Tok):t.fits (aB m f).size=true:=by
 have:=xv hm hd h
 have hk:=T.msk
 have h7:7<=t.mask:=by
  have hk:t.mask=7\/t.mask=15\/t.mask=31:=by simpa [gr] using hk
  lia
 simp only [SetTable.fits,SetTable.fill,T.pl,T.du,aB.size,List.size_toArray,Bool.and_eq_true,beq_iff_eq,decide_eq_true_eq,true_and]
 lia
theorem pW {k mask:Nat} (hk:k < 6) (hq:mask ∈ gr):SetTable.bits (k:Int) % (mask+1)=k:=by
 have hq:mask=7\/mask=15\/mask=31:=by simpa [gr] using hq
 unfold SetTable.bits
 have e:((k:Int) % (2 ^ 64:Int)).toNat=k:=by lia
 rw [e]
 rcases hq with rfl | rfl | rfl<;>lia
theorem dh.slot (T:dh b t m d) (hm:m < 64) (hd:d < 64) (hk:k < 6) (h1:m.testBit k=false) (h2:d.testBit k=false):t.slot k=.empty:=by
 unfold SetTable.slot SetTable.has
 dsimp only
 rw [T.pl,T.du,qw hm hk,qw hd hk,h1,h2]
 rfl
theorem dh.free (T:dh b t m d) (hm:m < 64) (hd:d < 64) (hk:k < 6) (h1:m.testBit k=false) (h2:d.testBit k=false):t.freeSlot (k:Int)=some (k,false):=by
 have e:t.probe (λ_=>(k:Int)+1) k (t.probeStart k)=some (.empty k none):=by
  unfold SetTable.probe
  have hf:∃ n,10*SetTable.turns t.mask=n+1:=⟨10*SetTable.turns t.mask - 1,by unfold SetTable.turns;lia⟩
  obtain⟨n,hn⟩:=hf
  rw [hn]
  unfold SetTable.probe.go SetTable.probeStart
  dsimp only
  rw [pW hk T.msk,T.slot hm hd hk h1 h2]
 unfold SetTable.freeSlot
 rw [e];rfl
theorem aB.ins (f:Nat->Tok) (tk:Tok) (hm:m < 64) (hk:k < 6) (h1:m.testBit k=false):SetTable.insertAt (aB m f) (SetTable.below (ao m).toArray k) ((k:Int),Value.int k tk)=aB (m ||| 1 <<< k) (λj=>if j=k then tk else f j):=by
 apply Array.toList_inj.mp
 rw [SetTable.toList_insertAt,aB.toList,aB.toList,qE hm hk h1,List.map_append,List.map_cons,<-List.map_take,<-List.map_drop]
 have hn:∀ j ∈ ao m,j≠k:=λj hj e=>by
  rw [e,kc] at hj
  rw [hj.2] at h1;cases h1
 congr 1
 ·exact List.map_congr_left λj hj=>by rw [if_neg (hn j (List.mem_of_mem_take hj))]
 ·rw [if_pos rfl]
  congr 1
  exact List.map_congr_left λj hj=>by rw [if_neg (hn j (List.mem_of_mem_drop hj))]
theorem dh.put (T:dh b t m d) (hm:m < 64) (hk:k < 6) (h1:m.testBit k=false) (hd:d < 64) (h2:d.testBit k=false):dh b (t.put k).1 (m ||| 1 <<< k) d/\(t.put k).2=SetTable.below (ao m).toArray k:=by
 unfold SetTable.put
 dsimp only
 have hh:SetTable.has t.dummies k=false:=by unfold SetTable.has;rw [T.du,qw hd hk,h2]
 rw [hh]
 refine⟨⟨T.msk,?_,T.du,T.led,T.plain⟩,by rw [T.pl]⟩
 apply Array.toList_inj.mp
 show (SetTable.insertAt t.place (SetTable.below t.place k) k).toList=_
 rw [SetTable.toList_insertAt,T.pl,qE hm hk h1]
theorem rM (h:m &&& d=0) (h2:d.testBit k=false):(m ||| 1 <<< k) &&& d=0:=by
 apply Nat.eq_of_testBit_eq
 intro j
 have:=congrArg (λx=>x.testBit j) h
 simp only [Nat.testBit_and,Nat.zero_testBit] at this
 rw [Nat.testBit_and,Nat.testBit_or,eG,Nat.zero_testBit]
 by_cases e:k=j
 ·subst e;rw [h2,Bool.and_false]
 ·rw [decide_eq_false e,Bool.or_false,this]
theorem dh.lay (T:dh b t m d) (hm:m < 64) (hk:k < 6) (h1:m.testBit k=false) (hd:d < 64) (h2:d.testBit k=false) (h:m &&& d=0) (f:Nat->Tok) (tk:Tok) :
  layNew t (aB m f) k (.int k tk)=(aB (m ||| 1 <<< k) (λj=>if j=k then tk else f j),(t.put k).1,false,false):=by
 have T':=T.put hm hk h1 hd h2
 have hf:=T'.1.fits (nc hm hk) hd (rM h h2) (λj=>if j=k then tk else f j)
 unfold layNew
 rw [T.free hm hd hk h1 h2]
 dsimp only
 rw [T'.2,aB.ins f tk hm hk h1]
 unfold SetTable.orStandIn
 rw [hf];rfl
theorem gQ {n:Nat} (h:n < 32):SetTable.sizeAbove n - 1 ∈ gr/\SetTable.sizeAbove n<=32:=by
 have:∀ n:Fin 32,SetTable.sizeAbove n.1 - 1 ∈ gr/\SetTable.sizeAbove n.1<=32:=by decide +kernel
 exact this ⟨n,h⟩
theorem sB (n:Nat):coversAll (Array.range n) n=true:=by
 unfold coversAll
 rw [Array.toList_range]
 exact List.isPerm_iff.mpr (List.Perm.refl _)
theorem il {α:Type} (es:Array α):(Array.range es.size).filterMap (es[·]?)=es:=by
 apply Array.toList_inj.mp
 rw [Array.toList_filterMap,Array.toList_range]
 exact filterMap_getElem?_range es
theorem dh.relaid (T:dh b t m d) (hm:m < 64) {n:Nat} (hn:n < 32):∃ t',dh b t' m 0/\t.relaid ((ao m).map λ(k:Nat)=>(k:Int)).toArray n=some (t',Array.range (ao m).length):=by
 unfold SetTable.relaid
 rw [si hm (gQ hn).1]
 refine⟨_,?_,rfl⟩
 exact⟨(gQ hn).1,rfl,by simp [ao],T.led,T.plain⟩
theorem dh.relayAll (T:dh b t m d) (hm:m < 64) (f:Nat->Tok) {n:Nat} (hn:n < 32):∃ t',dh b t' m 0/\relayAll t (aB m f) n=(aB m f,t',false):=by
 obtain⟨t',T',e⟩:=T.relaid hm hn
 refine⟨t',T',?_⟩
 unfold PySem.relayAll
 rw [aB.hashes,e]
 dsimp only
 have h0:m &&& 0=0:=Nat.and_zero m
 rw [<-aB.size m f,sB,il,T'.fits hm (by decide) h0 f]
 rfl
end
end L2
namespace L2
open PySem PySem.Spec PyProof.Rows
noncomputable def byT (w:World):Bool:=w.params.followText "set-order"
noncomputable def wF (w:World) (o:Obj) (m d:Nat):Prop:=m < 64/\d < 64/\m &&& d=0/\o.ExactSet/\∃ f ep t,o.data=.set (aB m f) ep t/\dh (byT w) t m d
noncomputable def aD (w:World) (h:Heap) (a:Addr) (m d:Nat):Prop:=∃ o,h.get? a=some o/\wF w o m d
theorem qM:∀ k:_root_.Fin 6,hashInt ((k.1:Nat):Int)=(k.1:Int):=by decide +kernel
theorem nM {k:Nat} (hk:k < 6):hashInt (k:Int)=k:=qM ⟨k,hk⟩
section
variable {prog:Program}{w:World}{A:Around}{E:Value->Shared->Prop}{s:Shared}{a:Addr}{m d k:Nat}
theorem aD.type (S:aD w s.heap a m d):s.TypeIs (.ref a) "set":=let ⟨o,ho,_,_,_,hx,_⟩:=S;⟨o,ho,hx.1⟩
theorem aD.at' {h h':Heap} (S:aD w h a m d) (e:∀ o,h.get? a=some o->h'.get? a=some o):aD w h' a m d:=let ⟨o,ho,r⟩:=S;⟨o,e o ho,r⟩
theorem rg (m:Nat) (f:Nat->Tok):ElemsOf (intKind prog w) (aB m f).toList:=by
 intro e he
 rw [aB.toList] at he
 obtain⟨j,hj,rfl⟩:=List.mem_map.mp he
 exact⟨⟨(j:Int),intKind_is _ _ _ _,(nM (rE hj)).symm⟩,rfl⟩
noncomputable def zM (m k:Nat):Bool:=(ao m).findIdx? (λj=>j==k)==(if m.testBit k then some (SetTable.below (ao m).toArray k) else none)
theorem s0:∀ m:_root_.Fin 64,∀ k:_root_.Fin 6,zM m.1 k.1=true:=by decide +kernel
theorem uU (hm:m < 64) (hk:k < 6) (f:Nat->Tok):(aB m f).toList.findIdx? (λe=>(intKind prog w).is (k:Int) e.2)=(if m.testBit k then some (SetTable.below (ao m).toArray k) else none):=by
 rw [<-eq_of_beq (s0 ⟨m,hm⟩ ⟨k,hk⟩),aB.toList,List.findIdx?_map]
 congr 1
 funext j
 show (((j:Int))==(k:Int))=(j==k)
 by_cases e:j=k
 ·subst e;simp
 ·rw [beq_false_of_ne e,beq_false_of_ne (by lia)]
theorem kS (hm:m < 64) (f:Nat->Tok):(aB m f).size < scanBound:=by
 have:=eN hm
 rw [aB.size];unfold scanBound;lia
theorem dv {o:Obj}{es:Array (Int×Value)}{ep:Nat}{t t':SetTable}{m' d':Nat}{f':Nat->Tok}{h:Heap} (ho:h.get? a=some o) (hx:o.ExactSet) (hd:o.data=.set es ep t) (h1:m' < 64) (h2:d' < 64) (h3:m' &&& d'=0) (T:dh (byT w) t' m' d') :
  ∃ o',(h.update a (Obj.putSet (aB m' f') t')).get? a=some o'/\o'.ExactSet/\o'.data=.set (aB m' f') (ep+1) t'/\aD w (h.update a (Obj.putSet (aB m' f') t')) a m' d':=by
 have hg:(h.update a (Obj.putSet (aB m' f') t')).get? a=some { o with data:=.set (aB m' f') (ep+1) t' }:=by
  have:=Heap.get?_update_self (Obj.putSet (aB m' f') t') ho (by rw [putSet_of _ t' hd];rfl)
  rw [putSet_of _ t' hd] at this;exact this
 exact⟨_,hg,hx,rfl,_,hg,h1,h2,h3,hx,f',ep+1,t',rfl,T⟩
theorem cP {m:Nat} (hm:m < 64) (f:Nat->Tok):(aB m f).size<=sizeLine:=by
 have:=eN hm
 rw [aB.size,sizeLine_eq];lia
theorem nV (h:m.testBit k=true):m ||| 1 <<< k=m:=by
 apply Nat.eq_of_testBit_eq
 intro j
 rw [Nat.testBit_or,eG]
 by_cases e:k=j
 ·subst e;rw [h];rfl
 ·rw [decide_eq_false e,Bool.or_false]
theorem nu {tk:Tok}{Q:Bool->Shared->Prop} (S:aD w s.heap a m d) (hk:k < 6) (hdk:m.testBit k=true\/d.testBit k=false)
  (h:∀ h' d' b,Heap.SameBut a s.heap h'->aD w h' a (m ||| 1 <<< k) d'->(d'=d\/d'=0)->Q b { s with heap:=h' }) :
  wpAny (model prog w) A (setAddHashed a (.int k tk) (k:Int)) Q E s:=by
 obtain⟨o,ho,hm,hd,h0,hx,f,ep,t,hdat,T⟩:=id S
 have hf:=T.fits hm hd h0 f
 have hel:=rg (prog:=prog) (w:=w) m f
 unfold setAddHashed setAddHashedIn
 refine wpAny_holding (wpAny_bind (wpAny_setState_of ho hdat hf ?_))
 dsimp only
 rw [byScan_of (knd:=intKind prog w) rfl (kS hm f) hel]
 simp only [↓reduceIte]
 unfold setAddByScan
 refine wpAny_bind ?_
 refine wpAny_bind (wpAny_rule ?_)
 have key:(intKind prog w).is (k:Int) (.int k tk)=true:=intKind_is _ _ _ _
 have hh:(k:Int)=(intKind prog w).hash (k:Int):=(nM hk).symm
 refine wpAny_bind ?_
 rw [show setScan a (Value.int k tk) (k:Int) true (aB m f)=setScan a (Value.int k tk) ((intKind prog w).hash (k:Int)) true (aB m f) from by rw [<-hh]]
 refine wpAny_setScan_of (knd:=intKind prog w) key ho hdat hf hel ?_
 rw [uU hm hk f]
 cases hb:m.testBit k with
 | true=>
  rw [if_pos rfl]
  dsimp only
  refine wpAny_pure (wpAny_pure ?_)
  have e:s={ s with heap:=s.heap }:=by cases s;rfl
  have:=h s.heap d false (Heap.SameBut.refl a s.heap) (by rw [nV hb];exact S) (.inl rfl)
  rw [e];exact this
 | false=>
  rw [if_neg Bool.false_ne_true]
  dsimp only
  have hdk':d.testBit k=false:=by
   rcases hdk with z | z
   ·rw [hb] at z;cases z
   ·exact z
  rw [T.lay hm hk hb hd hdk' h0 f tk]
  dsimp only
  have T1:=(T.put hm hk hb hd hdk').1
  have h01:=rM (m:=m) h0 hdk'
  have hm1:=nc hm hk
  refine wpAny_bind (m:=pure ()) (wpAny_pure ?_)
  have hpl:(t.put k).1.plain=true:=T1.plain
  rw [if_pos hpl]
  refine wpAny_bind ?_
  rw [hashByValue_scannable 8 rfl]
  refine wpAny_pure ?_
  dsimp only [plainKind]
  rw [if_pos rfl]
  refine wpAny_bind (wpAny_storeSet_of ho hdat ?_ (cP hm1 _))
  obtain⟨o1,ho1,hx1,hd1,S1⟩:=dv (w:=w) (f':=λj=>if j=k then tk else f j) ho hx hdat hm1 hd h01 T1
  have hsb1:=Heap.SameBut.update s.heap a (Obj.putSet (aB (m ||| 1 <<< k) (λj=>if j=k then tk else f j)) (t.put k).1)
  split
  ·have hn:SetTable.grown (aB (m ||| 1 <<< k) (λj=>if j=k then tk else f j)).size < 32:=by
    have:=eN hm1
    rw [aB.size];unfold SetTable.grown;split<;>lia
   obtain⟨t2,T2,e2⟩:=T1.relayAll hm1 (λj=>if j=k then tk else f j) hn
   rw [e2]
   dsimp only
   refine wpAny_bind (m:=pure ()) (wpAny_pure ?_)
   refine wpAny_bind (wpAny_storeSet_of ho1 hd1 ?_ (cP hm1 _))
   obtain⟨o2,ho2,hx2,hd2,S2⟩:=dv (w:=w) (f':=λj=>if j=k then tk else f j) ho1 hx1 hd1 hm1 (by decide) (Nat.and_zero _) T2
   refine wpAny_pure (wpAny_pure ?_)
   exact h _ 0 true (hsb1.trans (Heap.SameBut.update _ a _)) S2 (.inr rfl)
  ·refine wpAny_pure (wpAny_pure ?_)
   exact h _ d true hsb1 S1 (.inl rfl)
end
end L2
namespace L2
open PySem PySem.Spec PyProof.Rows
theorem aI:Slot "set_iterator" "__next__" "set_iterator.__next__":=
 .of (owner:="set_iterator") (n:="__next__") (by rw [typeLookup_type,builtinLookup_eq_fast];kernel_rfl) (by decide +kernel) (by decide +kernel) (by decide +kernel)
  (by first | exact .inl (by decide +kernel) | exact .inr (by decide +kernel)) (by rw [isSubtype_type];kernel_rfl)
theorem cp:entryFor table "set_iterator.__next__" = some Builtin.«set_iterator.__next__»:=entryFor_of_tree (by kernel_rfl)
theorem lc:Manifest.owners.lookup (String.ofList ['r','o','t','a','r','e','t','i','_','t','e','s'].reverse)=some Manifest.sig_set_iterator:=by kernel_rfl
theorem cH (a:Value):argsOk "set_iterator.__next__" ⟨[a],[]⟩:=by
 unfold argsOk;rw [signature?_of (id:="set_iterator.__next__") (n:=['_','_','t','x','e','n','_','_']) (o:=['r','o','t','a','r','e','t','i','_','t','e','s']) (by kernel_rfl) lc];kernel_rfl
theorem fU:Slot "set_iterator" "__iter__" "set_iterator.__iter__":=
 .of (owner:="set_iterator") (n:="__iter__") (by rw [typeLookup_type,builtinLookup_eq_fast];kernel_rfl) (by decide +kernel) (by decide +kernel) (by decide +kernel)
  (by first | exact .inl (by decide +kernel) | exact .inr (by decide +kernel)) (by rw [isSubtype_type];kernel_rfl)
theorem jC:entryFor table "set_iterator.__iter__" = some Builtin.«dict_keyiterator.__iter__»:=
 entryFor_alias (id':="dict_keyiterator.__iter__") (by kernel_rfl) rfl (by decide +kernel) (by kernel_rfl)
theorem kh (a:Value):argsOk "set_iterator.__iter__" ⟨[a],[]⟩:=by
 unfold argsOk;rw [signature?_of (id:="set_iterator.__iter__") (n:=['_','_','r','e','t','i','_','_']) (o:=['r','o','t','a','r','e','t','i','_','t','e','s']) (by kernel_rfl) lc];kernel_rfl
theorem fK:entryFor table "set.__iter__" = some Builtin.«frozenset.__iter__»:=
 entryFor_alias (id':="frozenset.__iter__") (by kernel_rfl) rfl (by decide +kernel) (by kernel_rfl)
noncomputable def bo (w:World) (h:Heap) (a:Addr) (m d:Nat) (f:Nat->Tok) (ep:Nat):Prop:=m < 64/\d < 64/\m &&& d=0/\∃ o t,h.get? a=some o/\o.ExactSet/\o.data=.set (aB m f) ep t/\dh (byT w) t m d
theorem aD.dat {w:World}{h:Heap}{a:Addr}{m d:Nat} (S:aD w h a m d):∃ f ep,bo w h a m d f ep:=let ⟨o,ho,h1,h2,h3,hx,f,ep,t,hd,T⟩:=S;⟨f,ep,h1,h2,h3,o,t,ho,hx,hd,T⟩
theorem bo.at' {w:World}{h h':Heap}{a:Addr}{m d ep:Nat}{f:Nat->Tok} (S:bo w h a m d f ep) (e:∀ o,h.get? a=some o->h'.get? a=some o):bo w h' a m d f ep:=let ⟨h1,h2,h3,o,t,ho,r⟩:=S;⟨h1,h2,h3,o,t,e o ho,r⟩
noncomputable def fM (w:World) (a:Addr) (m:Nat) (f:Nat->Tok) (ep:Nat):Array (Int×Value):=if byT w then pickOrder (w.params.setOrder a ep) (aB m f) else aB m f
noncomputable def b6 (h:Heap) (it a:Addr) (x:Nat) (i n ep:Nat):Prop:=∃ o,h.get? it=some o/\o.cls=.type "set_iterator"/\o.data=.fields #[.int x 0,.int i 0,.ref a,.int n 0,.int ep 0]
theorem b6.typeIs {s:Shared}{it a:Addr}{x i n ep:Nat} (h:b6 s.heap it a x i n ep):s.TypeIs (.ref it) "set_iterator":=let ⟨o,ho,hc,_⟩:=h;⟨o,ho,hc⟩
theorem b6.at' {h h':Heap}{it a:Addr}{x i n ep:Nat} (z:b6 h it a x i n ep) (e:∀ o,h.get? it=some o->h'.get? it=some o):b6 h' it a x i n ep:=let ⟨o,ho,r⟩:=z;⟨o,e o ho,r⟩
theorem kW {α:Type}:∀ (l:List α) (i:Nat) (h:i < l.length),([l[i]]++l.eraseIdx i).Perm l
 | x::l,0,_=>List.Perm.refl _
 | x::l,i+1,h=>by
  have ih:=kW l i (by simpa using h)
  simp only [List.getElem_cons_succ,List.eraseIdx_cons_succ]
  exact (List.Perm.swap x _ _).trans (List.Perm.cons x ih)
theorem eF {α:Type} (nx:Nat->Nat):∀ (fuel k:Nat) (l:List α) (out:Array α),l.length<=fuel->(pickOrder.go nx fuel k l out).toList.Perm (out.toList++l)
 | 0,k,l,out,h=>by
  have:l=[]:=List.length_eq_zero_iff.mp (Nat.le_zero.mp h)
  subst this
  simp [pickOrder.go]
 | fuel+1,k,[],out,h=>by simp [pickOrder.go]
 | fuel+1,k,x::l,out,h=>by
  unfold pickOrder.go
  have hlt:nx k % (x::l).length < (x::l).length:=Nat.mod_lt _ (by simp)
  rw [List.getElem?_eq_getElem hlt]
  dsimp only
  refine (eF nx fuel (k+1) ((x::l).eraseIdx (nx k % (x::l).length)) _ (by rw [List.length_eraseIdx_of_lt hlt];simp at h ⊢;lia)).trans ?_
  rw [Array.toList_push,List.append_assoc]
  refine List.Perm.append_left _ ?_
  exact kW _ _ hlt
theorem ke (w:World) (a:Addr) (m:Nat) (f:Nat->Tok) (ep:Nat):(fM w a m f ep).toList.Perm (aB m f).toList:=by
 unfold fM
 split
 ·unfold pickOrder
  exact (eF _ _ _ _ _ (by simp)).trans (by simp)
 ·exact List.Perm.refl _
theorem ij (w:World) (a:Addr) (m:Nat) (f:Nat->Tok) (ep:Nat):(fM w a m f ep).size=(ao m).length:=by
 have:=(ke w a m f ep).length_eq
 rw [Array.length_toList,Array.length_toList,aB.size] at this;exact this
section
variable {prog:Program}{w:World}{A:Around}{E:Value->Shared->Prop}{s:Shared}{a it:Addr}{m d ep i:Nat}{f:Nat->Tok}
theorem bo.state {Q:(Array (Int×Value)×Nat×SetTable)->Shared->Prop} (S:bo w s.heap a m d f ep) (h:∀ t,dh (byT w) t m d->Q (aB m f,ep,t) s):wpAny (model prog w) A (setState a) Q E s:=by
 obtain⟨h1,h2,h3,o,t,ho,hx,hd,T⟩:=S
 exact wpAny_setState_of ho hd (T.fits h1 h2 h3 f) (h t T)
theorem cv {Q:Bool->Shared->Prop} (h:Q (byT w) s):wpAny (model prog w) A setsByText Q E s:=by
 unfold setsByText
 exact wpAny_bind (wpAny_askSetting (wpAny_pure h))
theorem bo.walk {Q:Array (Int×Value)->Shared->Prop} (S:bo w s.heap a m d f ep) (h:Q (fM w a m f ep) s):wpAny (model prog w) A (setWalk a) Q E s:=by
 unfold setWalk
 refine wpAny_bind (S.state λt T=>?_)
 dsimp only
 refine wpAny_bind (cv ?_)
 unfold fM at h
 cases hb:byT w with
 | true=>
  rw [hb,if_pos rfl] at h
  rw [if_pos rfl]
  exact wpAny_bind (wpAny_askSetting (wpAny_pure h))
 | false=>
  rw [hb,if_neg Bool.false_ne_true] at h
  rw [if_neg Bool.false_ne_true]
  have hl:t.led=true:=by rw [T.led,hb];rfl
  refine wpAny_ite_split (λz=>?_) λ_=>?_
  ·exfalso
   revert z
   show ¬ ((!t.plain && _)=true)
   rw [T.plain];simp
  ·refine wpAny_bind (Q:=_) ?_
   show wpAny _ _ (if (!t.led && _)=true then _ else _) _ _ _
   rw [hl]
   simp only [Bool.not_true,Bool.false_and,Bool.false_eq_true,↓reduceIte]
   exact wpAny_pure (wpAny_pure h)
theorem va {Q:Value->Shared->Prop} (S:bo w s.heap a m d f ep)
  (hQ:Q (.ref s.heap.objs.size) { s with heap:=s.heap.push { cls:=.type "set_iterator",data:=.fields #[.int 0 0,.int 0 0,.ref a,.int (ao m).length 0,.int ep 0] } }) :
  wpAny (model prog w) A (pyIter (.ref a)) Q E s:=by
 have hT:s.TypeIs (.ref a) "set":=let ⟨_,_,_,o,t,ho,hx,_⟩:=S;⟨o,ho,hx.1⟩
 refine wpAny_pyIter_slot hT PySem.F.slot_set_iter (wpAny_call_entry PySem.F.slot_set_iter hT fK ?_ (PySem.F.args_set_iter_1 _))
 unfold Builtin.«frozenset.__iter__» Builtin.Frozenset.slot0 slotArgs
 simp only [List.isEmpty_nil,Bool.not_true,Bool.false_eq_true,↓reduceIte,bind_assoc,List.length_nil,bne_self_eq_false]
 unfold Builtin.Frozenset.addrOf Builtin.Frozenset.sizeOf setEntries setDrawn
 refine wpAny_bind (wpAny_pure ?_)
 try dsimp only
 refine wpAny_bind (wpAny_pure ?_)
 refine wpAny_bind (wpAny_bind (wpAny_bind (S.state λt T=>wpAny_pure (wpAny_pure ?_))))
 refine wpAny_bind (wpAny_bind (S.state λt T=>?_))
 dsimp only
 refine wpAny_bind (cv (wpAny_pure ?_))
 have e0:(!byT w && (!t.plain && decide ((aB m f).size > 1)))=false:=by rw [T.plain];simp
 refine wpAny_ite_split (λz=>absurd (z.symm.trans (show _=false from e0)) (by simp)) λ_=>?_
 refine wpAny_bind (wpAny_pure ?_)
 unfold setEpoch
 refine wpAny_bind (wpAny_bind (S.state λt T=>wpAny_pure ?_))
 simp only [newFields]
 refine wpAny_bind (wpAny_newObj_type (wpAny_pure ⟨_,rfl,"set_iterator",_,⟨_,Heap.get?_push_size _ rfl,rfl⟩,aI.lookup,?_⟩))
 simpa [rawInt,aB.size] using hQ
end
end L2
namespace L2
open PySem PySem.Spec PyProof.Rows
section
variable {prog:Program}{w:World}{A:Around}{E:Value->Shared->Prop}{s:Shared}{a it:Addr}{m d ep i:Nat}{f:Nat->Tok}
noncomputable def ek (w:World) (m i:Nat):Nat:=if byT w then 0 else kR m i
theorem bo.next {Q:Option (Value×Nat)->Shared->Prop} (S:bo w s.heap a m d f ep) (hi:i<=(ao m).length)
  (h:Q ((fM w a m f ep)[i]?.map λe=>(e.2,ek w m (i+1))) s):wpAny (model prog w) A (setNext a (ek w m i) i ep) Q E s:=by
 have hm:m < 64:=S.1
 unfold setNext
 refine wpAny_bind (S.state λt T=>?_)
 dsimp only
 refine wpAny_bind (cv ?_)
 cases hb:byT w with
 | true=>
  rw [if_pos rfl]
  simp only [bne_self_eq_false,Bool.false_eq_true,↓reduceIte]
  refine wpAny_bind (S.walk (wpAny_pure ?_))
  unfold ek at h
  rw [hb,if_pos rfl] at h
  unfold ek
  rw [hb,if_pos rfl]
  exact h
 | false=>
  rw [if_neg Bool.false_ne_true]
  have hl:t.led=true:=by rw [T.led,hb];rfl
  refine wpAny_ite_split (λz=>?_) λ_=>?_
  ·exfalso
   revert z
   show ¬ ((!t.plain && _)=true)
   rw [T.plain];simp
  ·refine wpAny_bind (Q:=_) ?_
   show wpAny _ _ (if (!t.led && _)=true then _ else _) _ _ _
   rw [hl]
   simp only [Bool.not_true,Bool.false_and,Bool.false_eq_true,↓reduceIte]
   refine wpAny_pure ?_
   unfold ek at h
   rw [hb,if_neg Bool.false_ne_true] at h
   unfold fM at h
   rw [hb,if_neg Bool.false_ne_true] at h
   unfold ek
   rw [hb,if_neg Bool.false_ne_true,T.pl,wX hm hi]
   refine wpAny_pure ?_
   by_cases hlt:i < (ao m).length
   ·have e1:(aB m f)[i]?=some (((ao m)[i]:Int),Value.int ((ao m)[i]:Nat) (f (ao m)[i])):=by
     rw [<-Array.getElem?_toList,aB.toList,List.getElem?_map,List.getElem?_eq_getElem hlt];rfl
    have e2:(ao m).toArray[i]?=some (ao m)[i]:=by simp [hlt]
    rw [e1,e2]
    rw [e1] at h
    have e3:kR m (i+1)=(ao m)[i]+1:=by
     unfold kR
     rw [if_neg (by lia)]
     simp [List.getD_eq_getElem?_getD,hlt]
    rw [e3] at h
    exact h
   ·have e1:(aB m f)[i]?=none:=Array.getElem?_eq_none (by rw [aB.size];lia)
    rw [e1] at h ⊢
    exact h
theorem lJ {Q:Option Value->Shared->Prop} (hit:b6 s.heap it a (ek w m i) i (ao m).length ep) (S:bo w s.heap a m d f ep) (hi:i < (ao m).length) {e:Int×Value} (he:(fM w a m f ep)[i]?=some e)
  (hQ:∀ h',b6 h' it a (ek w m (i+1)) (i+1) (ao m).length ep->Heap.SameBut it s.heap h'->Q (some e.2) { s with heap:=h' }) :
  wpAny (model prog w) A (pyNext (.ref it)) Q E s:=by
 obtain⟨o,ho,hc,hd⟩:=id hit
 unfold pyNext
 refine wpAny_bind (wpAny_attempt (wpAny_callSpecial?_slot (name:=Str.ofString "__next__") hit.typeIs aI
  (wpAny_call_entry aI hit.typeIs cp ?_ (cH _))))
 unfold Builtin.«set_iterator.__next__» slotArgs
 simp only [List.isEmpty_nil,Bool.not_true,Bool.false_eq_true,↓reduceIte,List.length_nil,bne_self_eq_false]
 refine wpAny_bind (wpAny_pure ?_)
 dsimp only
 unfold fieldsOf
 dsimp only
 refine wpAny_bind ?_
 refine wpAny_bind (wpAny_load ho ?_)
 rw [hd]
 refine wpAny_pure ?_
 dsimp only
 unfold setEntries
 refine wpAny_bind (wpAny_bind (S.state λt T=>wpAny_pure ?_))
 have e1:(((aB m f).size:Int) != ((ao m).length:Int))=false:=by rw [aB.size];simp
 dsimp only
 rw [if_neg (by rw [e1];exact Bool.false_ne_true)]
 refine wpAny_bind ?_
 simp only [Int.toNat_natCast]
 refine S.next (Nat.le_of_lt hi) ?_
 rw [he]
 dsimp only [Option.map]
 refine wpAny_bind (wpAny_setField ho hd (by simp) ?_)
 have ho1:=Heap.get?_update_self (Obj.mapFields λxs=>xs.setIfInBounds 0 (rawInt (ek w m (i+1)))) ho (Obj.isFreed_of_fields (Obj.data_mapFields hd _))
 have hd1:=Obj.data_mapFields hd (λxs=>xs.setIfInBounds 0 (rawInt (ek w m (i+1))))
 refine wpAny_bind (wpAny_setField ho1 hd1 (by simp) (wpAny_pure ⟨e.2,rfl,wpAny_pure (hQ _ ?_ ((Heap.SameBut.update ..).trans (Heap.SameBut.update ..)))⟩))
 refine⟨_,Heap.get?_update_self _ ho1 (Obj.isFreed_of_fields (Obj.data_mapFields hd1 _)),(Obj.cls_mapFields ..).trans ((Obj.cls_mapFields ..).trans hc),?_⟩
 rw [Obj.data_mapFields hd1];simp [rawInt]
theorem mU {Q:Option Value->Shared->Prop} (hh:A.handled=none) (hit:b6 s.heap it a (ek w m (ao m).length) (ao m).length (ao m).length ep) (S:bo w s.heap a m d f ep)
  (hQ:∀ h',Heap.ExtBut it s.heap h'->Q none { s with heap:=h' }):wpAny (model prog w) A (pyNext (.ref it)) Q E s:=by
 obtain⟨o,ho,hc,hd⟩:=id hit
 unfold pyNext
 refine wpAny_bind (wpAny_attempt (wpAny_callSpecial?_slot (name:=Str.ofString "__next__") hit.typeIs aI
  (wpAny_call_entry aI hit.typeIs cp ?_ (cH _))))
 unfold Builtin.«set_iterator.__next__» slotArgs
 simp only [List.isEmpty_nil,Bool.not_true,Bool.false_eq_true,↓reduceIte,List.length_nil,bne_self_eq_false]
 refine wpAny_bind (wpAny_pure ?_)
 dsimp only
 unfold fieldsOf
 dsimp only
 refine wpAny_bind ?_
 refine wpAny_bind (wpAny_load ho ?_)
 rw [hd]
 refine wpAny_pure ?_
 dsimp only
 unfold setEntries
 refine wpAny_bind (wpAny_bind (S.state λt T=>wpAny_pure ?_))
 have e1:(((aB m f).size:Int) != ((ao m).length:Int))=false:=by rw [aB.size];simp
 dsimp only
 rw [if_neg (by rw [e1];exact Bool.false_ne_true)]
 refine wpAny_bind ?_
 simp only [Int.toNat_natCast]
 refine S.next (Nat.le_refl _) ?_
 rw [Array.getElem?_eq_none (by rw [ij];exact Nat.le_refl _)]
 dsimp only [Option.map]
 refine wpAny_bind (wpAny_setField ho hd (by simp) ?_)
 show wpAny _ _ (newExc (.type "StopIteration") [] >>= _) _ _ _
 refine wpAny_bind ?_
 simp only [newExc,newTuple]
 refine wpAny_bind (wpAny_newObj_type ?_ (by size_fits))
 refine wpAny_bind (m:=firstArgMember _ _) (wpAny_of_eq (a:=Value.none) (by first | rfl | (simp only [firstArgMember];rfl)) ?_)
 refine wpAny_newObj_type ?_ (by size_fits)
 simp only [raiseNew]
 refine wpAny_bind (wpAny_handled ?_)
 rw [show A.in1.handled=none from hh]
 refine wpAny_bind (wpAny_pure (wpAny_throw ?_))
 refine wpAny_bind (wpAny_isInstance (T:="StopIteration") (b:=true) ⟨_,Heap.get?_push_size _ rfl,rfl⟩ isSubtype_stop ?_)
 exact wpAny_pure (hQ _ (((Heap.SameBut.update ..).extBut.push _).push _))
theorem oe {x i n:Nat}{Q:Value->Shared->Prop} (hit:b6 s.heap it a x i n ep) (h:Q (.ref it) s):wpAny (model prog w) A (pyIter (.ref it)) Q E s:=by
 refine wpAny_pyIter_slot hit.typeIs fU (wpAny_call_entry fU hit.typeIs jC ?_ (kh _))
 show wpAny _ _ (ret (.ref it)) _ _ s
 exact wpAny_pure ⟨_,rfl,"set_iterator",_,hit.typeIs,aI.lookup,h⟩
theorem tV (hh:A.handled=none) (I a:Addr) (hne:a≠I) (m d ep:Nat) (f:Nat->Tok) :
  Walks prog w A I [I,a] [I] (ao m).length (λi v=>∃ e,(fM w a m f ep)[i]?=some e/\v=e.2) (λi h=>b6 h I a (ek w m i) i (ao m).length ep/\bo w h a m d f ep) where
 sub:=λb hb=>by simp at hb;simp [hb]
 frame:=λ_ _ _ st hk=>⟨st.1.at' λo e=>hk I (by simp) o e,st.2.at' λo e=>hk a (by simp) o e⟩
 item:=λi s Q E hi st hQ=>by
  obtain⟨e,he⟩:∃ e,(fM w a m f ep)[i]?=some e:=⟨_,Array.getElem?_eq_getElem (by rw [ij];exact hi)⟩
  refine lJ st.1 st.2 hi he λh' hit' hs'=>?_
  exact hQ _ h' s.toks ⟨e,he,rfl⟩ ⟨hit',st.2.at' λo q=>hs'.extBut a o hne q⟩ λb o hb q=>hs'.extBut b o (λh=>hb (by simp [h])) q
 done:=λs Q E st hQ=>mU hh st.1 st.2 λh' he'=>hQ h' s.toks λb o hb e=>he' b o (λh=>hb (by simp [h])) e
 self:=λ_ _ _ _ st hQ=>oe st.1 hQ
theorem pN {Q:Bool->Shared->Prop} (hT:s.TypeIs (.ref a) "set") (h:Q false s):wpAny (model prog w) A (Builtin.List.listLengthHint (.ref a)) Q E s:=by
 unfold Builtin.List.listLengthHint
 refine wpAny_bind (wpAny_specialOf hT PySem.F.slot_set_len.lookup ?_)
 generalize hid:("set.__len__" : String)=id0
 wp_delta
 rw [show splitId id0=some ("set","__len__") from by subst hid;decide +kernel]
 subst hid
 refine wpAny_bind (wpAny_isInstance (T:="set") (b:=true) hT (by rw [isSubtype_type];kernel_rfl) ?_)
 refine wpAny_ite_split (λhab=>absurd hab (by decide)) (λ_=>?_)
 refine wpAny_ite_split (λ_=>?_) (λhab=>absurd (by decide +kernel) hab)
 refine wpAny_bind (wpAny_typeOf hT ?_)
 exact wpAny_pure h
theorem yb (prog:Program) (w:World) (a:Addr) (m d ep:Nat) (f:Nat->Tok):PySem.W.KdlSrc prog w "set" a a (ao m).length (λi v=>∃ e,(fM w a m f ep)[i]?=some e/\v=e.2) (λh=>bo w h a m d f ep) where
 type:=λs S=>let ⟨_,_,_,o,t,ho,hx,_⟩:=S;⟨o,ho,hx.1⟩
 there:=λh S=>let ⟨_,_,_,o,t,ho,hx,_⟩:=S;⟨Heap.lt_size ho,Heap.lt_size ho⟩
 keep:=λh h' S hk=>S.at' λo e=>hk a (.inl rfl) o e
 notList:=by decide
 notTuple:=by decide
 hint:=λA E s Q S h=>pN (let ⟨_,_,_,o,t,ho,hx,_⟩:=S;⟨o,ho,hx.1⟩) h
 iter:=λA s hh S=>⟨_,_,λE Q h=>va S h,tV hh s.heap.objs.size a (let ⟨_,_,_,o,t,ho,hx,_⟩:=S;Nat.ne_of_lt (Heap.lt_size ho)) m d ep f,
  ⟨⟨_,Heap.get?_push_size _ rfl,rfl,by unfold ek kR;split<;>rfl⟩,S.at' λo e=>Heap.get?_push_of_some _ e⟩⟩
end
end L2
namespace L2
open PySem PySem.Spec PyProof.Rows
noncomputable def au (l:List Int):Nat:=l.foldl (λm k=>m ||| 1 <<< k.toNat) 0
noncomputable def in6 (l:List Int):Bool:=l.all λk=>decide (0<=k/\k < 6)
theorem oV (l:List Int) (k:Int):au (l++[k])=au l ||| 1 <<< k.toNat:=by unfold au;rw [List.foldl_append];rfl
theorem pP {l:List Int}{i:Nat} (h:i < l.length):au (l.take (i+1))=au (l.take i) ||| 1 <<< (l.getD i 0).toNat:=by
 rw [List.take_add_one,List.getElem?_eq_getElem h]
 show au (l.take i++[l[i]])=_
 rw [oV,List.getD_eq_getElem?_getD,List.getElem?_eq_getElem h];rfl
theorem wJ {l:List Int} (h:in6 l=true) {i:Nat} (hi:i < l.length):0<=l.getD i 0/\l.getD i 0 < 6:=by
 have:=List.all_eq_true.mp h l[i] (List.getElem_mem hi)
 rw [List.getD_eq_getElem?_getD,List.getElem?_eq_getElem hi]
 simpa using this
section
variable {prog:Program}{w:World}{A:Around}{E:Value->Shared->Prop}{s:Shared}
theorem mq (led:Bool) (hl:led=!byT w):wF w { cls:=.type "set",dict:=none,data:=.set #[] 0 (.fresh 0 0 led) } 0 0:=
 ⟨by decide,by decide,rfl,⟨rfl,rfl,rfl⟩,λ_=>0,0,.fresh 0 0 led,by simp [aB,ao],⟨by simp [SetTable.fresh,gr],by simp [SetTable.fresh,ao],by simp [SetTable.fresh,ao],hl,rfl⟩⟩
end
section
variable {prog:Program}{w:World}{A:Around}{R:Result->Shared->Prop}{I:Addr}{fp wr:List Addr}{G:Array GenState->Array GenState->Prop}{P:Nat->Value->Prop}{St:Nat->Shared->Prop}
theorem nR {ns:List Int} (W:WalksS prog w A.in1 I fp wr G ns.length P St) (S:Addr) (hSf:S ∉ fp) (hval:∀ i v,P i v->∃ t,v=.int (ns.getD i 0) t) (h6:in6 ns=true) :
  ∀ (k i:Nat) (s:Shared),ns.length - i=k->i<=ns.length->St i s->aD w s.heap S (au (ns.take i)) 0->
   (∀ s',Moved (S::wr) G s s'->aD w s'.heap S (au ns) 0->R (.ok (.ret .none)) s')->
   codeAny (model prog w) A (.builtin "set.update.loop" ⟨[.ref S,.ref I],[]⟩) R s:=by
 have hSw:S ∉ wr:=λh=>hSf (W.sub _ h)
 have hsub:∀ b ∈ wr,b ∈ S::wr:=λb hb=>List.mem_cons_of_mem _ hb
 intro k
 induction k with
 | zero=>
  intro i s hk hi hst hS hR
  have hin:i=ns.length:=by lia
  subst hin
  refine codeAny_builtin PyProof.Rows.F.entry_set_update_loop ?_
  rw [Around.under_plainId PyProof.Rows.F.plain_set_update_loop _]
  show wpAny _ A.in1 (pyNext (.ref I) >>= _) _ _ s
  refine wpAny_bind (W.done s _ _ hst λs' hm=>?_)
  show wpAny _ A.in1 (ret Value.none) _ _ s'
  refine wpAny_pure (hR s' (hm.mono hsub) ?_)
  rw [List.take_length] at hS
  exact hS.at' λo e=>hm.heap S _ hSw e
 | succ k ih=>
  intro i s hk hi hst hS hR
  have hlt:i < ns.length:=by lia
  refine codeAny_builtin PyProof.Rows.F.entry_set_update_loop ?_
  rw [Around.under_plainId PyProof.Rows.F.plain_set_update_loop _]
  show wpAny _ A.in1 (pyNext (.ref I) >>= _) _ _ s
  refine wpAny_bind (W.item i s _ _ hlt hst λv s' hP hst' hm=>?_)
  obtain⟨t,rfl⟩:=hval i v hP
  have hS':aD w s'.heap S (au (ns.take i)) 0:=hS.at' λo e=>hm.heap S _ hSw e
  obtain⟨hg0,hg6⟩:=wJ h6 hlt
  have hbt:=pP hlt
  generalize hgv:ns.getD i 0=g at hg0 hg6 hbt ⊢
  obtain⟨g',rfl⟩:=Int.eq_ofNat_of_zero_le hg0
  have hg6':g' < 6:=by lia
  rw [Int.toNat_natCast] at hbt
  show wpAny _ A.in1 (holding [Value.int (g':Int) t] (setAdd S (.int (g':Int) t)) >>= _) _ _ s'
  refine wpAny_bind (wpAny_holding ?_)
  unfold setAdd
  refine wpAny_holding ?_
  refine wpAny_bind ((intKind prog w).pyHash (k:=(g':Int)) (intKind_is _ _ _ _) ?_)
  rw [show (intKind prog w).hash ((g':Nat):Int)=(g':Int) from nM hg6']
  refine nu (s:={ s' with toks:=s'.toks+1 }) hS' hg6' (.inr (Nat.zero_testBit _)) λh' d' b hsb hS2 hd'=>?_
  have hd0:d'=0:=by rcases hd' with z | z<;>exact z
  subst hd0
  rw [<-hbt] at hS2
  refine wpAny_pure ⟨plainId_quiet PyProof.Rows.F.plain_set_update_loop _,ih (i+1) _ (by lia) hlt (W.frame _ s' _ _ hst' (Nat.le_succ _) λb hb o e=>?_) hS2 λs'' hm'' hS''=>?_⟩
  ·rw [hsb.2 b (λh:b=S=>hSf (by rw [<-h];exact hb))];exact e
  ·refine hR s'' (Moved.trans W.gtrans ((hm.mono hsub).then_heap (Nat.le_succ _) λb o hb e=>?_) hm'') hS''
   rw [hsb.2 b (λh:b=S=>hb (by rw [h];exact List.mem_cons_self))];exact e
end
section
variable {prog:Program}{w:World}{A:Around}{E:Value->Shared->Prop}{s:Shared}
theorem dC (a:Value) {Q₁:Value->Shared->Prop}
  (h:Q₁ (.ref s.heap.objs.size) { s with heap:=s.heap.push { cls:=.type "set",dict:=none,data:=.set #[] 0 (.fresh 0 0 (!byT w)) } }) :
  codeAny (model prog w) A (.call (.builtin "set.__new__") ⟨[.type "set",a],[]⟩) (wants Q₁ E) s:=by
 refine codeAny_of_tree ?_
 show wpAny _ A.in1 (do checkBuiltinCall "set.__new__" ⟨[.type "set",a],[]⟩;again (.builtin "set.__new__" ⟨[.type "set",a],[]⟩)) _ _ s
 refine wpAny_bind (wpAny_of_eq (PySem.F.newCall_set_1 a) (wpAny_pure ⟨plainId_quiet PySem.F.plain_set_new _,codeAny_builtin PySem.F.entry_set_new ?_⟩))
 rw [Around.under_plainId PySem.F.plain_set_new _]
 unfold Builtin.«set.__new__» Builtin.Frozenset.newClass
 have hsub:=sub_set_self
 obtain⟨hp,g,d,tk,os⟩:=s
 dsimp only
 wp_walk
 refine wpAny_askSetting (wpAny_pure ?_)
 dsimp only
 simp only [newObj]
 refine wpAny_bind (wpAny_alloc (wpAny_pure ?_))
 exact wpAny_pure h
theorem lO:isSubtype (.type "tuple") (.type "set")=pure false:=by rw [isSubtype_type];kernel_rfl
theorem gf:isSubtype (.type "tuple") (.type "frozenset")=pure false:=by rw [isSubtype_type];kernel_rfl
set_option maxHeartbeats 3200000 in
theorem lM {l:Addr}{items:Array Value}{ns:List Int}{Q:Value->Shared->Prop}
  (hh:A.handled=none) (hl:s.heap.IsList l items) (hi:PyProof.Rows.IntsAre items.toList ns) (h6:in6 ns=true)
  (h:∀ (h':Heap) (tk:Nat),aD w h' s.heap.objs.size (au ns) 0->
    (∀ b o,b < s.heap.objs.size->s.heap.get? b=some o->h'.get? b=some o)->Q (.ref s.heap.objs.size) { s with heap:=h',toks:=tk }) :
  wpAny (model prog w) A (call (.type "set") [.ref l]) Q E s:=by
 obtain⟨c,tl,hmro⟩:=PySem.F.called_set.mro
 have hmade:=PySem.F.called_set.made
 have hsub:=PySem.F.called_set.sub
 refine wpAny_call (codeAny_of_tree ?_)
 show wpAny _ _ (callAny (.type "set") _) _ _ _
 refine wpAny_pure ⟨Code.quiet_builtin _ (by decide +kernel),codeAny_builtin PySem.F.entry_type_call ?_⟩
 rw [Around.under_plain (weight_type_call_type "set" [.ref l] []) rfl]
 have h1:=PySem.F.called_set.notType
 have h2:=PySem.F.called_set.canCreate
 have hct:=PySem.F.typeCall_set_1 (.ref l)
 repeat (any_goals (first | assumption | wp_step))
 refine codeAny_mono (dC (.ref l) (E:=E) (Q₁:=λobj s₁=>obj=.ref s.heap.objs.size/\s₁={ s with heap:=s.heap.push { cls:=.type "set",dict:=none,data:=.set #[] 0 (.fresh 0 0 (!byT w)) } }) ⟨rfl,rfl⟩) λr s₁ hr=>?_
 cases r with
 | error e=>exact hr
 | ok fl=>
  cases fl with
  | ret obj=>
   obtain⟨rfl,rfl⟩:=hr
   have hS:(s.heap.push { cls:=.type "set",dict:=none,data:=.set #[] 0 (.fresh 0 0 (!byT w)) }).get? s.heap.objs.size=some { cls:=.type "set",dict:=none,data:=.set #[] 0 (.fresh 0 0 (!byT w)) }:=Heap.get?_push_size _ rfl
   have hT:Shared.TypeIs { s with heap:=s.heap.push { cls:=.type "set",dict:=none,data:=.set #[] 0 (.fresh 0 0 (!byT w)) } } (.ref s.heap.objs.size) "set":=⟨_,hS,rfl⟩
   have hli:=PySem.F.called_set.init.lookup
   have hbi:=PySem.F.called_set.init.bind (.ref s.heap.objs.size)
   repeat (any_goals (first | assumption | wp_step))
   refine codeAny_mono (codeAny_call_builtin (R:=wants (λr s₂=>r=.none/\∃ h' tk,s₂={ s with heap:=h',toks:=tk }/\
     aD w h' s.heap.objs.size (au ns) 0/\
     (∀ b o,b < s.heap.objs.size->s.heap.get? b=some o->h'.get? b=some o)) E) PySem.F.called_set.init.plain PySem.F.entry_set_init (check_set_init_1 hT ?_)) λr₂ s₂ hr₂=>?_
   ·generalize hled:(!byT w)=led at hS hT ⊢
    obtain⟨ol,hol,hcl,nl,hdl⟩:=hl
    obtain⟨ocls,odict,odata,oslots⟩:=ol
    simp only at hcl hdl
    subst hcl;subst hdl
    have hol':(s.heap.push { cls:=.type "set",dict:=none,data:=.set #[] 0 (.fresh 0 0 led) }).get? l=some { cls:=.type "list",dict:=odict,data:=.seq items nl,slots:=oslots }:=Heap.get?_push_of_some _ hol
    have hsls:=PySem.F.sub_list_set
    have hslf:=PySem.F.sub_list_frozenset
    have hne:(Value.type "list"==Value.type "dict")=false:=by decide
    have hl1:(s.heap.push { cls:=.type "set",dict:=none,data:=.set #[] 0 (.fresh 0 0 led) }).IsList l items:=⟨_,hol',rfl,nl,rfl⟩
    unfold Builtin.«set.__init__» noKeywords Builtin.Frozenset.updateFrom
    generalize hPI:pyIter=PI
    wp_walk
    subst hPI
    refine wpAny_pyIter_list hl1 ?_
    refine wpAny_bind (wpAny_runValue ?_)
    have hlS:l < s.heap.objs.size:=Heap.lt_size hol
    have hh3:A.in1.in1.in1.handled=none:=by simp [hh]
    have hneI:l≠(s.heap.push { cls:=.type "set",dict:=none,data:=.set #[] 0 (.fresh 0 0 led) }).objs.size:=by
     rw [Heap.size_push];exact Nat.ne_of_lt (Nat.lt_succ_of_lt hlS)
    have hSf:s.heap.objs.size ∉ [(s.heap.push { cls:=.type "set",dict:=none,data:=.set #[] 0 (.fresh 0 0 led) }).objs.size,l]:=by
     rw [Heap.size_push];simp only [List.mem_cons,List.mem_singleton,List.not_mem_nil,or_false,not_or]
     exact⟨Nat.ne_of_lt (Nat.lt_succ_self _),Nat.ne_of_gt hlS⟩
    have hval:∀ (i:Nat) (v:Value),items[i]?=some v->∃ t,v=.int (ns.getD i 0) t:=λi v hv=>
     PyProof.Rows.IntsAre.int_at hi i v (by rw [Array.getElem?_toList];exact hv)
    have hlen:items.size=ns.length:=by
     have:=PyProof.Rows.IntsAre.length hi
     rw [Array.length_toList] at this;exact this
    have WW:=(Walks.list (prog:=prog) (w:=w) hh3 (s.heap.push { cls:=.type "set",dict:=none,data:=.set #[] 0 (.fresh 0 0 led) }).objs.size l hneI items).toS
    rw [hlen] at WW
    refine nR WW s.heap.objs.size hSf hval h6 (ns.length - 0) 0 _ (by lia) (Nat.zero_le _)
     ⟨⟨_,Heap.get?_push_size _ rfl,rfl,rfl⟩,(hl1.push _)⟩ ?hS0 ?hR
    case hS0=>
     have hget:((s.heap.push { cls:=.type "set",dict:=none,data:=.set #[] 0 (.fresh 0 0 led) }).push { cls:=.type "list_iterator",data:=.fields #[.ref l,.int 0 0] }).get? s.heap.objs.size
       = some { cls:=.type "set",dict:=none,data:=.set #[] 0 (.fresh 0 0 led) }:=Heap.get?_push_of_some _ hS
     exact⟨_,hget,mq led hled.symm⟩
    case hR=>
     intro s' hm hS'
     obtain⟨h',g',d',tk',os'⟩:=s'
     have eg:g'=s.gens:=hm.gens
     have ed:d'=s.drawn:=hm.drawn
     have eo:os'=s.os:=hm.os
     subst eg;subst ed;subst eo
     show wpAny _ _ _ _ _ _
     refine wpAny_pure ?_
     show wpAny _ _ (ret Value.none) _ _ _
     refine wpAny_pure ⟨rfl,h',tk',rfl,hS',λb o hb e=>?_⟩
     have hb1:b≠s.heap.objs.size:=Nat.ne_of_lt hb
     have hb2:b≠(s.heap.push { cls:=.type "set",dict:=none,data:=.set #[] 0 (.fresh 0 0 led) }).objs.size:=by
      rw [Heap.size_push];exact Nat.ne_of_lt (Nat.lt_succ_of_lt hb)
     exact hm.heap b o (by simp only [List.mem_cons,List.mem_singleton,List.not_mem_nil,or_false,not_or];exact⟨hb1,hb2⟩) (Heap.get?_push_of_some _ (Heap.get?_push_of_some _ e))
   ·cases r₂ with
    | error e=>exact hr₂
    | ok fl₂=>
     cases fl₂ with
     | ret r=>
      obtain⟨rfl,h',tk,rfl,hS',hk'⟩:=hr₂
      repeat (any_goals (first | assumption | wp_step))
      exact h _ _ hS' hk'
     | _=>exact hr₂.elim
  | _=>exact hr.elim
set_option maxHeartbeats 3200000 in
theorem li {l:Addr}{items:Array Value}{ns:List Int}{Q:Value->Shared->Prop}
  (hh:A.handled=none) (hl:s.heap.IsTuple l items) (hi:PyProof.Rows.IntsAre items.toList ns) (h6:in6 ns=true)
  (h:∀ (h':Heap) (tk:Nat),aD w h' s.heap.objs.size (au ns) 0->
    (∀ b o,b < s.heap.objs.size->s.heap.get? b=some o->h'.get? b=some o)->Q (.ref s.heap.objs.size) { s with heap:=h',toks:=tk }) :
  wpAny (model prog w) A (call (.type "set") [.ref l]) Q E s:=by
 obtain⟨c,tl,hmro⟩:=PySem.F.called_set.mro
 have hmade:=PySem.F.called_set.made
 have hsub:=PySem.F.called_set.sub
 refine wpAny_call (codeAny_of_tree ?_)
 show wpAny _ _ (callAny (.type "set") _) _ _ _
 refine wpAny_pure ⟨Code.quiet_builtin _ (by decide +kernel),codeAny_builtin PySem.F.entry_type_call ?_⟩
 rw [Around.under_plain (weight_type_call_type "set" [.ref l] []) rfl]
 have h1:=PySem.F.called_set.notType
 have h2:=PySem.F.called_set.canCreate
 have hct:=PySem.F.typeCall_set_1 (.ref l)
 repeat (any_goals (first | assumption | wp_step))
 refine codeAny_mono (dC (.ref l) (E:=E) (Q₁:=λobj s₁=>obj=.ref s.heap.objs.size/\s₁={ s with heap:=s.heap.push { cls:=.type "set",dict:=none,data:=.set #[] 0 (.fresh 0 0 (!byT w)) } }) ⟨rfl,rfl⟩) λr s₁ hr=>?_
 cases r with
 | error e=>exact hr
 | ok fl=>
  cases fl with
  | ret obj=>
   obtain⟨rfl,rfl⟩:=hr
   have hS:(s.heap.push { cls:=.type "set",dict:=none,data:=.set #[] 0 (.fresh 0 0 (!byT w)) }).get? s.heap.objs.size=some { cls:=.type "set",dict:=none,data:=.set #[] 0 (.fresh 0 0 (!byT w)) }:=Heap.get?_push_size _ rfl
   have hT:Shared.TypeIs { s with heap:=s.heap.push { cls:=.type "set",dict:=none,data:=.set #[] 0 (.fresh 0 0 (!byT w)) } } (.ref s.heap.objs.size) "set":=⟨_,hS,rfl⟩
   have hli:=PySem.F.called_set.init.lookup
   have hbi:=PySem.F.called_set.init.bind (.ref s.heap.objs.size)
   repeat (any_goals (first | assumption | wp_step))
   refine codeAny_mono (codeAny_call_builtin (R:=wants (λr s₂=>r=.none/\∃ h' tk,s₂={ s with heap:=h',toks:=tk }/\
     aD w h' s.heap.objs.size (au ns) 0/\
     (∀ b o,b < s.heap.objs.size->s.heap.get? b=some o->h'.get? b=some o)) E) PySem.F.called_set.init.plain PySem.F.entry_set_init (check_set_init_1 hT ?_)) λr₂ s₂ hr₂=>?_
   ·generalize hled:(!byT w)=led at hS hT ⊢
    obtain⟨ol,hol,hcl,nl,hdl⟩:=hl
    obtain⟨ocls,odict,odata,oslots⟩:=ol
    simp only at hcl hdl
    subst hcl;subst hdl
    have hol':(s.heap.push { cls:=.type "set",dict:=none,data:=.set #[] 0 (.fresh 0 0 led) }).get? l=some { cls:=.type "tuple",dict:=odict,data:=.seq items nl,slots:=oslots }:=Heap.get?_push_of_some _ hol
    have hsls:=lO
    have hslf:=gf
    have hne:(Value.type "tuple"==Value.type "dict")=false:=by decide
    have hl1:(s.heap.push { cls:=.type "set",dict:=none,data:=.set #[] 0 (.fresh 0 0 led) }).IsTuple l items:=⟨_,hol',rfl,nl,rfl⟩
    unfold Builtin.«set.__init__» noKeywords Builtin.Frozenset.updateFrom
    generalize hPI:pyIter=PI
    wp_walk
    subst hPI
    refine wpAny_pyIter_tuple hl1 ?_
    refine wpAny_bind (wpAny_runValue ?_)
    have hlS:l < s.heap.objs.size:=Heap.lt_size hol
    have hh3:A.in1.in1.in1.handled=none:=by simp [hh]
    have hneI:l≠(s.heap.push { cls:=.type "set",dict:=none,data:=.set #[] 0 (.fresh 0 0 led) }).objs.size:=by
     rw [Heap.size_push];exact Nat.ne_of_lt (Nat.lt_succ_of_lt hlS)
    have hSf:s.heap.objs.size ∉ [(s.heap.push { cls:=.type "set",dict:=none,data:=.set #[] 0 (.fresh 0 0 led) }).objs.size,l]:=by
     rw [Heap.size_push];simp only [List.mem_cons,List.mem_singleton,List.not_mem_nil,or_false,not_or]
     exact⟨Nat.ne_of_lt (Nat.lt_succ_self _),Nat.ne_of_gt hlS⟩
    have hval:∀ (i:Nat) (v:Value),items[i]?=some v->∃ t,v=.int (ns.getD i 0) t:=λi v hv=>
     PyProof.Rows.IntsAre.int_at hi i v (by rw [Array.getElem?_toList];exact hv)
    have hlen:items.size=ns.length:=by
     have:=PyProof.Rows.IntsAre.length hi
     rw [Array.length_toList] at this;exact this
    have WW:=(Walks.tuple (prog:=prog) (w:=w) hh3 (s.heap.push { cls:=.type "set",dict:=none,data:=.set #[] 0 (.fresh 0 0 led) }).objs.size l hneI items).toS
    rw [hlen] at WW
    refine nR WW s.heap.objs.size hSf hval h6 (ns.length - 0) 0 _ (by lia) (Nat.zero_le _)
     ⟨⟨_,Heap.get?_push_size _ rfl,rfl,rfl⟩,(hl1.push _)⟩ ?hS0 ?hR
    case hS0=>
     have hget:((s.heap.push { cls:=.type "set",dict:=none,data:=.set #[] 0 (.fresh 0 0 led) }).push { cls:=.type "tuple_iterator",data:=.fields #[.ref l,.int 0 0] }).get? s.heap.objs.size
       = some { cls:=.type "set",dict:=none,data:=.set #[] 0 (.fresh 0 0 led) }:=Heap.get?_push_of_some _ hS
     exact⟨_,hget,mq led hled.symm⟩
    case hR=>
     intro s' hm hS'
     obtain⟨h',g',d',tk',os'⟩:=s'
     have eg:g'=s.gens:=hm.gens
     have ed:d'=s.drawn:=hm.drawn
     have eo:os'=s.os:=hm.os
     subst eg;subst ed;subst eo
     show wpAny _ _ _ _ _ _
     refine wpAny_pure ?_
     show wpAny _ _ (ret Value.none) _ _ _
     refine wpAny_pure ⟨rfl,h',tk',rfl,hS',λb o hb e=>?_⟩
     have hb1:b≠s.heap.objs.size:=Nat.ne_of_lt hb
     have hb2:b≠(s.heap.push { cls:=.type "set",dict:=none,data:=.set #[] 0 (.fresh 0 0 led) }).objs.size:=by
      rw [Heap.size_push];exact Nat.ne_of_lt (Nat.lt_succ_of_lt hb)
     exact hm.heap b o (by simp only [List.mem_cons,List.mem_singleton,List.not_mem_nil,or_false,not_or];exact⟨hb1,hb2⟩) (Heap.get?_push_of_some _ (Heap.get?_push_of_some _ e))
   ·cases r₂ with
    | error e=>exact hr₂
    | ok fl₂=>
     cases fl₂ with
     | ret r=>
      obtain⟨rfl,h',tk,rfl,hS',hk'⟩:=hr₂
      repeat (any_goals (first | assumption | wp_step))
      exact h _ _ hS' hk'
     | _=>exact hr₂.elim
  | _=>exact hr.elim
end
end L2
namespace L2
open PySem PySem.Spec PyProof.Rows
section
variable {prog:Program}{w:World}{A:Around}{E:Value->Shared->Prop}{s:Shared}{a r o:Addr}{m m1 m2 d k ep:Nat}{f:Nat->Tok}
theorem sT {n:Nat}{Q:Unit->Shared->Prop} (S:aD w s.heap a m d) (hn:n < 32) (h:∀ h',Heap.SameBut a s.heap h'->aD w h' a m 0->Q () { s with heap:=h' }) :
  wpAny (model prog w) A (setRelay a n) Q E s:=by
 obtain⟨ob,ho,hm,hd,h0,hx,f,ep,t,hdat,T⟩:=id S
 have hf:=T.fits hm hd h0 f
 unfold setRelay
 refine wpAny_bind (wpAny_setState_of ho hdat hf ?_)
 dsimp only
 rw [if_neg (by have:=(gQ hn).2;rw [sizeLine_eq];lia)]
 obtain⟨t',T',e⟩:=T.relaid hm hn
 refine wpAny_bind ?_
 rw [aB.hashes,e]
 wp_delta
 have hs:((Array.range (ao m).length).filterMap ((aB m f)[·]?))=aB m f:=by rw [<-aB.size m f];exact il _
 simp only [hs,bne_self_eq_false,Bool.false_eq_true,↓reduceIte]
 refine wpAny_pure ?_
 dsimp only
 obtain⟨o1,ho1,hx1,hd1,S1⟩:=dv (w:=w) (f':=f) ho hx hdat hm (by decide) (Nat.and_zero _) T'
 exact wpAny_storeSet_of ho hdat (h _ (Heap.SameBut.update ..) S1) (cP hm f)
theorem uQ {n:Nat}{Q:Unit->Shared->Prop} (S:aD w s.heap a m d) (hn:n<=6) (h:∀ h' d',Heap.SameBut a s.heap h'->aD w h' a m d'->(d'=d\/d'=0)->Q () { s with heap:=h' }) :
  wpAny (model prog w) A (setRoomFor a n) Q E s:=by
 obtain⟨ob,ho,hm,hd,h0,hx,f,ep,t,hdat,T⟩:=id S
 have hf:=T.fits hm hd h0 f
 unfold setRoomFor
 refine wpAny_bind (wpAny_setState_of ho hdat hf ?_)
 dsimp only
 have e:s={ s with heap:=s.heap }:=by cases s;rfl
 unfold SetTable.roomFor
 split
 ·rename_i x hx
  split at hx
  ·cases hx
   refine sT S ?_ λh' a1 a2=>h h' 0 a1 a2 (.inr rfl)
   have:=eN hm
   rw [T.pl,List.size_toArray];lia
  ·cases hx
 ·refine wpAny_pure ?_
  have:=h s.heap d (Heap.SameBut.refl ..) S (.inl rfl)
  rw [e];exact this
theorem jZ {α:Type} (J:List α->Shared->Prop) {g:α->PUnit->Sem (ForInStep PUnit)} (hg:∀ x l s,J (x::l) s->wpAny (model prog w) A (g x ⟨⟩) (λr s'=>r=.yield ⟨⟩/\J l s') E s) :
  ∀ (l:List α) (s:Shared) (Q:PUnit->Shared->Prop),J l s->(∀ s',J [] s'->Q ⟨⟩ s')->wpAny (model prog w) A (forIn l ⟨⟩ g) Q E s
 | [],s,Q,h,hQ=>by rw [List.forIn_nil];exact wpAny_pure (hQ s h)
 | x::l,s,Q,h,hQ=>by
  rw [List.forIn_cons]
  refine wpAny_bind (wpAny_mono (hg x l s h) (λr s' hr=>?_) λ_ _ e=>e)
  obtain⟨rfl,hj⟩:=hr
  exact jZ J hg l s' Q hj hQ
noncomputable def dz (l:List Nat):Nat:=l.foldl (λm k=>m ||| 1 <<< k) 0
theorem nw:∀ (l:List Nat) (m:Nat),l.foldl (λm k=>m ||| 1 <<< k) m=m ||| dz l
 | [],m=>(Nat.or_zero m).symm
 | k::l,m=>by
  unfold dz
  rw [List.foldl_cons,List.foldl_cons,nw l,nw l (0 ||| 1 <<< k),Nat.zero_or,Nat.or_assoc]
theorem j8 (k:Nat) (l:List Nat):dz (k::l)=1 <<< k ||| dz l:=by
 show (k::l).foldl (λm k=>m ||| 1 <<< k) 0=_
 rw [List.foldl_cons,nw,Nat.zero_or]
theorem dD (j:Nat):∀ l:List Nat,(dz l).testBit j=decide (j ∈ l)
 | []=>by simp [dz]
 | k::l=>by
  rw [j8,Nat.testBit_or,eG,dD j l]
  by_cases e:k=j
  ·subst e;simp
  ·rw [decide_eq_false e,Bool.false_or]
   simp [show ¬ j=k from λz=>e z.symm]
theorem lm {l l':List Nat} (p:l.Perm l'):dz l=dz l':=by
 apply Nat.eq_of_testBit_eq
 intro j
 rw [dD,dD]
 exact decide_eq_decide.mpr p.mem_iff
theorem nj:∀ m:_root_.Fin 64,dz (ao m.1)=m.1:=by decide +kernel
theorem hV (hm:m < 64):dz (ao m)=m:=nj ⟨m,hm⟩
noncomputable def xO (l:List (Int×Value)):Prop:=∀ e ∈ l,∃ k:Nat,∃ t:Tok,k < 6/\e=((k:Int),Value.int k t)
noncomputable def gz (l:List (Int×Value)):List Nat:=l.map λe=>e.1.toNat
theorem jU (w:World) (a:Addr) (m:Nat) (f:Nat->Tok) (ep:Nat):xO (fM w a m f ep).toList:=λe he=>by
 have:=(ke w a m f ep).mem_iff.mp he
 rw [aB.toList] at this
 obtain⟨k,hk,rfl⟩:=List.mem_map.mp this
 exact⟨k,f k,rE hk,rfl⟩
theorem fD (w:World) (a:Addr) (m:Nat) (f:Nat->Tok) (ep:Nat):(gz (fM w a m f ep).toList).Perm (ao m):=by
 have:=(ke w a m f ep).map (λe:Int×Value=>e.1.toNat)
 rw [aB.toList,List.map_map] at this
 have e:((λe:Int×Value=>e.1.toNat) ∘ λ(k:Nat)=>((k:Int),Value.int k (f k)))=id:=by funext k;simp
 rw [e,List.map_id] at this
 exact this
theorem bo.unseen {Q:Array (Int×Value)->Shared->Prop}{os:List Addr}{fl:Option Addr} (S:bo w s.heap a m d f ep) (h:Q (fM w a m f ep) s):wpAny (model prog w) A (setWalkUnseen a os fl) Q E s:=by
 unfold setWalkUnseen
 refine wpAny_bind (S.state λt T=>?_)
 dsimp only
 refine wpAny_bind (cv ?_)
 have e:(byT w || t.led && t.plain)=true:=by rw [T.led,T.plain];cases byT w<;>rfl
 rw [if_pos (by rw [e];rfl)]
 exact S.walk h
theorem mx {each:Sem Unit}{Q:Unit->Shared->Prop} (hne:r≠o) (S1:aD w s.heap r m1 0) (S2:bo w s.heap o m2 0 f ep)
  (he:∀ (s':Shared) (Q':Unit->Shared->Prop),bo w s'.heap o m2 0 f ep->Q' () s'->wpAny (model prog w) A each Q' E s')
  (h:∀ h',Heap.SameBut r s.heap h'->aD w h' r (m1 ||| m2) 0->Q () { s with heap:=h' }) :
  wpAny (model prog w) A (setMerge r o each) Q E s:=by
 have es:s={ s with heap:=s.heap }:=by cases s;rfl
 have hm2:m2 < 64:=S2.1
 have keepO:∀ {h':Heap},Heap.SameBut r s.heap h'->bo w h' o m2 0 f ep:=λsb=>S2.at' λob q=>(sb.2 o (Ne.symm hne)).trans q
 unfold setMerge
 rw [if_neg (by simpa using hne)]
 refine wpAny_bind (S2.state λt2 T2=>?_)
 dsimp only
 by_cases hem:(aB m2 f).isEmpty=true
 ·rw [if_pos hem]
  refine wpAny_pure ?_
  have h0:(ao m2).length=0:=by rw [<-aB.size m2 f];simpa using hem
  have z:m2=0:=by
   have:=hV hm2
   rw [List.length_eq_zero_iff.mp h0] at this
   exact this.symm
  have:=h s.heap (Heap.SameBut.refl ..) (by rw [z,Nat.or_zero];exact S1)
  rw [es];exact this
 ·rw [if_neg hem]
  refine wpAny_bind (uQ S1 (by rw [aB.size];exact eN hm2) λh1 d' sb1 S1' hd'=>?_)
  have hd0:d'=0:=by rcases hd' with z | z<;>exact z
  subst hd0
  obtain⟨o1,ho1,hm1,_,h01,hx1,f1,ep1,t1,hd1,T1⟩:=id S1'
  have hf1:=T1.fits hm1 (by decide) h01 f1
  refine wpAny_bind (wpAny_setState_of ho1 hd1 hf1 ?_)
  dsimp only
  have z1:t1.fill=0->m1=0:=λz=>by
   have hp:(ao m1).length=0:=by
    unfold SetTable.fill at z
    rw [T1.pl,List.size_toArray] at z;lia
   have:=hV hm1
   rw [List.length_eq_zero_iff.mp hp] at this
   exact this.symm
  have hled:(t1.led && t2.led)=!byT w:=by rw [T1.led,T2.led];cases byT w<;>rfl
  have hpl:(t1.plain && t2.plain)=true:=by rw [T1.plain,T2.plain];rfl
  generalize hrd:t1.road t2=rd
  unfold SetTable.road at hrd
  by_cases hf0:(t1.fill != 0)=true
  ·rw [if_pos hf0] at hrd
   subst hrd
   dsimp only
   refine wpAny_bind (Q:=_) ((keepO sb1).unseen ?_)
   rw [<-Array.forIn_toList]
   refine wpAny_bind (jZ (λl s'=>∃ h' m',s'={ s with heap:=h' }/\Heap.SameBut r s.heap h'/\aD w h' r m' 0/\m' ||| dz (gz l)=m1 ||| m2/\xO l) (λx l s' hJ=>?_) _ _ _ ⟨h1,m1,rfl,sb1,S1',?_,jU _ _ _ _ _⟩ λs' hJ=>?_)
   ·obtain⟨h',m',rfl,sb,S',hbm,hE⟩:=hJ
    obtain⟨k,tk,hk,rfl⟩:=hE x List.mem_cons_self
    dsimp only
    refine wpAny_bind (wpAny_holding (nu (s:={ s with heap:=h' }) S' hk (.inr (Nat.zero_testBit _)) λh2 d' b sb2 S2' hd'=>?_))
    have hd0:d'=0:=by rcases hd' with z | z<;>exact z
    subst hd0
    have sb3:Heap.SameBut r s.heap h2:=sb.trans sb2
    refine wpAny_bind (he { s with heap:=h2 } _ (keepO sb3) ?_)
    refine wpAny_bind ((keepO sb3).state (s:={ s with heap:=h2 }) λt T=>?_)
    simp only [bne_self_eq_false,Bool.false_eq_true,↓reduceIte]
    refine wpAny_pure ⟨rfl,h2,_,rfl,sb3,S2',?_,λe he=>hE e (List.mem_cons_of_mem _ he)⟩
    rw [<-hbm]
    show _=m' ||| dz ((k:Int).toNat::gz l)
    rw [Int.toNat_natCast,j8,Nat.or_assoc]
   ·rw [lm (fD ..),hV hm2]
   ·obtain⟨h',m',rfl,sb,S',hbm,hE⟩:=hJ
    have e0:m'=m1 ||| m2:=by rw [<-hbm];exact (Nat.or_zero m').symm
    rw [e0] at S'
    exact wpAny_pure (h h' sb S')
  ·rw [if_neg hf0] at hrd
   have hm10:m1=0:=z1 (by simpa using hf0)
   subst hm10
   rw [Nat.zero_or] at h
   split at hrd
   ·subst hrd
    dsimp only
    have T':dh (byT w) { t2 with finger:=t1.finger,led:=t1.led && t2.led,moves:=t1.moves,plain:=t1.plain && t2.plain } m2 0:=⟨T2.msk,T2.pl,T2.du,hled,hpl⟩
    obtain⟨o',ho',hx',hd',S'⟩:=dv (w:=w) (f':=f) ho1 hx1 hd1 hm2 (by decide) (Nat.and_zero _) T'
    exact wpAny_storeSet_of ho1 hd1 (h _ (sb1.trans (Heap.SameBut.update ..)) S') (cP hm2 f)
   ·subst hrd
    dsimp only
    refine wpAny_bind ?_
    rw [aB.hashes,si hm2 T1.msk]
    wp_delta
    have hs:((Array.range (ao m2).length).filterMap ((aB m2 f)[·]?))=aB m2 f:=by rw [<-aB.size m2 f];exact il _
    simp only [hs,bne_self_eq_false,Bool.false_eq_true,↓reduceIte]
    refine wpAny_pure ?_
    dsimp only
    have T':dh (byT w) (⟨t1.mask,(ao m2).toArray,#[],t1.finger,t1.led && t2.led,t1.moves,t1.plain && t2.plain⟩:SetTable) m2 0:=⟨T1.msk,rfl,by simp [ao],hled,hpl⟩
    obtain⟨o',ho',hx',hd',S'⟩:=dv (w:=w) (f':=f) ho1 hx1 hd1 hm2 (by decide) (Nat.and_zero _) T'
    exact wpAny_storeSet_of ho1 hd1 (h _ (sb1.trans (Heap.SameBut.update ..)) S') (cP hm2 f)
end
end L2
namespace L2
open PySem PySem.Spec PyProof.Rows
theorem nr:entryFor table "set.__or__" = some Builtin.«frozenset.__or__»:=
 entryFor_alias (id':="frozenset.__or__") (by kernel_rfl) rfl (by decide +kernel) (by kernel_rfl)
theorem lN:entryFor table "set.__xor__" = some Builtin.«frozenset.__xor__»:=
 entryFor_alias (id':="frozenset.__xor__") (by kernel_rfl) rfl (by decide +kernel) (by kernel_rfl)
theorem jf:isSubtype (.type "set") (.type "set")=pure true:=by rw [isSubtype_type];kernel_rfl
section
variable {prog:Program}{w:World}{A:Around}{E:Value->Shared->Prop}{s:Shared}{a b r o:Addr}{m m1 m2 d k ep:Nat}{f:Nat->Tok}
theorem fY {Q:Bool->Shared->Prop} (hT:s.TypeIs (.ref a) "set") (h:Q true s):wpAny (model prog w) A (Builtin.Frozenset.isAnySet (.ref a)) Q E s:=by
 unfold Builtin.Frozenset.isAnySet orM
 refine wpAny_bind (wpAny_isInstance (T:="set") (b:=true) hT jf ?_)
 exact wpAny_pure h
theorem pp {Q:Value->Shared->Prop} (hT:s.TypeIs (.ref a) "set") (h:Q (.type "set") s):wpAny (model prog w) A (Builtin.Frozenset.baseOf a) Q E s:=by
 unfold Builtin.Frozenset.baseOf
 refine wpAny_bind (wpAny_isInstance (T:="set") (b:=true) hT jf ?_)
 exact wpAny_pure h
theorem qV {Q:Value->Shared->Prop} (h:aD w (s.heap.push { cls:=.type "set",dict:=none,data:=.set #[] 0 (.fresh 0 0 (!byT w)) }) s.heap.objs.size 0 0->Q (.ref s.heap.objs.size) { s with heap:=s.heap.push { cls:=.type "set",dict:=none,data:=.set #[] 0 (.fresh 0 0 (!byT w)) } }) :
  wpAny (model prog w) A (newSet (.type "set")) Q E s:=by
 unfold newSet
 refine wpAny_bind (cv ?_)
 simp only [newObj]
 refine wpAny_bind (wpAny_alloc (wpAny_pure (h ⟨_,Heap.get?_push_size _ rfl,?_⟩)))
 exact⟨by decide,by decide,rfl,⟨rfl,rfl,rfl⟩,λ_=>0,0,.fresh 0 0 (!byT w),by simp [aB,ao],⟨by simp [SetTable.fresh,gr],by simp [SetTable.fresh,ao],by simp [SetTable.fresh,ao],rfl,rfl⟩⟩
theorem aD.keep {h h':Heap} (S:aD w h a m d) (hne:a≠r) (sb:Heap.SameBut r h h'):aD w h' a m d:=S.at' λo q=>(sb.2 a hne).trans q
theorem bo.keep {h h':Heap} (S:bo w h a m d f ep) (hne:a≠r) (sb:Heap.SameBut r h h'):bo w h' a m d f ep:=S.at' λo q=>(sb.2 a hne).trans q
theorem vI {id:String} (s':Shared) (Q':Unit->Shared->Prop) (S:bo w s'.heap o m 0 f ep) (h:Q' () s'):wpAny (model prog w) A (Builtin.Frozenset.unchanged id o ep) Q' E s':=by
 unfold Builtin.Frozenset.unchanged setEpoch
 refine wpAny_bind (wpAny_bind (S.state λt T=>wpAny_pure ?_))
 simp only [bne_self_eq_false,Bool.false_eq_true,↓reduceIte]
 exact wpAny_pure h
theorem sQ {id:String}{Q:Unit->Shared->Prop} (hne:r≠o) (S1:aD w s.heap r m1 0) (S2:aD w s.heap o m2 0)
  (h:∀ h',Heap.SameBut r s.heap h'->aD w h' r (m1 ||| m2) 0->Q () { s with heap:=h' }):wpAny (model prog w) A (Builtin.Frozenset.merge id r o) Q E s:=by
 obtain⟨f,ep,D⟩:=S2.dat
 unfold Builtin.Frozenset.merge setEpoch
 refine wpAny_bind (wpAny_bind (D.state λt T=>wpAny_pure ?_))
 exact mx hne S1 D (λs' Q' Sd hq=>vI s' Q' Sd hq) h
theorem kO {id:String}{Q:Unit->Shared->Prop} (hne:r≠o) (S1:aD w s.heap r m1 0) (S2:aD w s.heap o m2 0)
  (h:∀ h',Heap.SameBut r s.heap h'->aD w h' r (m1 ||| m2) 0->Q () { s with heap:=h' }):wpAny (model prog w) A (Builtin.Frozenset.updateFrom id r (.ref o)) Q E s:=by
 unfold Builtin.Frozenset.updateFrom
 refine wpAny_bind (fY S2.type ?_)
 rw [if_pos rfl]
 refine wpAny_bind (m:=pure o) (wpAny_pure ?_)
 exact sQ hne S1 S2 h
theorem tZ {Q:Value->Shared->Prop} (S1:aD w s.heap a m1 0) (S2:aD w s.heap b m2 0) (hab:a≠b)
  (h:∀ h' p,(∀ c o,s.heap.get? c=some o->h'.get? c=some o)->s.heap.objs.size<=p->aD w h' p (m1 ||| m2) 0->Q (.ref p) { s with heap:=h' }) :
  wpAny (model prog w) A (binaryOp .BitOr (.ref a) (.ref b)) Q E s:=by
 refine wpAny_binaryOp_same (op:=.BitOr) (T:="set") S1.type S2.type PySem.F.fills_set_or PySem.F.slot_set_or (wpAny_call_entry PySem.F.slot_set_or S1.type nr ?_ (PySem.F.args_set_or_2 _ _))
 unfold Builtin.«frozenset.__or__»
 wp_delta
 unfold Builtin.Frozenset.slot1 slotArgs
 simp only [List.isEmpty_nil,Bool.not_true,Bool.false_eq_true,↓reduceIte,List.length_nil,List.length_cons,bne_self_eq_false]
 refine wpAny_bind (wpAny_bind (wpAny_pure (wpAny_pure ?_)))
 dsimp only
 refine wpAny_bind ?_
 unfold andM
 refine wpAny_bind (fY S1.type ?_)
 show wpAny _ _ (Builtin.Frozenset.isAnySet (.ref b)) _ _ _
 refine fY S2.type ?_
 simp only [Bool.not_true,Bool.false_eq_true,↓reduceIte]
 unfold Builtin.Frozenset.addrOf
 refine wpAny_bind (wpAny_pure ?_)
 try dsimp only
 refine wpAny_bind ?_
 wp_delta
 unfold Builtin.Frozenset.copyOf
 refine wpAny_bind (wpAny_bind (pp S1.type ?_))
 refine wpAny_bind (qV λS0=>?_)
 have la:a < s.heap.objs.size:=let ⟨o,ho,_⟩:=S1;Heap.lt_size ho
 have lb:b < s.heap.objs.size:=let ⟨o,ho,_⟩:=S2;Heap.lt_size ho
 refine wpAny_bind (m:=pure s.heap.objs.size) (wpAny_pure ?_)
 have S1':aD w (s.heap.push { cls:=.type "set",dict:=none,data:=.set #[] 0 (.fresh 0 0 (!byT w)) }) a m1 0:=S1.at' λo e=>Heap.get?_push_of_some _ e
 obtain⟨f1,ep1,D1⟩:=S1'.dat
 refine wpAny_bind (mx (s:={ s with heap:=s.heap.push { cls:=.type "set",dict:=none,data:=.set #[] 0 (.fresh 0 0 (!byT w)) } }) (Nat.ne_of_gt la) S0 D1 (λs' Q' _ hq=>wpAny_pure hq) λh1 sb1 T1=>?_)
 refine wpAny_pure ?_
 rw [Nat.zero_or] at T1
 have hb:(Value.ref b != Value.ref a)=true:=by simp [Ne.symm hab]
 rw [if_pos hb]
 have S2':aD w h1 b m2 0:=(S2.at' λo e=>Heap.get?_push_of_some _ e).keep (Nat.ne_of_lt lb) sb1
 refine wpAny_bind (m:=pure s.heap.objs.size) (wpAny_pure ?_)
 refine wpAny_bind (wpAny_holding ?_)
 refine kO (s:={ s with heap:=h1 }) (Nat.ne_of_gt lb) T1 S2' λh2 sb2 T2=>?_
 refine wpAny_pure (wpAny_pure ⟨_,rfl,?_,h h2 _ (λc o e=>?_) (Nat.le_refl _) T2⟩)
 ·exact λe=>nomatch e
 ·have hc:c≠s.heap.objs.size:=Nat.ne_of_lt (Heap.lt_size e)
  exact (sb2.2 c hc).trans ((sb1.2 c hc).trans (Heap.get?_push_of_some _ e))
end
end L2
namespace L2
open PySem PySem.Spec PyProof.Rows
section
variable {prog:Program}{w:World}{A:Around}{E:Value->Shared->Prop}{s:Shared}{a b r o:Addr}{m m1 m2 d k ep:Nat}{f:Nat->Tok}
theorem ug (h0:m &&& d=0):(m ^^^ 1 <<< k) &&& (d ||| 1 <<< k)=0↔m.testBit k=true:=by
 constructor
 ·intro h
  have:=congrArg (λx=>x.testBit k) h
  simp only [Nat.testBit_and,Nat.testBit_xor,Nat.testBit_or,eG,Nat.zero_testBit,decide_true,Bool.or_true,Bool.and_true] at this
  simpa using this
 ·intro h
  apply Nat.eq_of_testBit_eq
  intro j
  have hj:=congrArg (λx=>x.testBit j) h0
  simp only [Nat.testBit_and,Nat.zero_testBit] at hj
  rw [Nat.testBit_and,Nat.testBit_xor,Nat.testBit_or,eG,Nat.zero_testBit]
  by_cases e:k=j
  ·subst e;rw [h];simp
  ·rw [decide_eq_false e,Bool.xor_false,Bool.or_false,hj]
theorem pX (h:m.testBit k=false):m ||| 1 <<< k=m ^^^ 1 <<< k:=by
 apply Nat.eq_of_testBit_eq
 intro j
 rw [Nat.testBit_or,Nat.testBit_xor,eG]
 by_cases e:k=j
 ·subst e;rw [h];simp
 ·rw [decide_eq_false e];simp
theorem wj (hm:m < 64) (hk:k < 6) (h1:m.testBit k=true) (f:Nat->Tok):SetTable.eraseAt (aB m f) (SetTable.below (ao m).toArray k)=aB (m ^^^ 1 <<< k) f:=by
 apply Array.toList_inj.mp
 unfold SetTable.eraseAt
 rw [Array.toList_append,Array.toList_extract,Array.toList_extract,aB.toList,aB.toList,(pY hm hk h1).2,List.map_append,aB.size]
 simp only [List.extract_eq_take_drop,List.drop_zero,Nat.sub_zero,List.map_take,List.map_drop]
 congr 1
 rw [List.take_of_length_le (by simp)]
theorem xK {t:SetTable}{by_:Bool} (T:dh by_ t m d) (hm:m < 64) (hd:d < 64) (hk:k < 6) (h1:m.testBit k=true) (h2:d.testBit k=false):dh by_ (t.drop (SetTable.below (ao m).toArray k)) (m ^^^ 1 <<< k) (d ||| 1 <<< k):=by
 have e:t.place[SetTable.below (ao m).toArray k]?=some k:=by rw [T.pl];simpa using (pY hm hk h1).1
 unfold SetTable.drop
 rw [e]
 refine⟨T.msk,?_,?_,T.led,T.plain⟩
 ·apply Array.toList_inj.mp
  show (SetTable.eraseAt t.place (SetTable.below (ao m).toArray k)).toList=_
  unfold SetTable.eraseAt
  rw [T.pl,Array.toList_append,Array.toList_extract,Array.toList_extract,(pY hm hk h1).2]
  simp only [List.extract_eq_take_drop,List.drop_zero,Nat.sub_zero]
  congr 1
  rw [List.take_of_length_le (by simp)]
 ·apply Array.toList_inj.mp
  show (SetTable.insertAt t.dummies (SetTable.below t.dummies k) k).toList=_
  rw [SetTable.toList_insertAt,T.du,qE hd hk h2]
theorem vU (hd:d < 64) (hk:k < 6):d ||| 1 <<< k < 64:=nc hd hk
theorem vT {tk:Tok}{Q:Unit->Shared->Prop} (S:aD w s.heap a m d) (hk:k < 6) (hdk:d.testBit k=false)
  (h:∀ h' d',Heap.SameBut a s.heap h'->aD w h' a (m ^^^ 1 <<< k) d'->(∀ j,j≠k->d.testBit j=false->d'.testBit j=false)->Q () { s with heap:=h' }) :
  wpAny (model prog w) A (holding [Value.int k tk] (do
   if !(<-setDiscardHashed a (.int k tk) (k:Int)) then
    let _ <-setAddHashed a (.int k tk) (k:Int))) Q E s:=by
 obtain⟨ob,ho,hm,hd,h0,hx,f,ep,t,hdat,T⟩:=id S
 have hf:=T.fits hm hd h0 f
 have hel:=rg (prog:=prog) (w:=w) m f
 have es:s={ s with heap:=s.heap }:=by cases s;rfl
 have key:(intKind prog w).is (k:Int) (.int k tk)=true:=intKind_is _ _ _ _
 have hh:(k:Int)=(intKind prog w).hash (k:Int):=(nM hk).symm
 refine wpAny_holding (wpAny_bind ?_)
 unfold setDiscardHashed setFind setFindIn
 refine wpAny_bind (wpAny_bind (wpAny_setState_of ho hdat hf ?_))
 dsimp only
 rw [byScan_of (knd:=intKind prog w) rfl (kS hm f) hel]
 simp only [↓reduceIte]
 refine wpAny_bind (wpAny_rule ?_)
 refine wpAny_bind ?_
 rw [show setScan a (Value.int k tk) (k:Int) false (aB m f)=setScan a (Value.int k tk) ((intKind prog w).hash (k:Int)) false (aB m f) from by rw [<-hh]]
 refine wpAny_setScan_of (knd:=intKind prog w) key ho hdat hf hel ?_
 rw [uU hm hk f]
 cases hb:m.testBit k with
 | true=>
  rw [if_pos rfl]
  dsimp only
  refine wpAny_pure ?_
  dsimp only
  refine wpAny_bind (wpAny_setState_of ho hdat hf ?_)
  dsimp only
  rw [Nat.zero_add,wj hm hk hb f]
  have T':=xK T hm hd hk hb hdk
  obtain⟨o1,ho1,hx1,hd1,S1⟩:=dv (w:=w) (f':=f) ho hx hdat (oa hm hk) (vU hd hk) ((ug h0).mpr hb) T'
  refine wpAny_bind (wpAny_storeSet_of ho hdat ?_ (cP (oa hm hk) f))
  refine wpAny_bind (wpAny_point (wpAny_pure ?_))
  simp only [Bool.not_true,Bool.false_eq_true,↓reduceIte]
  refine wpAny_pure (h _ _ (Heap.SameBut.update ..) S1 λj hj hdj=>?_)
  rw [Nat.testBit_or,eG,hdj,decide_eq_false (Ne.symm hj)];rfl
 | false=>
  rw [if_neg Bool.false_ne_true]
  dsimp only
  refine wpAny_pure ?_
  dsimp only
  refine wpAny_pure ?_
  simp only [Bool.not_false,↓reduceIte]
  refine wpAny_bind (nu S hk (.inr hdk) λh' d' b sb S' hd'=>wpAny_pure ?_)
  rw [pX hb] at S'
  refine h h' d' sb S' λj hj hdj=>?_
  rcases hd' with z | z
  ·rw [z];exact hdj
  ·rw [z];exact Nat.zero_testBit _
noncomputable def pe (l:List Nat):Nat:=l.foldl (λm k=>m ^^^ 1 <<< k) 0
theorem iG:∀ (l:List Nat) (m:Nat),l.foldl (λm k=>m ^^^ 1 <<< k) m=m ^^^ pe l
 | [],m=>(Nat.xor_zero m).symm
 | k::l,m=>by
  unfold pe
  rw [List.foldl_cons,List.foldl_cons,iG l,iG l (0 ^^^ 1 <<< k),Nat.zero_xor,Nat.xor_assoc]
theorem lW (k:Nat) (l:List Nat):pe (k::l)=1 <<< k ^^^ pe l:=by
 show (k::l).foldl (λm k=>m ^^^ 1 <<< k) 0=_
 rw [List.foldl_cons,iG,Nat.zero_xor]
theorem mm (j:Nat):∀ l:List Nat,l.Nodup->(pe l).testBit j=decide (j ∈ l)
 | [],_=>by simp [pe]
 | k::l,hn=>by
  have hn':=List.nodup_cons.mp hn
  rw [lW,Nat.testBit_xor,eG,mm j l hn'.2]
  by_cases e:k=j
  ·subst e;simp [hn'.1]
  ·rw [decide_eq_false e,Bool.false_xor]
   simp [show ¬ j=k from λz=>e z.symm]
theorem sL {l:List Nat} (h:l.Nodup):pe l=dz l:=by
 apply Nat.eq_of_testBit_eq
 intro j
 rw [mm j l h,dD]
theorem oU (m:Nat):(ao m).Nodup:=List.Pairwise.filter _ List.nodup_range
theorem xD {Q:Value->Shared->Prop} (S1:aD w s.heap a m1 0) (S2:aD w s.heap b m2 0) (hab:a≠b)
  (h:∀ h' p d,(∀ c o,s.heap.get? c=some o->h'.get? c=some o)->s.heap.objs.size<=p->aD w h' p (m2 ^^^ m1) d->Q (.ref p) { s with heap:=h' }) :
  wpAny (model prog w) A (binaryOp .BitXor (.ref a) (.ref b)) Q E s:=by
 refine wpAny_binaryOp_same (op:=.BitXor) (T:="set") S1.type S2.type PySem.F.fills_set_xor PySem.F.slot_set_xor (wpAny_call_entry PySem.F.slot_set_xor S1.type lN ?_ (PySem.F.args_set_xor_2 _ _))
 unfold Builtin.«frozenset.__xor__»
 wp_delta
 unfold Builtin.Frozenset.slot1 slotArgs
 simp only [List.isEmpty_nil,Bool.not_true,Bool.false_eq_true,↓reduceIte,List.length_nil,List.length_cons,bne_self_eq_false]
 refine wpAny_bind (wpAny_bind (wpAny_pure (wpAny_pure ?_)))
 dsimp only
 refine wpAny_bind ?_
 unfold andM
 refine wpAny_bind (fY S1.type ?_)
 show wpAny _ _ (Builtin.Frozenset.isAnySet (.ref b)) _ _ _
 refine fY S2.type ?_
 simp only [Bool.not_true,Bool.false_eq_true,↓reduceIte]
 unfold Builtin.Frozenset.addrOf
 refine wpAny_bind (wpAny_pure ?_)
 try dsimp only
 refine wpAny_bind ?_
 wp_delta
 unfold Builtin.Frozenset.newFrom
 refine wpAny_bind (pp S1.type ?_)
 refine wpAny_bind (wpAny_bind (qV λS0=>?_))
 have la:a < s.heap.objs.size:=let ⟨o,ho,_⟩:=S1;Heap.lt_size ho
 have lb:b < s.heap.objs.size:=let ⟨o,ho,_⟩:=S2;Heap.lt_size ho
 refine wpAny_bind (m:=pure s.heap.objs.size) (wpAny_pure ?_)
 refine wpAny_bind (wpAny_holding ?_)
 have S2':aD w (s.heap.push { cls:=.type "set",dict:=none,data:=.set #[] 0 (.fresh 0 0 (!byT w)) }) b m2 0:=S2.at' λo e=>Heap.get?_push_of_some _ e
 refine kO (s:={ s with heap:=s.heap.push { cls:=.type "set",dict:=none,data:=.set #[] 0 (.fresh 0 0 (!byT w)) } }) (Nat.ne_of_gt lb) S0 S2' λh1 sb1 T1=>?_
 rw [Nat.zero_or] at T1
 refine wpAny_pure ?_
 refine wpAny_bind (m:=pure s.heap.objs.size) (wpAny_pure ?_)
 refine wpAny_bind (wpAny_holding ?_)
 have S1':aD w h1 a m1 0:=(S1.at' λo e=>Heap.get?_push_of_some _ e).keep (Nat.ne_of_lt la) sb1
 obtain⟨f1,ep1,D1⟩:=S1'.dat
 unfold Builtin.Frozenset.symmetricDifferenceUpdate
 have hne:(Value.ref a==Value.ref s.heap.objs.size)=false:=by simp [Nat.ne_of_lt la]
 rw [if_neg (by rw [hne];exact Bool.false_ne_true)]
 dsimp only
 refine wpAny_bind (wpAny_typeOf (T:="set") (S1'.type (s:={ s with heap:=h1 })) ?_)
 rw [if_neg (by decide)]
 refine wpAny_bind (fY (s:={ s with heap:=h1 }) S1'.type ?_)
 rw [if_pos rfl]
 refine wpAny_bind (wpAny_pure ?_)
 refine wpAny_bind (m:=pure a) (wpAny_pure ?_)
 unfold setEpoch
 refine wpAny_bind (wpAny_bind (D1.state (s:={ s with heap:=h1 }) λt T=>wpAny_pure ?_))
 dsimp only
 refine wpAny_holding ?_
 refine wpAny_bind (D1.unseen (s:={ s with heap:=h1 }) ?_)
 rw [<-Array.forIn_toList]
 have kp:∀ {h':Heap},Heap.SameBut s.heap.objs.size h1 h'->bo w h' a m1 0 f1 ep1:=λsb=>D1.keep (Nat.ne_of_lt la) sb
 refine wpAny_bind (jZ (λl s'=>∃ h' m' d',s'={ s with heap:=h' }/\Heap.SameBut s.heap.objs.size h1 h'/\aD w h' s.heap.objs.size m' d'/\m' ^^^ pe (gz l)=m2 ^^^ m1/\xO l/\(gz l).Nodup/\∀ j ∈ gz l,d'.testBit j=false) (λx l s' hJ=>?_) _ _ _ ⟨h1,m2,0,rfl,Heap.SameBut.refl ..,T1,?_,jU _ _ _ _ _,(fD w a m1 f1 ep1).nodup_iff.mpr (oU m1),λj _=>Nat.zero_testBit j⟩ λs' hJ=>?_)
 ·obtain⟨h',m',d',rfl,sb,S',hbm,hE,hN,hD⟩:=hJ
  obtain⟨k,tk,hk,rfl⟩:=hE x List.mem_cons_self
  have eK:gz (((k:Int),Value.int k tk)::l)=k::gz l:=by show (k:Int).toNat::gz l=_;rw [Int.toNat_natCast]
  rw [eK] at hbm hN hD
  dsimp only
  refine wpAny_bind (vT (s:={ s with heap:=h' }) S' hk (hD k List.mem_cons_self) λh2 d2 sb2 S2' hd2=>?_)
  refine wpAny_bind (vI { s with heap:=h2 } _ (kp (sb.trans sb2)) (wpAny_pure ⟨rfl,h2,_,d2,rfl,sb.trans sb2,S2',?_,λe he=>hE e (List.mem_cons_of_mem _ he),(List.nodup_cons.mp hN).2,λj hj=>hd2 j (λe=>(List.nodup_cons.mp hN).1 (e ▸ hj)) (hD j (List.mem_cons_of_mem _ hj))⟩))
  rw [<-hbm,lW,Nat.xor_assoc]
 ·rw [sL ((fD w a m1 f1 ep1).nodup_iff.mpr (oU m1)),lm (fD ..),hV D1.1]
 ·obtain⟨h',m',d',rfl,sb,S',hbm,hE,hN,hD⟩:=hJ
  have e0:m'=m2 ^^^ m1:=by rw [<-hbm];exact (Nat.xor_zero m').symm
  rw [e0] at S'
  refine wpAny_pure (wpAny_pure (wpAny_pure ⟨_,rfl,(λe=>nomatch e),h h' _ d' (λc o e=>?_) (Nat.le_refl _) S'⟩))
  have hc:c≠s.heap.objs.size:=Nat.ne_of_lt (Heap.lt_size e)
  exact (sb.2 c hc).trans ((sb1.2 c hc).trans (Heap.get?_push_of_some _ e))
end
end L2
namespace L2
open PySem PySem.Spec PyProof.Rows
section
variable {prog:Program}{w:World}{A:Around}{E:Value->Shared->Prop}{s:Shared}{a:Addr}{m d ep:Nat}{f:Nat->Tok}
theorem oD {Q:List Value->Shared->Prop} (S:bo w s.heap a m d f ep) (hh:A.handled=none)
  (h:∀ h' tk,(∀ b o,s.heap.get? b=some o->h'.get? b=some o)->s.heap.objs.size < h'.objs.size->Q ((fM w a m f ep).toList.map (·.2)) { s with heap:=h',toks:=tk }) :
  wpAny (model prog w) A (collect (.ref a)) Q E s:=by
 have hlt:a < s.heap.objs.size:=let ⟨_,_,_,o,t,ho,_⟩:=S;Heap.lt_size ho
 have hn:(ao m).length<=sizeLine:=by have:=eN S.1;rw [sizeLine_eq];lia
 unfold collect
 refine wpAny_bind (wpAny_runValue (codeAny_builtin entry_proto_collect' ?_))
 show wpAny _ _ (do again (.builtin "list.__iadd__" ⟨[<-newList [],.ref a],[]⟩)) _ _ s
 refine wpAny_bind (wpAny_newList (wpAny_pure ⟨Code.quiet_builtin _ (by decide +kernel),codeAny_builtin entry_list_iadd' ?_⟩))
 show wpAny _ _ (Builtin.List.listExtendWith (.ref s.heap.objs.size) (.ref a) (.ref s.heap.objs.size)) _ _ { s with heap:=s.heap.push (seqObj "list" #[] 0) }
 refine PySem.W.kdl_extend (A:=A) (R:=λr s'=>match r with
   | .ok (.ret v)=>wpAny (model prog w) A (match v with
     | .ref a=>do
      let o <-load a
      match o.data with
      | .seq xs _=>pure xs.toList
      | _=>unsupported "internal:collect"
     | _=>unsupported "internal:collect") Q E s'
   | .ok _=>False
   | .error e=>E e s') (s:={ s with heap:=s.heap.push (seqObj "list" #[] 0) }) (yb prog w a m d ep f) hh (S.at' λo e=>Heap.get?_push_of_some _ e) s.heap.objs.size (Nat.ne_of_gt hlt) (Nat.ne_of_gt hlt) (.ref s.heap.objs.size) 0 (Heap.get?_push_size _ rfl) (λh' tk acc c hk hS hI=>?_) hn
 show wpAny (model prog w) A (do
   let o <-load s.heap.objs.size
   match o.data with
   | .seq xs _=>pure xs.toList
   | _=>unsupported "internal:collect") Q E { s with heap:=h',toks:=tk }
 refine wpAny_bind (wpAny_load hS ?_)
 show wpAny _ _ (pure acc.toList) Q E _
 have e:acc.toList=(fM w a m f ep).toList.map (·.2):=by
  apply List.ext_getElem?
  intro i
  rw [List.getElem?_map,Array.getElem?_toList,Array.getElem?_toList]
  by_cases hi:i < acc.size
  ·obtain⟨e,he,hv⟩:=hI.2 i acc[i] (Array.getElem?_eq_getElem hi)
   rw [he,Array.getElem?_eq_getElem hi,hv];rfl
  ·rw [Array.getElem?_eq_none (by lia),Array.getElem?_eq_none (by rw [ij,<-hI.1];lia)];rfl
 rw [e]
 refine wpAny_pure (h h' tk (λb o q=>?_) (Heap.lt_size hS))
 exact hk b o (Nat.ne_of_lt (Heap.lt_size q)) (Heap.get?_push_of_some _ q)
theorem oZ (w:World) (a:Addr) (m:Nat) (f:Nat->Tok) (ep:Nat):∀ {l:List (Int×Value)},xO l->IntsAre (l.map (·.2)) (l.map (·.1))
 | [],_=>.nil
 | e::l,h=>by
  obtain⟨k,t,_,rfl⟩:=h e List.mem_cons_self
  exact .cons _ _ (oZ w a m f ep λe he=>h e (List.mem_cons_of_mem _ he))
theorem tP (m:Nat):((ao m).map λk=>((k:Nat):Int)).Pairwise (·<=·):=by
 rw [List.pairwise_map]
 have:(List.range 6).Pairwise (· < ·):=List.pairwise_lt_range
 exact (this.filter _).imp λ{a b} h=>by lia
theorem qu {Q:Value->Shared->Prop} (S:aD w s.heap a m d) (hh:A.in1.handled=none)
  (h:∀ (h':Heap) (tk:Nat) (p:Addr) (ep:Nat) (out:List Value),(∀ b o,s.heap.get? b=some o->h'.get? b=some o)->s.heap.objs.size<=p->h'.get? p=some (seqObj "list" out.toArray ep)->ay (((ao m).map λk=>((k:Nat):Int)).map V.int) out->Q (.ref p) { s with heap:=h',toks:=tk }) :
  wpAny (model prog w) A (call (.builtin "sorted") [.ref a]) Q E s:=by
 obtain⟨f,ep,D⟩:=S.dat
 refine Calls.call_function_entry kind_sorted plain_sorted entry_sorted (args_sorted1 _) ?_
 unfold Builtin.«sorted»
 refine wpAny_bind (m:=checkCount "sorted" 1 1 _) (wpAny_pure ?_)
 refine wpAny_bind (oD D hh λh1 tk hk hlt=>?_)
 have hI:=oZ w a m f ep (jU w a m f ep)
 generalize hvs:(fM w a m f ep).toList.map (·.2)=vs at hI ⊢
 have hv64:vs.length<=64:=by
  have:=eN D.1
  rw [<-hvs,List.length_map,Array.length_toList,ij];lia
 refine wpAny_bind (wpAny_newList ?_ (by rw [sizeLine_eq];lia))
 have hoL:(h1.push (seqObj "list" vs.toArray 0)).get? h1.objs.size=some (seqObj "list" vs.toArray 0):=Heap.get?_push_size _ rfl
 show wpAny _ _ _ _ _ { s with heap:=h1.push (seqObj "list" vs.toArray 0),toks:=tk }
 refine wpAny_bind (wpAny_holding (wpAny_call_entry slot_list_sort ⟨_,hoL,rfl⟩ entry_list_sort (fX (O:=OI) (rk:=λp=>[aU p.1]) (S:=λp=>∃ n t,p.1=.int n t) (s:={ s with heap:=h1.push (seqObj "list" vs.toArray 0),toks:=tk }) hoL hv64 (λh' _=>⟨oneType',pE (s:={ s with heap:=h',toks:=tk }) hI⟩) (λv hv=>fj hI v hv) λout a1 a2=>⟨_,rfl,?_⟩) (args_list_sort _)))
 refine wpAny_pure ⟨_,rfl,?_⟩
 obtain⟨ep',he⟩:=sortedHeap_at (out:=out.toArray) hoL
 refine h _ tk h1.objs.size ep' out (λb o q=>?_) (Nat.le_of_lt hlt) he ?_
 ·have q1:=hk b o q
  have hb:b < h1.objs.size:=Heap.lt_size q1
  show (sortedHeap (h1.push (seqObj "list" vs.toArray 0)) h1.objs.size vs out.toArray).get? b=some o
  rw [sortedHeap_old (Nat.ne_of_lt hb) (by rw [size_push'];exact Nat.lt_succ_of_lt hb),Heap.get?_push_ne _ _ _ (Nat.ne_of_lt hb)]
  exact q1
 ·have ho:∀ u ∈ out,∃ n t,u=.int n t:=λu hu=>fj hI u (a1.mem_iff.mp hu)
  have hpm:(out.map aU).Perm ((ao m).map λk=>((k:Nat):Int)):=by
   have z1:=a1.map aU
   rw [iq hI] at z1
   have z2:=(fD w a m f ep).map (λk=>((k:Nat):Int))
   refine z1.trans (List.Perm.trans ?_ z2)
   unfold gz
   rw [List.map_map]
   refine List.Perm.of_eq (List.map_congr_left λe he=>?_)
   obtain⟨k,t,_,rfl⟩:=jU w a m f ep e he
   simp
  have hs:(out.map aU).Pairwise (·<=·):=by
   rw [List.pairwise_map]
   refine a2.imp λ{x y} q=>?_
   have q':bD [aU y] [aU x]=false:=q
   by_cases e:aU y=aU x
   ·lia
   ·have:bD [aU y] [aU x]=decide (aU y < aU x):=by show (if _ then _ else _)=_;rw [if_neg e]
    rw [this,decide_eq_false_iff_not] at q';lia
  have e:=jm hpm hs (tP m)
  have hvv:=eL (iU ho)
  rw [e] at hvv;exact hvv
end
noncomputable def PX (X:Cx) (z:Bool) (e:Expr) (t:St->Hp->(Nat->Hp->Prop)->Prop):Prop:=
 ∀ (pins:List (Addr×Obj)) (s:Shared) (σ:St) (H:Hp) (Q:Nat->Hp->Prop),Inv X pins σ H s->t σ H Q->wpAny (model X.prog X.w) X.A (eval e X.env)
  (λu s'=>∃ a o m d H',u=.ref a/\s'.heap.get? a=some o/\wF X.w o m d/\(z=true->d=0)/\H' a=none/\a≠X.env.locals/\a ∉ X.fs/\(∀ p ∈ pins,p.1≠a)/\Inv X pins σ H' s'/\Q m H') X.xe s
abbrev Xf:=Ev->Sto->Option (Nat×Sto)
noncomputable def tIX (K:PySem.W.Frag) (env:Ev) (st:Sto) (r:Nat×Sto):St->Hp->(Nat->Hp->Prop)->Prop:=λσ H Q=>∃ φ,Er K H φ env σ/\Sr K H φ st/\∀ H' φ',Fw φ φ' H H'->Sr K H' φ' r.2->Q r.1 H'
structure IX (K:PySem.W.Frag) (X:Cx) (z:Bool) (e:Expr) (f:Xf):Prop where
 run:∀ env st r,f env st=some r->PX X z e (tIX K env st r)
noncomputable def cz (fe:Ef):Xf
 | env,st=>(fe env st).bind λx=>(el x.2 x.1).bind λds=>(aH ds).bind λns=>if in6 ns=true then some (au ns,x.2) else none
noncomputable def ly (fa fb:Xf):Xf
 | env,st=>(fa env st).bind λx=>(fb env x.2).map λy=>(x.1 ||| y.1,y.2)
noncomputable def ix (fa fb:Xf):Xf
 | env,st=>(fa env st).bind λx=>(fb env x.2).map λy=>(y.1 ^^^ x.1,y.2)
noncomputable def fu (fx:Xf):Lf
 | env,st=>(fx env st).map λx=>((ao x.1).map λk=>D.int (k:Nat),x.2)
section
variable {K:PySem.W.Frag}{X:Cx}{pos p:Pos}{e a b:Expr}{fe:Ef}{fa fb:Xf}
theorem mO (hg:Gl X "set") (hm:X.mg "set" = none) (ha:IE K X e fe) (hc:X.calm=true:=by rfl) (hs:aA e=true:=by rfl) (hK:X.K=K:=by rfl):IX K X true (.Call (.Name "set" p) [e] [] pos) (cz fe):=by
 subst hK
 refine⟨λenv st r hr=>?_⟩
 simp only [cz,Option.bind_eq_some_iff] at hr
 obtain⟨⟨x,s1⟩,hx,ds,hds,ns,hns,hr⟩:=hr
 split at hr
 ·rename_i h6
  cases hr
  intro pins s σ H Q I h
  refine wpAny_Call_Name_kw (fR I hg hm PyProof.Rows.boot_set ?_)
  refine PyProof.Rows.callWith_type1 ?_ (aX hs) (bY (es:=[]) rfl)
  rw [aX hs]
  show wpAny _ _ (spliced ((false,eval e X.env)::backTo pos (starEach [] X.env))) _ _ s
  obtain⟨φ,hE,hS,q⟩:=h
  refine Calls.spliced_cons (thn ((ha.run _ _ _ hx) pins s σ H (λv H'=>∃ φ',Sr X.K H' φ' s1/\Fw φ φ' H H'/\Rw X.K H' φ' x v) I ⟨φ,hE,hS,λv H' φ' f1 S1 w1=>⟨φ',S1,f1,w1⟩⟩) λu s2 ⟨v,H1,I1,r1,φ1,S1,f1,w1⟩=>?_)
  show wpAny _ _ (spliced []) _ _ s2
  refine Calls.spliced_nil ?_
  obtain⟨ad,vs,rfl,h1,h2⟩:=im S1 w1 hds
  cases r1
  cases cw hns
  cases h2.ints
  have fin:∀ (h':Heap) (tk:Nat),aD X.w h' s2.heap.objs.size (au ns) 0->(∀ b o,b < s2.heap.objs.size->s2.heap.get? b=some o->h'.get? b=some o)->
    ∃ a o m d H',Value.ref s2.heap.objs.size=.ref a/\(({ s2 with heap:=h',toks:=tk }:Shared)).heap.get? a=some o/\wF X.w o m d/\(true=true->d=0)/\H' a=none/\a≠X.env.locals/\a ∉ X.fs/\(∀ p ∈ pins,p.1≠a)/\Inv X pins σ H' { s2 with heap:=h',toks:=tk }/\Q m H':=λh' tk ⟨o,ho,so⟩ hk=>by
   refine⟨_,o,_,0,H1,rfl,ho,so,λ_=>rfl,I1.hok.fresh (Nat.le_refl _),Nat.ne_of_gt I1.lt,I1.nofs (Nat.le_refl _),λp hp=>Nat.ne_of_lt (Heap.lt_size (I1.pin p (List.mem_append_right _ hp)).1),I1.kept (λb u e=>hk b u (Heap.lt_size e) e),q H1 φ1 f1 S1⟩
  rcases h1 with h1 | h1
  ·obtain⟨its,rv,pl,_⟩:=I1.list h1
   exact lM (items:=its.toArray) (ns:=ns) (I1.ok.hd hc) pl.isList (by simpa using eP rv) h6 fin
  ·obtain⟨its,rv,pl,_⟩:=I1.tuple h1
   exact li (items:=its.toArray) (ns:=ns) (I1.ok.hd hc) pl (by simpa using eP rv) h6 fin
 ·cases hr
theorem wc {op:Operator}{g:Nat->Nat->Nat}{env:Ev}{st:Sto}{x y:Nat×Sto} (ha:PX X true a (tIX K env st x)) (hb:PX X true b (tIX K env x.2 y))
  (hop:∀ (s:Shared) (u v:Addr) (m1 m2:Nat) (Q:Value->Shared->Prop),aD X.w s.heap u m1 0->aD X.w s.heap v m2 0->u≠v->
    (∀ h' p d,(∀ c o,s.heap.get? c=some o->h'.get? c=some o)->s.heap.objs.size<=p->aD X.w h' p (g m1 m2) d->Q (.ref p) { s with heap:=h' })->wpAny (model X.prog X.w) X.A (binaryOp op (.ref u) (.ref v)) Q X.xe s) :
  PX X false (.BinOp a op b pos) (tIX K env st (g x.1 y.1,y.2)):=by
 intro pins s σ H Q I h
 obtain⟨φ,hE,hS,q⟩:=h
 refine wpAny_BinOp (thn (ha pins s σ H (λm H'=>m=x.1/\∃ φ',Sr K H' φ' x.2/\Fw φ φ' H H') I ⟨φ,hE,hS,λH' φ' f1 S1=>⟨rfl,φ',S1,f1⟩⟩) λu s1 hu=>?_)
 obtain⟨a1,o1,m1,d1,H1,rfl,g1,so1,z1,n1,l1,fs1,pn1,I1,rfl,φ1,S1,f1⟩:=hu
 have cells:∀ v,o1.data≠.cell v:=λv hv=>by obtain⟨_,_,_,_,f,ep,t,hd,_⟩:=so1;rw [hd] at hv;cases hv
 have I1':Inv X ((a1,o1)::pins) σ H1 s1:=I1.pins_of λp hp=>by
  rcases List.mem_cons.mp hp with rfl | hp
  ·exact⟨g1,n1,l1,fs1,cells⟩
  ·exact I1.pin p (List.mem_append_right _ hp)
 refine thn (hb ((a1,o1)::pins) s1 σ H1 (λm H'=>m=y.1/\∃ φ',Sr K H' φ' y.2/\Fw φ1 φ' H1 H') I1' ⟨φ1,hE.fw hS f1,S1,λH' φ' f2 S2=>⟨rfl,φ',S2,f2⟩⟩) λv s2 hv=>?_
 obtain⟨a2,o2,m2,d2,H2,rfl,g2,so2,z2,n2,l2,fs2,pn2,I2,rfl,φ2,S2,f2⟩:=hv
 cases z1 rfl
 cases z2 rfl
 have ga:=(I2.pin (a1,o1) (List.mem_append_right _ List.mem_cons_self)).1
 refine hop s2 a1 a2 x.1 y.1 _ ⟨o1,ga,so1⟩ ⟨o2,g2,so2⟩ (pn2 _ List.mem_cons_self) λh' p d hk hp ⟨o3,g3,so3⟩=>?_
 have I2':Inv X pins σ H2 s2:=I2.pins_of λp hp=>I2.pin p (List.mem_append_right _ (List.mem_cons_of_mem _ hp))
 have I3:Inv X pins σ H2 { s2 with heap:=h' }:=I2'.kept (t':=s2.toks) hk
 exact⟨p,o3,_,d,H2,rfl,g3,so3,(λz=>nomatch z),I2.hok.fresh hp,Nat.ne_of_gt (Nat.lt_of_lt_of_le I2.lt hp),I2.nofs hp,λp' hp'=>Nat.ne_of_lt (Nat.lt_of_lt_of_le (Heap.lt_size (I2'.pin p' (List.mem_append_right _ hp')).1) hp),I3,q H2 φ2 (f1.trans f2) S2⟩
theorem AG (ha:IX K X true a fa) (hb:IX K X true b fb):IX K X false (.BinOp a .BitOr b pos) (ly fa fb):=by
 refine⟨λenv st r hr=>?_⟩
 simp only [ly,Option.bind_eq_some_iff,Option.map_eq_some_iff] at hr
 obtain⟨x,hx,y,hy,rfl⟩:=hr
 exact wc (g:=λm1 m2=>m1 ||| m2) (ha.run _ _ _ hx) (hb.run _ _ _ hy) λs u v m1 m2 Q S1 S2 hne h=>tZ S1 S2 hne λh' p hk hp S=>h h' p 0 hk hp S
theorem zX (ha:IX K X true a fa) (hb:IX K X true b fb):IX K X false (.BinOp a .BitXor b pos) (ix fa fb):=by
 refine⟨λenv st r hr=>?_⟩
 simp only [ix,Option.bind_eq_some_iff,Option.map_eq_some_iff] at hr
 obtain⟨x,hx,y,hy,rfl⟩:=hr
 exact wc (g:=λm1 m2=>m2 ^^^ m1) (ha.run _ _ _ hx) (hb.run _ _ _ hy) λs u v m1 m2 Q S1 S2 hne h=>xD S1 S2 hne λh' p d hk hp S=>h h' p d hk hp S
theorem oq {z:Bool} (hg:Gl X "sorted") (hm:X.mg "sorted" = none) (ha:IX K X z e fa) (hc:X.calm=true:=by rfl) (hs:aA e=true:=by rfl):IL K X (.Call (.Name "sorted" p) [e] [] pos) (fu fa):=by
 refine⟨λenv st r hr=>?_⟩
 simp only [fu,Option.map_eq_some_iff] at hr
 obtain⟨x,hx,rfl⟩:=hr
 intro pins s σ H Q I h
 obtain⟨φ,hE,hS,q⟩:=h
 refine wpAny_Call_Name_kw (fR I hg hm PyProof.Rows.boot_sorted ?_)
 refine PyProof.Rows.callWith_builtin1 ?_ (aX hs) (bY (es:=[]) rfl)
 rw [aX hs]
 show wpAny _ _ (spliced ((false,eval e X.env)::backTo pos (starEach [] X.env))) _ _ s
 refine Calls.spliced_cons (thn ((ha.run _ _ _ hx) pins s σ H (λm H'=>m=x.1/\∃ φ',Sr K H' φ' x.2/\Fw φ φ' H H') I ⟨φ,hE,hS,λH' φ' f1 S1=>⟨rfl,φ',S1,f1⟩⟩) λu s1 hu=>?_)
 obtain⟨a1,o1,m1,d1,H1,rfl,g1,so1,z1,n1,l1,fs1,pn1,I1,rfl,φ1,S1,f1⟩:=hu
 show wpAny _ _ (spliced []) _ _ s1
 refine Calls.spliced_nil ?_
 refine qu ⟨o1,g1,so1⟩ (I1.ok.hd hc) λh' tk p' ep out hk hp he hv=>?_
 have hn:H1 p'=none:=I1.hok.fresh hp
 have hlen:out.length<=1000:=by
  have:=eN so1.1
  rw [<-hv.length,List.length_map,List.length_map];lia
 have hlay:Inv X pins σ (upd H1 p' (.lst (((ao x.1).map λk=>((k:Nat):Int)).map V.int))) { s1 with heap:=h',toks:=tk }:=by
  refine I1.laid (t':=tk) (a:=p') (o:=.lst (((ao x.1).map λk=>((k:Nat):Int)).map V.int)) hk hp ⟨?_,out,ep,hv,by simpa [seqObj] using he⟩
  rw [hv.length];exact eJ hlen
 refine⟨.ref p',_,hlay,rfl,q p' _ H1 φ1 f1 S1 hn ?_⟩
 have:=Rls.of_ints (K:=K) (H:=H1) (φ:=φ1) ((ao x.1).map λk=>((k:Nat):Int))
 rw [List.map_map] at this
 exact this
end
end L2
namespace L2
open PySem PySem.Spec PyProof.Rows
theorem pig:∀ (n:Nat) (l:List Nat),(∀ j,j < n->j ∈ l)->n<=l.length
 | 0,_,_=>Nat.zero_le _
 | n+1,l,h=>by
  have hm:=h n (Nat.lt_succ_self n)
  have:=pig n (l.erase n) λj hj=>(List.mem_erase_of_ne (by lia)).mpr (h j (by lia))
  rw [List.length_erase_of_mem hm] at this
  have:0 < l.length:=List.length_pos_of_mem hm
  lia
theorem BK {n:Nat}{l:List Nat} (h:l.length < n):∃ j,j < n/\j ∉ l:=by
 apply Classical.byContradiction
 intro z
 have:=pig n l λj hj=>Classical.byContradiction λq=>z ⟨j,hj,q⟩
 lia
theorem u6 {l:List Nat}{i j:Nat} (h:i < l.length):l.toArray.getD i j=l[i]:=by
 simp [Array.getD,h]
theorem j5 {l:List Nat} (hl:l.Pairwise (· < ·)) (j:Nat):∀ (fuel lo hi:Nat),hi - lo<=fuel->lo<=hi->hi<=l.length->(∀ i (h:i < l.length),i < lo->l[i] < j)->(∀ i (h:i < l.length),hi<=i->j<=l[i])->
  SetTable.below.go l.toArray j fuel lo hi<=l.length/\(∀ i (h:i < l.length),i < SetTable.below.go l.toArray j fuel lo hi->l[i] < j)/\(∀ i (h:i < l.length),SetTable.below.go l.toArray j fuel lo hi<=i->j<=l[i])
 | 0,lo,hi,h1,h2,h3,h4,h5=>by
  have:lo=hi:=by lia
  subst this
  exact⟨h3,h4,h5⟩
 | fuel+1,lo,hi,h1,h2,h3,h4,h5=>by
  unfold SetTable.below.go
  by_cases hlt:lo < hi
  ·rw [if_pos hlt]
   dsimp only
   have hm:(lo+hi) / 2 < l.length:=by lia
   rw [u6 hm]
   by_cases hc:l[(lo+hi) / 2] < j
   ·rw [if_pos hc]
    refine j5 hl j fuel _ _ (by lia) (by lia) h3 (λi h hi'=>?_) h5
    by_cases e:i=(lo+hi) / 2
    ·subst e;exact hc
    ·exact Nat.lt_trans (List.pairwise_iff_getElem.mp hl i _ h hm (by lia)) hc
   ·rw [if_neg hc]
    refine j5 hl j fuel _ _ (by lia) (by lia) (by lia) h4 (λi h hi'=>?_)
    by_cases e:i=(lo+hi) / 2
    ·subst e;exact Nat.le_of_not_lt hc
    ·exact Nat.le_trans (Nat.le_of_not_lt hc) (Nat.le_of_lt (List.pairwise_iff_getElem.mp hl _ i hm h (by lia)))
  ·rw [if_neg hlt]
   have:lo=hi:=by lia
   subst this
   exact⟨h3,h4,h5⟩
theorem lz {l:List Nat} (hl:l.Pairwise (· < ·)) (j:Nat):SetTable.below l.toArray j<=l.length/\(∀ i (h:i < l.length),i < SetTable.below l.toArray j->l[i] < j)/\(∀ i (h:i < l.length),SetTable.below l.toArray j<=i->j<=l[i]):=by
 unfold SetTable.below
 exact j5 hl j _ _ _ (by simp) (Nat.zero_le _) (by simp) (λi h z=>absurd z (Nat.not_lt_zero _)) (λi h z=>absurd z (by simp at *;lia))
noncomputable def gt (l:List Nat) (i:Nat):Nat:=if i=0 then 0 else l.getD (i - 1) 0+1
theorem qC {l:List Nat} (hl:l.Pairwise (· < ·)) {i:Nat} (hi:i<=l.length):SetTable.below l.toArray (gt l i)=i:=by
 obtain⟨h1,h2,h3⟩:=lz hl (gt l i)
 generalize hk:SetTable.below l.toArray (gt l i)=k at h1 h2 h3
 by_cases hi0:i=0
 ·subst hi0
  have e:gt l 0=0:=rfl
  rw [e] at h2
  by_cases hk0:k=0
  ·exact hk0
  ·exact absurd (h2 0 (by lia) (by lia)) (Nat.not_lt_zero _)
 ·have hi1:i - 1 < l.length:=by lia
  have e:gt l i=l[i - 1]+1:=by unfold gt;rw [if_neg hi0,List.getD_eq_getElem?_getD,List.getElem?_eq_getElem hi1];rfl
  rw [e] at h2 h3
  by_cases c1:k < i
  ·have:=h3 (i - 1) hi1 (by lia);lia
  ·by_cases c2:i < k
   ·have a1:=h2 i (by lia) c2
    have a2:=List.pairwise_iff_getElem.mp hl (i - 1) i hi1 (by lia) (by lia)
    lia
   ·lia
noncomputable def lp (M i:Nat):Nat:=(i*5+1) % M
noncomputable def lpN (M:Nat):Nat->Nat->Nat
 | 0,i=>i
 | n+1,i=>lpN M n (lp M i)
noncomputable def lpB (M:Nat):Nat->Nat->Nat->Nat
 | 0,_,acc=>acc
 | n+1,i,acc=>lpB M n (lp M i) (acc ||| 1 <<< i)
theorem nU (M j:Nat):∀ n i acc,(lpB M n i acc).testBit j=true->acc.testBit j=true\/∃ q,q < n/\lpN M q i=j
 | 0,i,acc,h=>.inl h
 | n+1,i,acc,h=>by
  rcases nU M j n (lp M i) (acc ||| 1 <<< i) h with z | ⟨q,hq,e⟩
  ·rw [Nat.testBit_or,eG,Bool.or_eq_true] at z
   rcases z with z | z
   ·exact .inl z
   ·exact .inr ⟨0,Nat.succ_pos n,of_decide_eq_true z⟩
  ·exact .inr ⟨q+1,by lia,e⟩
noncomputable def gM:List Nat:=[7,31,127]
theorem yx:(gM.all λm=>(List.range (m+1)).all λa=>lpB (m+1) (m+1) a 0==2 ^ (m+1) - 1)=true:=by decide +kernel
theorem zO {m a j:Nat} (hm:m ∈ gM) (ha:a < m+1) (hj:j < m+1):∃ q,q < m+1/\lpN (m+1) q a=j:=by
 have h:=List.all_eq_true.mp (List.all_eq_true.mp yx m hm) a (List.mem_range.mpr ha)
 have:=nU (m+1) j (m+1) a 0 (by rw [eq_of_beq h,Nat.testBit_two_pow_sub_one];exact decide_eq_true hj)
 rcases this with z | z
 ·rw [Nat.zero_testBit] at z;cases z
 ·exact z
noncomputable def cr (m:Nat):Nat->Nat×Nat->Nat×Nat
 | 0,x=>x
 | n+1,x=>cr m n (SetTable.leap m x.1 x.2)
theorem kG (m:Nat):∀ n x,cr m (n+1) x=SetTable.leap m (cr m n x).1 (cr m n x).2
 | 0,x=>rfl
 | n+1,x=>kG m n (SetTable.leap m x.1 x.2)
theorem lY (m:Nat):∀ n k x,cr m (n+k) x=cr m k (cr m n x)
 | 0,k,x=>by rw [Nat.zero_add];rfl
 | n+1,k,x=>by rw [Nat.succ_add];exact lY m n k _
theorem rT (m:Nat):∀ n x,(cr m n x).2=x.2 / 32 ^ n
 | 0,x=>by simp [cr]
 | n+1,x=>by
  show (cr m n (SetTable.leap m x.1 x.2)).2=_
  rw [rT m n]
  show x.2 / 32 / 32 ^ n=_
  rw [Nat.div_div_eq_div_mul,Nat.pow_succ,Nat.mul_comm]
theorem rO (m:Nat):∀ n i,cr m n (i,0)=(lpN (m+1) n i,0)
 | 0,i=>rfl
 | n+1,i=>by
  show cr m n (SetTable.leap m i 0)=_
  have:SetTable.leap m i 0=(lp (m+1) i,0):=rfl
  rw [this,rO m n];rfl
theorem ph {m:Nat} (hm:m ∈ gM) (i p j:Nat) (hp:p < 2 ^ 64) (hj:j < m+1):∃ q,q < m+14/\(cr m q (i,p)).1=j:=by
 have e13:(cr m 13 (i,p)).2=0:=by
  rw [rT]
  exact Nat.div_eq_of_lt (Nat.lt_of_lt_of_le hp (by decide))
 have hlt:(cr m 13 (i,p)).1 < m+1:=by
  rw [kG m 12]
  exact Nat.mod_lt _ (Nat.succ_pos m)
 obtain⟨q,hq,e⟩:=zO hm hlt hj
 refine⟨13+q,by lia,?_⟩
 rw [lY]
 have:cr m 13 (i,p)=((cr m 13 (i,p)).1,0):=by rw [<-e13]
 rw [this,rO];exact e
theorem qY (h:Int):SetTable.bits h < 2 ^ 64:=by
 unfold SetTable.bits
 lia
end L2
namespace L2
open PySem PySem.Spec PyProof.Rows
structure fg (b:Bool) (t:SetTable) (l:List Nat):Prop where
 msk:t.mask ∈ gM
 pl:t.place=l.toArray
 ris:l.Pairwise (· < ·)
 du:t.dummies=#[]
 led:t.led=!b
 plain:t.plain=true
 few:l.length<=64
 few7:t.mask=7->l.length<=5
 few31:t.mask=31->l.length<=19
theorem iw {m:Nat} (h:m ∈ gM):m=7\/m=31\/m=127:=by simpa [gM] using h
section
variable {b:Bool}{t:SetTable}{l:List Nat}{j:Nat}{h:Int}{hashAt:Nat->Int}
theorem fg.room (T:fg b t l):l.length < t.mask+1:=by
 have h1:=T.few;have h2:=T.few7;have h3:=T.few31
 rcases iw T.msk with e | e | e<;>lia
theorem fg.fits (T:fg b t l):t.fits l.length=true:=by
 have:=T.room
 simp only [SetTable.fits,SetTable.fill,T.pl,T.du,List.size_toArray,Bool.and_eq_true,beq_iff_eq,decide_eq_true_eq,true_and,List.size_toArray,List.length_nil]
 lia
theorem mI (j:Nat):SetTable.has #[] j=false:=by simp [SetTable.has]
theorem fg.slot_c (T:fg b t l) (j:Nat):(t.slot j=.empty/\j ∉ l)\/∃ i,i < l.length/\t.slot j=.live i:=by
 unfold SetTable.slot
 dsimp only
 rw [T.pl,T.du,mI]
 by_cases c:(l.toArray[SetTable.below l.toArray j]?==some j)=true
 ·rw [if_pos c]
  refine .inr ⟨_,?_,rfl⟩
  have:=eq_of_beq c
  by_cases z:SetTable.below l.toArray j < l.length
  ·exact z
  ·rw [Array.getElem?_eq_none (by simp;lia)] at this;cases this
 ·rw [if_neg c]
  refine .inl ⟨rfl,λhj=>c ?_⟩
  obtain⟨i,hi,e⟩:=List.getElem_of_mem hj
  obtain⟨h1,h2,h3⟩:=lz T.ris j
  generalize SetTable.below l.toArray j=k at h1 h2 h3 ⊢
  have hk:k<=i:=by
   apply Classical.byContradiction
   intro z
   have:=h2 i hi (by lia)
   lia
  have hkl:k < l.length:=by lia
  have a1:=h3 k hkl (Nat.le_refl _)
  have a2:l[k]<=j:=by
   by_cases e2:k=i
   ·subst e2;lia
   ·have:=List.pairwise_iff_getElem.mp T.ris k i hkl hi (by lia);lia
  have:l.toArray[k]?=some j:=by
   rw [List.getElem?_toArray,List.getElem?_eq_getElem hkl];congr 1;lia
  rw [this];simp
theorem fg.slot_e (T:fg b t l) (hj:j ∉ l):t.slot j=.empty:=by
 rcases T.slot_c j with z | ⟨i,hi,e⟩
 ·exact z.1
 ·exfalso
  unfold SetTable.slot at e
  dsimp only at e
  rw [T.pl,T.du,mI] at e
  split at e
  ·rename_i c
   have:=eq_of_beq c
   have hm:=Array.mem_of_getElem? this
   exact hj (by simpa using hm)
  ·simp at e
noncomputable def o0 (t:SetTable):Nat->SetTable.Probe->SetTable.Probe
 | 0,p=>p
 | n+1,p=>o0 t n (t.advance p)
theorem nX (t:SetTable):∀ n k p,o0 t (n+k) p=o0 t k (o0 t n p)
 | 0,k,p=>by rw [Nat.zero_add];rfl
 | n+1,k,p=>by rw [Nat.succ_add];exact nX t n k _
theorem md (t:SetTable) (p:SetTable.Probe):(t.advance p).dummy=p.dummy:=by
 unfold SetTable.advance
 split
 ·rfl
 ·rfl
theorem fg.go (T:fg b t l) (hne:∀ i,i < l.length->hashAt i≠h):∀ n fuel p,n < fuel->p.dummy=none->t.slot (o0 t n p).j=.empty->∃ j,SetTable.probe.go t hashAt h fuel p=some (.empty j none)/\j ∉ l
 | n,0,p,hn,_,_=>absurd hn (Nat.not_lt_zero _)
 | n,fuel+1,p,hn,hd,he=>by
  unfold SetTable.probe.go
  rcases T.slot_c p.j with⟨z,zm⟩ | ⟨i,hi,e⟩
  ·rw [z]
   exact⟨p.j,by dsimp only;rw [hd],zm⟩
  ·rw [e]
   dsimp only
   rw [if_neg (by simpa using hne i hi)]
   cases n with
   | zero=>
    have:t.slot p.j=.empty:=he
    rw [e] at this;cases this
   | succ n=>exact fg.go T hne n fuel _ (by lia) (by rw [md];exact hd) he
noncomputable def gO (t:SetTable) (x:Nat×Nat):SetTable.Probe:={ j:=x.1,more:=SetTable.runEnd t.mask x.1 - x.1,i:=x.1,perturb:=x.2,dummy:=none }
theorem q9 (t:SetTable):∀ more p,p.more=more->p.dummy=none->o0 t (more+1) p=gO t (SetTable.leap t.mask p.i p.perturb)
 | 0,p,h,hd=>by
  show t.advance p=_
  unfold SetTable.advance
  rw [if_neg (by lia)]
  simp only [gO,hd]
 | m+1,p,h,hd=>by
  have e:t.advance p={ p with j:=p.j+1,more:=p.more - 1 }:=by unfold SetTable.advance;rw [if_pos (by lia)]
  show o0 t (m+1) (t.advance p)=_
  rw [q9 t m _ (by rw [e];show p.more - 1=m;lia) (by rw [md];exact hd),e]
theorem pf (t:SetTable):∀ q x,∃ n,n<=10*q/\o0 t n (gO t x)=gO t (cr t.mask q x)
 | 0,x=>⟨0,Nat.le_refl _,rfl⟩
 | q+1,x=>by
  obtain⟨n,hn,e⟩:=pf t q (SetTable.leap t.mask x.1 x.2)
  refine⟨(gO t x).more+1+n,?_,?_⟩
  ·have:(gO t x).more<=9:=by
    show SetTable.runEnd t.mask x.1 - x.1<=9
    unfold SetTable.runEnd
    split<;>lia
   lia
  ·rw [nX,q9 t _ _ rfl rfl]
   exact e
theorem fg.probe (T:fg b t l) (hne:∀ i,i < l.length->hashAt i≠h):∃ j,t.probe hashAt h (t.probeStart h)=some (.empty j none)/\j ∉ l:=by
 obtain⟨j,hj,hm⟩:=BK T.room
 obtain⟨q,hq,e⟩:=ph T.msk (SetTable.bits h % (t.mask+1)) (SetTable.bits h) j (qY h) hj
 obtain⟨n,hn,e2⟩:=pf t q (SetTable.bits h % (t.mask+1),SetTable.bits h)
 unfold SetTable.probe
 refine T.go hne n _ _ (by unfold SetTable.turns;lia) rfl ?_
 have e3:t.probeStart h=gO t (SetTable.bits h % (t.mask+1),SetTable.bits h):=rfl
 rw [e3,e2]
 show t.slot (cr t.mask q _).1=_
 rw [e]
 exact T.slot_e hm
noncomputable def sF (l:List Nat) (j:Nat):List Nat:=l.take (SetTable.below l.toArray j)++j::l.drop (SetTable.below l.toArray j)
theorem v0 (hl:l.Pairwise (· < ·)) (hj:j ∉ l):(sF l j).Pairwise (· < ·):=by
 obtain⟨h1,h2,h3⟩:=lz hl j
 unfold sF
 generalize SetTable.below l.toArray j=k at h1 h2 h3 ⊢
 have a1:∀ x ∈ l.take k,x < j:=λx hx=>by
  obtain⟨i,hi,e⟩:=List.getElem_of_mem hx
  rw [List.getElem_take] at e
  rw [List.length_take] at hi
  rw [<-e];exact h2 i (by lia) (by lia)
 have a2:∀ x ∈ l.drop k,j < x:=λx hx=>by
  obtain⟨i,hi,e⟩:=List.getElem_of_mem hx
  rw [List.getElem_drop] at e
  rw [List.length_drop] at hi
  have b1:=h3 (k+i) (by lia) (by lia)
  have b2:x≠j:=λz=>hj (z ▸ List.mem_of_mem_drop hx)
  lia
 have hp:=hl
 rw [<-List.take_append_drop k l,List.pairwise_append] at hp
 rw [List.pairwise_append]
 refine⟨hp.1,List.pairwise_cons.mpr ⟨a2,hp.2.1⟩,λx hx y hy=>?_⟩
 rcases List.mem_cons.mp hy with rfl | hy
 ·exact a1 x hx
 ·exact Nat.lt_trans (a1 x hx) (a2 y hy)
theorem dF:(sF l j).length=l.length+1:=by
 unfold sF
 rw [List.length_append,List.length_cons,<-Nat.add_assoc,<-List.length_append,List.take_append_drop]
theorem fg.put (T:fg b t l) (hj:j ∉ l) (h1:l.length < 64) (h2:t.mask=7->l.length < 5) (h3:t.mask=31->l.length < 19):fg b (t.put j).1 (sF l j)/\(t.put j).2=SetTable.below l.toArray j:=by
 unfold SetTable.put
 dsimp only
 rw [T.du,mI]
 refine⟨⟨T.msk,?_,v0 T.ris hj,rfl,T.led,T.plain,by rw [dF];exact h1,λe=>by rw [dF];exact h2 e,λe=>by rw [dF];exact h3 e⟩,by rw [T.pl]⟩
 apply Array.toList_inj.mp
 show (SetTable.insertAt t.place (SetTable.below t.place j) j).toList=_
 rw [SetTable.toList_insertAt,T.pl];rfl
theorem uw {α:Type} (es:Array α) (p:Nat) (x:α):(SetTable.insertAt es p x).toList.Perm (x::es.toList):=by
 rw [SetTable.toList_insertAt]
 refine List.perm_middle.trans (List.Perm.cons x ?_)
 rw [List.take_append_drop]
end
theorem ic {α β:Type}{f g:α->Option β}:∀ {l:List α},(∀ x ∈ l,f x=g x)->l.filterMap f=l.filterMap g
 | [],_=>rfl
 | x::l,h=>by
  rw [List.filterMap_cons,List.filterMap_cons,h x List.mem_cons_self,ic λy hy=>h y (List.mem_cons_of_mem _ hy)]
theorem u9 {f g:Nat->Option Nat}{j k:Nat} (hf:f j=none) (hg:g j=some k) (hn:∀ x,x≠j->g x=f x):∀ L:List Nat,L.Nodup->j ∈ L->(L.filterMap g).Perm (k::L.filterMap f)
 | [],_,h=>nomatch h
 | x::L,hd,h=>by
  have hd':=List.nodup_cons.mp hd
  by_cases e:x=j
  ·subst e
   have:L.filterMap g=L.filterMap f:=ic λy hy=>hn y λz=>hd'.1 (z ▸ hy)
   rw [List.filterMap_cons_some hg,List.filterMap_cons_none hf,this]
  ·have ih:=u9 hf hg hn L hd'.2 (by rcases List.mem_cons.mp h with z | z;exact absurd z.symm e;exact z)
   cases hx:f x with
   | none=>rw [List.filterMap_cons_none hx,List.filterMap_cons_none ((hn x e).trans hx)];exact ih
   | some y=>
    rw [List.filterMap_cons_some hx,List.filterMap_cons_some ((hn x e).trans hx)]
    exact (List.Perm.cons y ih).trans (List.Perm.swap _ _ _)
theorem rm {f:Nat->Option Nat}:∀ L:List Nat,(∀ x ∈ L,(f x).isSome=true)->(L.filterMap f).length=L.length
 | [],_=>rfl
 | x::L,h=>by
  obtain⟨y,hy⟩:=Option.isSome_iff_exists.mp (h x List.mem_cons_self)
  rw [List.filterMap_cons_some hy,List.length_cons,List.length_cons,rm L λz hz=>h z (List.mem_cons_of_mem _ hz)]
structure sE (m:Nat) (owner:Array (Option Nat)) (k:Nat):Prop where
 size:owner.size=m+1
 perm:((List.range (m+1)).filterMap λj=>owner.getD j none).Perm (List.range k)
theorem rn {m:Nat}{owner:Array (Option Nat)}:∀ q fuel i p,q < fuel->(owner.getD (cr m q (i,p)).1 (some 0)).isNone=true->∃ j,SetTable.layClean.free m owner fuel i p=some j/\(owner.getD j (some 0)).isNone=true
 | q,0,_,_,h,_=>absurd h (Nat.not_lt_zero _)
 | q,fuel+1,i,p,h,he=>by
  unfold SetTable.layClean.free
  split
  ·rename_i k hk
   have:=List.find?_some (p:=λk=>(owner.getD (i+k) (some 0)).isNone) hk
   exact⟨_,rfl,this⟩
  ·rename_i hk
   cases q with
   | zero=>
    exfalso
    have:=List.find?_eq_none.mp hk 0 (List.mem_range.mpr (by unfold SetTable.runEnd;split<;>lia))
    exact this he
   | succ q=>exact rn q fuel _ _ (by lia) he
theorem xh {owner:Array (Option Nat)}{j:Nat} (h:(owner.getD j (some 0)).isNone=true):j < owner.size/\owner[j]?=some none:=by
 by_cases hj:j < owner.size
 ·refine⟨hj,?_⟩
  rw [Array.getD,dif_pos hj] at h
  rw [Array.getElem?_eq_getElem hj]
  congr 1
  exact Option.isNone_iff_eq_none.mp h
 ·rw [Array.getD,dif_neg hj] at h;cases h
theorem getD_none {owner:Array (Option Nat)} (j:Nat):owner.getD j none=(owner[j]?).join:=by
 by_cases hj:j < owner.size
 ·rw [Array.getD,dif_pos hj,Array.getElem?_eq_getElem hj];rfl
 ·rw [Array.getD,dif_neg hj,Array.getElem?_eq_none (by lia)];rfl
theorem sE.free {m k:Nat}{owner:Array (Option Nat)} (O:sE m owner k) (hm:m ∈ gM) (hk:k < m+1) (h:Int):∃ j,SetTable.layClean.free m owner (SetTable.turns m) (SetTable.bits h % (m+1)) (SetTable.bits h)=some j/\sE m (owner.setIfInBounds j (some k)) (k+1):=by
 obtain⟨j0,hj0,he⟩:∃ j,j < m+1/\(owner.getD j (some 0)).isNone=true:=by
  apply Classical.byContradiction
  intro z
  have:=rm (f:=λj=>owner.getD j none) (List.range (m+1)) λx hx=>by
   have hx':=List.mem_range.mp hx
   cases hc:owner.getD x none with
   | some y=>rfl
   | none=>
    exfalso
    refine z ⟨x,hx',?_⟩
    rw [Array.getD,dif_pos (by rw [O.size];exact hx')] at hc ⊢
    rw [hc];rfl
  rw [O.perm.length_eq,List.length_range,List.length_range] at this
  lia
 obtain⟨q,hq,e⟩:=ph hm (SetTable.bits h % (m+1)) (SetTable.bits h) j0 (qY h) hj0
 obtain⟨j,hj,hn⟩:=rn (m:=m) (owner:=owner) q (SetTable.turns m) _ _ (by unfold SetTable.turns;lia) (by rw [e];exact he)
 obtain⟨n1,n2⟩:=xh hn
 refine⟨j,hj,by rw [Array.size_setIfInBounds];exact O.size,?_⟩
 have p:=u9 (f:=λj=>owner.getD j none) (g:=λx=>(owner.setIfInBounds j (some k)).getD x none) (j:=j) (k:=k) (by rw [getD_none,n2];rfl) (by rw [getD_none,Array.getElem?_setIfInBounds,if_pos rfl,if_pos n1];rfl) (λx hx=>by rw [getD_none,getD_none,Array.getElem?_setIfInBounds,if_neg (Ne.symm hx)]) (List.range (m+1)) List.nodup_range (List.mem_range.mpr (by rw [<-O.size];exact n1))
 rw [List.range_succ (n:=k)]
 exact p.trans ((List.Perm.cons k O.perm).trans (List.perm_append_comm (l₁:=[k])))
theorem oA {m:Nat} (hm:m ∈ gM):∀ (hs:List Int) (owner:Array (Option Nat)) (k:Nat),sE m owner k->k+hs.length<=m+1->
  ∃ ow,hs.foldl (λ(acc:Option (Array (Option Nat)×Nat)) h=>do
   let (owner,k) <-acc
   let j <-SetTable.layClean.free m owner (SetTable.turns m) (SetTable.bits h % (m+1)) (SetTable.bits h)
   pure (owner.setIfInBounds j (some k),k+1)) (some (owner,k))=some (ow,k+hs.length)/\sE m ow (k+hs.length)
 | [],owner,k,O,_=>⟨owner,rfl,O⟩
 | h::hs,owner,k,O,hk=>by
  rw [List.length_cons] at hk
  obtain⟨j,hj,O'⟩:=O.free hm (by lia) h
  obtain⟨ow,e,O2⟩:=oA hm hs _ _ O' (by lia)
  refine⟨ow,?_,by rw [List.length_cons,show k+(hs.length+1)=k+1+hs.length from by lia];exact O2⟩
  rw [List.foldl_cons,List.length_cons,show k+(hs.length+1)=k+1+hs.length from by lia,<-e]
  congr 1
  show (SetTable.layClean.free m owner (SetTable.turns m) (SetTable.bits h % (m+1)) (SetTable.bits h)).bind _=_
  rw [hj];rfl
theorem vL (m:Nat):sE m (Array.replicate (m+1) none) 0:=by
 refine⟨Array.size_replicate,?_⟩
 have:(List.range (m+1)).filterMap (λj=>(Array.replicate (m+1) (none:Option Nat)).getD j none)=[]:=by
  rw [List.filterMap_eq_nil_iff]
  intro j _
  rw [getD_none,Array.getElem?_replicate]
  split<;>rfl
 rw [this];exact List.Perm.refl _
theorem Ah {m:Nat} (hm:m ∈ gM) (f mv:Nat) (led p:Bool) (hs:Array Int) (hn:hs.size<=m+1):∃ (l o:List Nat),SetTable.laid m f mv led p hs=some (⟨m,l.toArray,#[],f,led,mv,p⟩,o.toArray)/\l.Pairwise (· < ·)/\l.length=hs.size/\o.Perm (List.range hs.size):=by
 obtain⟨ow,e,O⟩:=oA hm hs.toList _ 0 (vL m) (by rw [Array.length_toList];lia)
 rw [Nat.zero_add,Array.length_toList] at e O
 have e1:SetTable.layClean m hs=some ow:=by
  unfold SetTable.layClean
  rw [<-Array.foldl_toList]
  have e':=congrArg (Option.map (·.1)) e
  exact e'
 unfold SetTable.laid
 rw [e1]
 refine⟨_,_,rfl,?_,?_,?_⟩
 ·rw [List.map_filterMap]
  refine List.Pairwise.filterMap _ (S:=(· < ·)) (R:=(· < ·)) (λa a' haa b hb b' hb'=>?_) List.pairwise_lt_range
  have z1:b=a:=by
   cases hc:ow.getD a none with
   | none=>rw [hc] at hb;cases hb
   | some y=>rw [hc] at hb;cases hb;rfl
  have z2:b'=a':=by
   cases hc:ow.getD a' none with
   | none=>rw [hc] at hb';cases hb'
   | some y=>rw [hc] at hb';cases hb';rfl
  rw [z1,z2];exact haa
 ·have:=O.perm.length_eq
  rw [List.length_range] at this
  rw [<-this,List.length_map]
  have e2:((List.range (m+1)).filterMap λj=>ow.getD j none)=((List.range (m+1)).filterMap λj=>(ow.getD j none).map (j,·)).map (·.2):=by
   rw [List.map_filterMap]
   refine ic λj _=>?_
   cases ow.getD j none<;>rfl
  rw [e2,List.length_map]
 ·have e2:((List.range (m+1)).filterMap λj=>(ow.getD j none).map (j,·)).map (·.2)=((List.range (m+1)).filterMap λj=>ow.getD j none):=by
   rw [List.map_filterMap]
   refine ic λj _=>?_
   cases ow.getD j none<;>rfl
  rw [e2];exact O.perm
theorem tW {α:Type} (es:Array α):(List.range es.size).filterMap (es[·]?)=es.toList:=by
 have:=congrArg Array.toList (il es)
 rw [Array.toList_filterMap] at this
 simpa using this
theorem yv {α:Type}{o:List Nat} (es:Array α) (hp:o.Perm (List.range es.size)):(o.toArray.filterMap (es[·]?)).toList.Perm es.toList:=by
 rw [Array.toList_filterMap]
 have:=hp.filterMap (es[·]?)
 rw [tW] at this
 exact this
end L2
namespace L2
open PySem PySem.Spec PyProof.Rows
noncomputable def hT (l:List Int):Int:=reduceHash (Builtin.Tuple.tupleHashOf (l.map hashInt))
noncomputable def uB (t:SetTable) (n:Nat):Prop:=n<=64/\(t.mask=7->n < 5)/\(t.mask=31->n < 19)
noncomputable def cc (w:World) (h:Heap) (a:Addr) (es:Array (Int×Value)) (ep:Nat) (t:SetTable) (l:List Nat):Prop:=
 ∃ o,h.get? a=some o/\o.ExactSet/\o.data=.set es ep t/\fg (byT w) t l/\es.size=l.length
section
variable {prog:Program}{w:World}{A:Around}{E:Value->Shared->Prop}{s:Shared}{a:Addr}{es:Array (Int×Value)}{ep:Nat}{t:SetTable}{l:List Nat}{x:Value}{k:List Int}{h:Int}
theorem cc.type (S:cc w s.heap a es ep t l):s.TypeIs (.ref a) "set":=let ⟨o,ho,hx,_⟩:=S;⟨o,ho,hx.1⟩
theorem cc.at' {h h':Heap} (S:cc w h a es ep t l) (e:∀ o,h.get? a=some o->h'.get? a=some o):cc w h' a es ep t l:=let ⟨o,ho,r⟩:=S;⟨o,e o ho,r⟩
theorem cc.state {Q:(Array (Int×Value)×Nat×SetTable)->Shared->Prop} (S:cc w s.heap a es ep t l) (h:Q (es,ep,t) s):wpAny (model prog w) A (setState a) Q E s:=by
 obtain⟨o,ho,hx,hd,T,hs⟩:=S
 exact wpAny_setState_of ho hd (by rw [hs];exact T.fits) h
theorem cc.store {es':Array (Int×Value)}{t':SetTable}{l':List Nat}{Q:Unit->Shared->Prop} (S:cc w s.heap a es ep t l) (T:fg (byT w) t' l') (hs:es'.size=l'.length)
  (h:∀ h',Heap.SameBut a s.heap h'->cc w h' a es' (ep+1) t' l'->Q () { s with heap:=h' }):wpAny (model prog w) A (storeSet a es' t') Q E s:=by
 obtain⟨o,ho,hx,hd,T0,hs0⟩:=S
 have hl:es'.size<=sizeLine:=by have:=T.few;rw [sizeLine_eq];lia
 refine wpAny_storeSet_of ho hd (h _ (Heap.SameBut.update ..) ?_) hl
 have hg:(s.heap.update a (Obj.putSet es' t')).get? a=some { o with data:=.set es' (ep+1) t' }:=by
  have:=Heap.get?_update_self (Obj.putSet es' t') ho (by rw [putSet_of _ t' hd];rfl)
  rw [putSet_of _ t' hd] at this;exact this
 exact⟨_,hg,hx,rfl,T,hs⟩
theorem o9 {Q:Option Bool×Unit->Shared->Prop}:∀ {vs:List Value}{k:List Int},IntsAre vs k->Q (none,()) s->wpAny (model prog w) A (forIn vs ((none,()):Option Bool×Unit) λx _=>do
   let c <-hashByValue 7 x
   if (!c)=true then pure (ForInStep.done (some false,())) else pure (ForInStep.yield (none,()))) Q E s
 | _,_,.nil,h=>by rw [List.forIn_nil];exact wpAny_pure h
 | _,_,.cons n t i,h=>by
  rw [List.forIn_cons]
  refine wpAny_bind (wpAny_bind (m:=hashByValue 7 (.int n t)) ?_)
  show wpAny _ _ (pure true) _ _ _
  exact wpAny_pure (wpAny_pure (o9 i h))
theorem sP (hx:TuI s.heap x k) {Q:Bool->Shared->Prop} (hQ:Q true s):wpAny (model prog w) A (hashByValue 8 x) Q E s:=by
 obtain⟨a,its,rfl,ht,hi⟩:=hx
 obtain⟨o,ho,hc,n,hd⟩:=id ht
 unfold hashByValue
 refine wpAny_bind (wpAny_specialOf ⟨o,ho,hc⟩ PySem.F.slot_tuple_hash.lookup ?_)
 dsimp only
 refine wpAny_bind (wpAny_seqItems ho hd ?_)
 rw [<-Array.forIn_toList]
 refine wpAny_bind (o9 hi ?_)
 exact wpAny_pure hQ
theorem cc.relay {n:Nat}{Q:Unit->Shared->Prop} (S:cc w s.heap a es ep t l) (hm:SetTable.sizeAbove n - 1 ∈ gM) (hz:SetTable.sizeAbove n<=128) (h1:SetTable.sizeAbove n - 1=7->l.length<=5) (h2:SetTable.sizeAbove n - 1=31->l.length<=19)
  (h:∀ h' es' t' l',Heap.SameBut a s.heap h'->cc w h' a es' (ep+1) t' l'->es'.toList.Perm es.toList->t'.mask=SetTable.sizeAbove n - 1->Q () { s with heap:=h' }) :
  wpAny (model prog w) A (setRelay a n) Q E s:=by
 obtain⟨o,ho,hx,hd,T,hs⟩:=id S
 unfold setRelay
 refine wpAny_bind (S.state ?_)
 dsimp only
 rw [if_neg (by rw [sizeLine_eq];lia)]
 have hfew:=T.few
 have hsz:(es.map (·.1)).size=l.length:=by rw [Array.size_map];exact hs
 have hroom:l.length<=SetTable.sizeAbove n - 1+1:=by
  rcases iw hm with e | e | e
  ·have:=h1 e;lia
  ·have:=h2 e;lia
  ·lia
 obtain⟨l',od,e,hr,hl,hp⟩:=Ah hm t.finger (t.movedTo (SetTable.sizeAbove n - 1)) t.led t.plain (es.map (·.1)) (by rw [hsz];exact hroom)
 have e':t.relaid (es.map (·.1)) n=_:=e
 refine wpAny_bind ?_
 rw [e']
 rw [hsz] at hl hp
 rw [<-hs] at hp
 have hper:=yv es hp
 have hps:(od.toArray.filterMap (es[·]?)).size=es.size:=by rw [<-Array.length_toList,<-Array.length_toList];exact hper.length_eq
 wp_delta
 rw [if_neg (by rw [hps];simp)]
 refine wpAny_pure ?_
 dsimp only
 exact S.store (t':=⟨SetTable.sizeAbove n - 1,l'.toArray,#[],t.finger,t.led,t.movedTo (SetTable.sizeAbove n - 1),t.plain⟩) ⟨hm,rfl,hr,rfl,T.led,T.plain,by rw [hl];exact hfew,λz=>by rw [hl];exact h1 z,λz=>by rw [hl];exact h2 z⟩ (by rw [hps,hs,hl]) λh' sb S'=>h h' _ _ _ sb S' hper rfl
theorem cc.search {Q:SetFound->Shared->Prop} (S:cc w s.heap a es ep t l) (hne:∀ e ∈ es.toList,e.1≠h) (hQ:∀ j,j ∉ l->Q (.free j false) s):wpAny (model prog w) A (setSearch a x h true) Q E s:=by
 obtain⟨o,ho,hx,hd,T,hs⟩:=id S
 unfold setSearch setSearchFrom
 refine wpAny_bind (S.state ?_)
 dsimp only
 rw [if_neg (by unfold SetTable.gaveWay;rcases iw T.msk with e | e | e<;>rw [e]<;>decide)]
 obtain⟨j,e,hj⟩:=T.probe (h:=h) (hashAt:=λi=>(es[i]?.map (·.1)).getD 0) λi hi=>by
  have hi':i < es.size:=by lia
  rw [Array.getElem?_eq_getElem hi']
  exact hne _ (by rw [<-Array.getElem_toList];exact List.getElem_mem _)
 split
 ·rename_i met hmet
  have e2:some met=some (SetTable.Met.empty j none):=hmet.symm.trans e
  cases e2
  dsimp only
  exact wpAny_pure (hQ j hj)
 ·rename_i hno
  exact absurd (e.symm) (by intro z;exact hno _ z.symm)
theorem cc.add {Q:Bool->Shared->Prop} (S:cc w s.heap a es ep t l) (hc:uB t l.length) (hn:l.length < 64) (hx:TuI s.heap x k) (hne:∀ e ∈ es.toList,e.1≠h)
  (hQ:∀ h' es' ep' t' l',Heap.SameBut a s.heap h'->cc w h' a es' ep' t' l'->uB t' l'.length->es'.toList.Perm ((h,x)::es.toList)->Q true { s with heap:=h' }) :
  wpAny (model prog w) A (setAddHashed a x h) Q E s:=by
 obtain⟨q,its,rfl,ht,hi⟩:=id hx
 obtain⟨o,ho,hxx,hd,T,hs⟩:=id S
 unfold setAddHashed setAddHashedIn
 refine wpAny_holding (wpAny_bind (S.state ?_))
 dsimp only
 rw [if_neg (by unfold byScan;rw [show (Value.ref q).scannable=false from rfl];simp)]
 refine wpAny_bind (S.search hne λj hj=>?_)
 dsimp only
 refine wpAny_bind (S.state ?_)
 dsimp only
 obtain⟨T1,e1⟩:=T.put hj hn hc.2.1 hc.2.2
 rw [if_pos T1.plain]
 refine wpAny_bind (sP hx ?_)
 rw [if_pos rfl,e1]
 have hper:=uw es (SetTable.below l.toArray j) (h,Value.ref q)
 have hsz:(SetTable.insertAt es (SetTable.below l.toArray j) (h,Value.ref q)).size=(sF l j).length:=by
  rw [<-Array.length_toList,hper.length_eq,dF,List.length_cons,Array.length_toList,hs]
 refine wpAny_bind (S.store T1 hsz λh' sb S'=>?_)
 have hfl:(t.put j).1.fill=l.length+1:=by
  unfold SetTable.fill
  rw [T1.pl,T1.du,List.size_toArray,dF];rfl
 have hmk:(t.put j).1.mask=t.mask:=rfl
 by_cases hf:(t.put j).1.tooFull=true
 ·rw [if_pos (by rw [hf];rfl)]
  unfold SetTable.tooFull at hf
  have hf':=of_decide_eq_true hf
  rw [hfl,hmk] at hf'
  have hgr:SetTable.grown (es.size+1)=(l.length+1)*4:=by
   unfold SetTable.grown
   rw [if_neg (by lia),hs]
  have hcc:=hc
  obtain⟨_,c7,c31⟩:=hcc
  have hcases:(t.mask=7/\l.length=4)\/(t.mask=31/\l.length=18):=by
   rcases iw T.msk with e | e | e
   ·have:=c7 e;left;exact⟨e,by lia⟩
   ·have:=c31 e;right;exact⟨e,by lia⟩
   ·lia
  have key:SetTable.sizeAbove (SetTable.grown (es.size+1)) - 1 ∈ gM/\SetTable.sizeAbove (SetTable.grown (es.size+1))<=128/\(SetTable.sizeAbove (SetTable.grown (es.size+1)) - 1=31/\l.length=4\/SetTable.sizeAbove (SetTable.grown (es.size+1)) - 1=127):=by
   rw [hgr]
   rcases hcases with⟨_,e⟩ | ⟨_,e⟩
   ·rw [e];exact⟨by decide,by decide,.inl ⟨by decide,rfl⟩⟩
   ·rw [e];exact⟨by decide,by decide,.inr (by decide)⟩
  obtain⟨k1,k2,k3⟩:=key
  refine wpAny_bind (S'.relay (s:={ s with heap:=h' }) k1 k2 (λz=>by rcases k3 with k3 | k3<;>lia) (λz=>by rw [dF];rcases k3 with k3 | k3<;>lia) λh2 es2 t2 l2 sb2 S2 p2 m2=>?_)
  refine wpAny_pure (hQ h2 es2 _ t2 l2 (sb.trans sb2) S2 ?_ (p2.trans hper))
  have hl2:l2.length=l.length+1:=by
   obtain⟨_,_,_,_,_,z⟩:=S2
   rw [<-z,<-Array.length_toList,p2.length_eq,hper.length_eq,List.length_cons,Array.length_toList,hs]
  refine⟨by lia,λz=>?_,λz=>?_⟩
  ·rw [m2] at z;rcases k3 with k3 | k3<;>lia
  ·rw [m2] at z;rcases k3 with k3 | k3<;>lia
 ·rw [if_neg (by simpa using hf)]
  refine wpAny_pure (hQ h' _ _ _ _ sb S' ?_ hper)
  have hf':¬ ((t.put j).1.fill*5>=(t.put j).1.mask*3):=λz=>hf (decide_eq_true z)
  rw [hfl,hmk] at hf'
  rw [dF]
  exact⟨hn,λz=>by rw [hmk] at z;lia,λz=>by rw [hmk] at z;lia⟩
end
end L2
namespace L2
open PySem PySem.Spec PyProof.Rows
section
variable {κ:Type} [DecidableEq κ]
noncomputable def eZ (kvs:List (κ×V)) (k:κ):Option V:=(kvs.find? λkv=>decide (kv.1=k)).map (·.2)
noncomputable def iy (kvs:List (κ×V)) (k:κ) (v:V):List (κ×V):=
 if (kvs.any λkv=>decide (kv.1=k))=true then kvs.map (λkv=>if kv.1=k then (kv.1,v) else kv) else kvs++[(k,v)]
theorem kJ {p:κ×V}{r:List (κ×V)}{k:κ} (e:p.1=k):eZ (p::r) k=some p.2:=by simp [eZ,List.find?_cons,e]
theorem ko {p:κ×V}{r:List (κ×V)}{k:κ} (e:¬ p.1=k):eZ (p::r) k=eZ r k:=by simp [eZ,List.find?_cons,e]
theorem oF (k:κ):∀ kvs:List (κ×V),(kvs.any λkv=>decide (kv.1=k))=(eZ kvs k).isSome
 | []=>rfl
 | p::r=>by
  rw [List.any_cons]
  by_cases e:p.1=k
  ·simp only [kJ e,decide_eq_true e,Bool.true_or,Option.isSome_some]
  ·rw [ko e,decide_eq_false e,Bool.false_or];exact oF k r
theorem jo (kvs:List (κ×V)) (k:κ) (v:V):(iy kvs k v).length<=kvs.length+1:=by
 unfold iy
 split
 ·rw [List.length_map];lia
 ·rw [List.length_append,List.length_cons,List.length_nil];lia
theorem iJ.isSome_eq {o:Option V}{u:Option Value} (r:iJ o u):o.isSome=u.isSome:=by
 cases o with
 | none=>cases u with
  | none=>rfl
  | some _=>exact (show False from r).elim
 | some _=>cases u with
  | none=>exact (show False from r).elim
  | some _=>rfl
theorem iJ.getD {o:Option V}{u:Option Value}{d:V}{d':Value} (r:iJ o u) (rd:az d d'):az (o.getD d) (u.getD d'):=by
 cases o with
 | none=>cases u with
  | none=>exact rd
  | some _=>exact (show False from r).elim
 | some _=>cases u with
  | none=>exact (show False from r).elim
  | some _=>exact r
theorem KV.val {kvs:List (κ×V)}{vs:List (κ×Value)} (r:KV kvs vs) (k:κ):iJ (eZ kvs k) (valueAt vs k):=by
 unfold KV at r
 induction r with
 | nil=>exact True.intro
 | @cons p q ps qs h t ih=>
  obtain⟨h1,h2⟩:=h
  by_cases e:p.1=k
  ·have e':q.1=k:=h1.symm.trans e
   have b:valueAt (q::qs) k=some q.2:=by simp [valueAt,List.find?_cons,e']
   rw [kJ e,b];exact h2
  ·have e':¬ q.1=k:=λz=>e (h1.trans z)
   have b:valueAt (q::qs) k=valueAt qs k:=by simp [valueAt,List.find?_cons,e']
   rw [ko e,b];exact ih
theorem KV.any {kvs:List (κ×V)}{vs:List (κ×Value)} (r:KV kvs vs) (k:κ):(kvs.any λkv=>decide (kv.1=k))=vs.any λkv=>decide (kv.1=k):=by
 unfold KV at r
 induction r with
 | nil=>rfl
 | cons h t ih=>rw [List.any_cons,List.any_cons,ih,h.1]
theorem KV.repl {kvs:List (κ×V)}{vs:List (κ×Value)} (r:KV kvs vs) (k:κ) {y:V}{u:Value} (ry:az y u) :
  KV (kvs.map λkv=>if kv.1=k then (kv.1,y) else kv) (vs.map λkv=>if kv.1=k then (kv.1,u) else kv):=by
 unfold KV at r ⊢
 induction r with
 | nil=>exact .nil
 | @cons p q ps qs h t ih=>
  rw [List.map_cons,List.map_cons]
  refine .cons ?_ ih
  obtain⟨h1,h2⟩:=h
  by_cases e:p.1=k
  ·rw [if_pos e,if_pos (h1.symm.trans e)];exact⟨h1,ry⟩
  ·rw [if_neg e,if_neg (λz=>e (h1.trans z))];exact⟨h1,h2⟩
theorem KV.put {kvs:List (κ×V)}{vs:List (κ×Value)} (r:KV kvs vs) (k:κ) {y:V}{u:Value} (ry:az y u):KV (iy kvs k y) (stored vs k u):=by
 unfold iy stored
 rw [r.any k]
 by_cases e:(vs.any λkv=>decide (kv.1=k))=true
 ·rw [if_pos e,if_pos e];exact r.repl k ry
 ·rw [if_neg e,if_neg e];exact Paired.snoc r ⟨rfl,ry⟩
theorem KV.length {kvs:List (κ×V)}{vs:List (κ×Value)} (r:KV kvs vs):kvs.length=vs.length:=Paired.length r
end
theorem r4 {P:Program}{w:World}{k:Key}{u:Value} (r:az (kV k) u):(bQ P w).is k u=true:=by
 cases k with
 | inl i=>obtain⟨t,e⟩:=(show ∃ t,u=Value.int i t from r);subst e;exact pd P w i t
 | inr x=>obtain⟨t,e⟩:=(show ∃ t,u=Value.str x t from r);subst e;exact pQ P w x t
theorem ml {P:Program}{w:World}:∀ {ks:List Key}{us:List Value},ay (ks.map kV) us->ItemsAre (bQ P w) ks us
 | [],_,r=>by rw [List.map_nil] at r;cases r;exact .nil
 | k::ks,_,r=>by
  rw [List.map_cons] at r
  cases r with
  | cons h t=>exact .cons (r4 h) (ml t)
abbrev KT (H:Hp):List (List Key×V)->List (List Key×Addr×Value)->Prop:=Paired λp q=>p.1=q.1/\H q.2.1=some (.tup (p.1.map kV))/\az p.2 q.2.2
theorem KT.val {H:Hp}{kvs:List (List Key×V)}{xs:List (List Key×Addr×Value)} (r:KT H kvs xs) (k:List Key):iJ (eZ kvs k) ((atKey xs k).map (·.2)):=by
 induction r with
 | nil=>exact True.intro
 | @cons p q ps qs h t ih=>
  obtain⟨h1,_,h2⟩:=h
  by_cases e:p.1=k
  ·have e':q.1=k:=h1.symm.trans e
   have b:atKey (q::qs) k=some q.2:=by simp [atKey,List.find?_cons,e']
   rw [kJ e,b];exact h2
  ·have e':¬ q.1=k:=λz=>e (h1.trans z)
   have b:atKey (q::qs) k=atKey qs k:=by simp [atKey,List.find?_cons,e']
   rw [ko e,b];exact ih
theorem KT.repl {H:Hp}{kvs:List (List Key×V)}{xs:List (List Key×Addr×Value)} (r:KT H kvs xs) (k:List Key) {y:V}{u:Value} (ry:az y u) :
  KT H (kvs.map λkv=>if kv.1=k then (kv.1,y) else kv) (xs.map (putAt k u)):=by
 induction r with
 | nil=>exact .nil
 | @cons p q ps qs h t ih=>
  rw [List.map_cons,List.map_cons]
  refine .cons ?_ ih
  obtain⟨h1,h2,h3⟩:=h
  unfold putAt
  by_cases e:p.1=k
  ·rw [if_pos e,if_pos (h1.symm.trans e)];exact⟨h1,h2,ry⟩
  ·rw [if_neg e,if_neg (λz=>e (h1.trans z))];exact⟨h1,h2,h3⟩
theorem KT.put {H:Hp}{kvs:List (List Key×V)}{xs:List (List Key×Addr×Value)} (r:KT H kvs xs) (k:List Key) {b:Addr}{y:V}{u:Value} (hb:H b=some (.tup (k.map kV))) (ry:az y u) :
  KT H (iy kvs k y) (storedH xs k b u):=by
 have e:(kvs.any λkv=>decide (kv.1=k))=(atKey xs k).isSome:=by
  rw [oF,(r.val k).isSome_eq,Option.isSome_map]
 unfold iy storedH
 rw [e]
 by_cases q:(atKey xs k).isSome=true
 ·rw [if_pos q,if_pos q];exact r.repl k ry
 ·rw [if_neg q,if_neg q];exact Paired.snoc r ⟨rfl,hb,ry⟩
theorem KT.keeps {H H':Hp}{kvs:List (List Key×V)}{xs:List (List Key×Addr×Value)} (r:KT H kvs xs) (ht:∀ b ys,H b=some (.tup ys)->H' b=some (.tup ys)):KT H' kvs xs:=
 Paired.mapP r λ_ _ z=>⟨z.1,ht _ _ z.2.1,z.2.2⟩
section
variable {P:Program}{w:World}{H:Hp}{h:Heap}{a:Addr}
theorem yo {u:HO} (ok:HOk P w H h) (e:Rd H a u):bP P w H h a u:=e.ok ok
theorem oh {kvs:List (Key×V)} (ok:HOk P w H h) (e:Rd H a (.dK kvs)):kvs.length<=sizeLine/\(a==sysModules)=false/\∃ vs,KV kvs vs/\h.DictOf (bQ P w) a vs:=
 show bP P w H h a (.dK kvs) from yo ok e
theorem Ba {kvs:List (Key×V)} (ok:HOk P w H h) (e:H a=some (.dK kvs)):kvs.length<=sizeLine/\(a==sysModules)=false/\∃ vs,KV kvs vs/\h.DictOf (bQ P w) a vs:=oh ok (.inl e)
theorem m4 {ks:List Key} (ok:HOk P w H h) (e:H a=some (.tup (ks.map kV))):(tupleKind (bQ P w)).is h ks a:=by
 obtain⟨_,its,r,o,h1,h2,⟨n,h3⟩,_⟩:=(show bP P w H h a (.tup (ks.map kV)) from ok a _ e)
 exact⟨o,its.toArray,n,h1,h2,h3,by simpa using ml r⟩
theorem pO {kvs:List (List Key×V)} (ok:HOk P w H h) (e:Rd H a (.dT kvs)):kvs.length<=sizeLine/\(a==sysModules)=false/\
  ∃ xs,KT H kvs xs/\h.DictOfH (tupleKind (bQ P w)) a xs:=by
 obtain⟨z,y,xs,r,o,es,ep,h1,h2,h3,h4,h5⟩:=(show bP P w H h a (.dT kvs) from yo ok e)
 refine⟨z,y,xs,r,o,es,ep,h1,h2,h3,h4,λx hx=>?_,h5⟩
 have all:∀ {l:List (List Key×V)}{m:List (List Key×Addr×Value)},KT H l m->∀ x ∈ m,(tupleKind (bQ P w)).is h x.1 x.2.1:=by
  intro l m q
  induction q with
  | nil=>intro x hx;exact nomatch hx
  | @cons p q ps qs hq t ih=>
   intro x hx
   rcases List.mem_cons.mp hx with e | hx
   ·subst e
    exact m4 ok (by rw [<-hq.1];exact hq.2.1)
   ·exact ih x hx
 exact all r x hx
theorem yk {kvs:List (List Key×V)} (ok:HOk P w H h) (e:H a=some (.dT kvs)):kvs.length<=sizeLine/\(a==sysModules)=false/\
  ∃ xs,KT H kvs xs/\h.DictOfH (tupleKind (bQ P w)) a xs:=pO ok (.inl e)
end
noncomputable def mV (H:Hp) (a:Addr) (y:V) (r:Option V):Prop:=
 (∃ kvs k,Rd H a (.dK kvs)/\y=kV k/\r=eZ kvs k)\/∃ kvs k b,Rd H a (.dT kvs)/\y=.ref b/\H b=some (.tup (k.map kV))/\r=eZ kvs k
noncomputable def ve (H:Hp) (a:Addr) (y v:V) (H':Hp):Prop:=
 (∃ kvs k,H a=some (.dK kvs)/\y=kV k/\kvs.length < sizeLine/\H'=upd H a (.dK (iy kvs k v)))\/
 ∃ kvs k b,H a=some (.dT kvs)/\y=.ref b/\H b=some (.tup (k.map kV))/\kvs.length < sizeLine/\H'=upd H a (.dT (iy kvs k v))
theorem mV.t {H:Hp}{a b:Addr}{kvs:List (List Key×V)}{k:List Key} (e:H a=some (.dT kvs)) (eb:H b=some (.tup (k.map kV))):mV H a (.ref b) (eZ kvs k):=.inr ⟨kvs,k,b,.inl e,rfl,eb,rfl⟩
theorem ve.t {H:Hp}{a b:Addr}{kvs:List (List Key×V)}{k:List Key}{v:V} (e:H a=some (.dT kvs)) (eb:H b=some (.tup (k.map kV))) (hl:kvs.length < sizeLine) :
  ve H a (.ref b) v (upd H a (.dT (iy kvs k v))):=.inr ⟨kvs,k,b,e,rfl,eb,hl,rfl⟩
section
variable {X:Cx}{pins:List (Addr×Obj)}{σ:St}{H:Hp}{s:Shared}{a:Addr}{y v:V}{u r:Value}{o:Option V}{A:Around}{E:Value->Shared->Prop}
theorem Inv.big (I:Inv X pins σ H s):sysModules < s.heap.objs.size:=by
 have h:mainGlobals < s.heap.objs.size:=(I.mod.glob.keeps I.bk).lt
 exact Nat.lt_trans (by decide) h
theorem sD {Q:Value->Shared->Prop} (hu:A.units+1 < cLine) (I:Inv X pins σ H s) (g:mV H a y (some v)) (ry:az y u) (h:∀ w' s',Inv X pins σ H s'->az v w'->Q w' s') :
  wpAny (model X.prog X.w) A (getItem (.ref a) u) Q E s:=by
 rcases g with⟨kvs,k,e,ey,l⟩ | ⟨kvs,k,b,e,ey,eb,l⟩
 ·subst ey
  obtain⟨z,hd,vs,rel,dd⟩:=oh I.hok e
  obtain⟨w',hw,rw'⟩:=iJ.some_of (v:=v) (o:=valueAt vs k) (by rw [l];exact rel.val k)
  exact wpAny_getItem_of (r4 ry) dd.mapOf hw (h w' _ (I.tok _) rw')
 ·subst ey
  cases (show u=Value.ref b from ry)
  obtain⟨z,hd,xs,rel,dd⟩:=pO I.hok e
  obtain⟨w',hw,rw'⟩:=iJ.some_of (v:=v) (o:=(atKey xs k).map (·.2)) (by rw [l];exact rel.val k)
  obtain⟨p,hp,hp2⟩:=Option.map_eq_some_iff.mp hw
  refine wpAny_getItem_heap (tupleKind_room_in1 hu) (m4 I.hok eb) dd hp ?_
  rw [hp2]
  exact h w' _ (I.tok _) rw'
theorem rh {h':Heap}{t':Nat}{ob:HO} (I:Inv X pins σ H s) (mu:Mut (H a)) (hs:Heap.SameBut a s.heap h') (he:∃ q,h'.get? a=some q) (new:bP X.prog X.w (upd H a ob) h' a ob) :
  Inv X pins σ (upd H a ob) { s with heap:=h',toks:=t' }:=
 I.write (x:=a) (e:=a) mu (.inl rfl) (λb q hb z=>(hs.2 b hb).trans z) he new
theorem yC {P:Program}{w:World}{H':Hp}{h':Heap}{kvs:List (Key×V)}{vs:List (Key×Value)} (z:kvs.length<=sizeLine) (hd:(a==sysModules)=false) (rel:KV kvs vs) (dd:h'.DictOf (bQ P w) a vs) :
  bP P w H' h' a (.dK kvs):=⟨z,hd,vs,rel,dd⟩
theorem tK {H':Hp}{Q:Unit->Shared->Prop} (hu:A.units+1 < cLine) (I:Inv X pins σ H s) (g:ve H a y v H') (ry:az y u) (rv:az v r) (h:∀ s',Inv X pins σ H' s'->Q () s') :
  wpAny (model X.prog X.w) A (setItem (.ref a) u r) Q E s:=by
 rcases g with⟨kvs,k,e,ey,l,eH⟩ | ⟨kvs,k,b,e,ey,eb,l,eH⟩
 ·subst ey eH
  obtain⟨z,hd,vs,rel,dd⟩:=Ba I.hok e
  have hz:vs.length<=sizeLine:=by rw [<-rel.length];exact z
  have hl:(iy kvs k v).length<=sizeLine:=by have:=jo kvs k v;lia
  refine wpAny_setItem_pairs (hsz:=hz) (r4 ry) dd λh' dd' hs=>h _ ?_
  have he:∃ q,h'.get? a=some q:=let ⟨q,_,_,hq,_⟩:=dd';⟨q,hq⟩
  exact rh I (by rw [e];exact True.intro) hs he (yC hl hd (rel.put k rv) dd')
 ·subst ey eH
  cases (show u=Value.ref b from ry)
  obtain⟨z,hd,xs,rel,dd⟩:=yk I.hok e
  have hz:xs.length<=sizeLine:=by rw [<-Paired.length rel];exact z
  have hl:(iy kvs k v).length<=sizeLine:=by have:=jo kvs k v;lia
  refine wpAny_setItem_heap (hsz:=hz) (tupleKind_room_in1 hu) (m4 I.hok eb) dd λh' dd' hs=>h _ ?_
  obtain⟨q,es,ep,hq,h2,h3,h4,_,h5⟩:=dd'
  refine rh I (by rw [e];exact True.intro) hs ⟨q,hq⟩ ⟨hl,hd,_,(rel.put k eb rv).keeps λc ys ec=>?_,q,es,ep,hq,h2,h3,h4,h5⟩
  rw [aK (Ay ec e (λz=>nomatch z))]
  exact ec
end
section
variable {X:Cx}{pins:List (Addr×Obj)}{σ:St}{H:Hp}{s:Shared}{a:Addr}{kvs:List (Key×V)}{k:Key}{u:Value}{A:Around}{E:Value->Shared->Prop}
end
noncomputable def y7 (i:Expr):Prop:=∀ ov iv,subscripted i false ov iv=operate [ov,iv] (getItem ov iv)
theorem wV {prog:Program}{w:World}{A:Around}{E:Value->Shared->Prop}{s:Shared}{env:Env}{value slice:Expr}{pos:Pos}{T id:String}{Q:Value->Shared->Prop}
  (hl:typeLookup (.type T) "__getitem__" = pure (some (.builtin id))) (hs:y7 slice)
  (h:wpAny (model prog w) A (eval value env) (λo s₁=>wpAny (model prog w) A (eval slice env) (λi s₂=>s₂.TypeIs o T/\wpAny (model prog w) A (getItem o i) Q E s₂) E s₁) E s) :
  wpAny (model prog w) A (eval (.Subscript value slice pos) env) Q E s:=by
 refine Subscript_ (wpAny_mono h (λo s₁ h₁=>wpAny_mono h₁ (λi s₂ h₂=>?_) λ_ _ x=>x) λ_ _ x=>x)
 obtain⟨hT,h₂⟩:=h₂
 unfold subscriptTail
 refine wpAny_bind ?_
 rw [getitemInPython_of_ne hT.not_modules]
 refine wpAny_bind (wpAny_specialOf hT hl ?_)
 have fin:wpAny (model prog w) A (subscripted slice false o i) (λr s₃=>wpAny (model prog w) A (letTemporaryGo value o r >>= λ_=>pure r) Q E s₃) E s₂:=by
  rw [hs o i]
  exact wpAny_operating (wpAny_mono h₂ (λr s₃ h₃=>wpAny_bind (wpAny_letTemporaryGo (wpAny_pure h₃))) λ_ _ x=>x)
 first
  | exact wpAny_pure (wpAny_bind fin)
  | exact wpAny_bind (wpAny_pure (wpAny_bind fin))
  | exact wpAny_bind fin
theorem pK {X:Cx}{pins:List (Addr×Obj)}{σ:St}{H:Hp}{s:Shared}{a:Addr}{y:V}{o:Option V} (I:Inv X pins σ H s) (g:mV H a y o):s.TypeIs (.ref a) "dict":=by
 rcases g with⟨kvs,k,e,_,_⟩ | ⟨kvs,k,b,e,_,_,_⟩
 ·obtain⟨_,_,vs,_,dd⟩:=oh I.hok e
  exact dd.typeIs
 ·obtain⟨_,_,xs,_,dd⟩:=pO I.hok e
  exact dd.typeIs
noncomputable def A7 (td ty:TE):TE:=λσ H Q=>td σ H λx H1=>ty σ H1 λy H2=>∃ a v,x=.ref a/\mV H2 a y (some v)/\Q v H2
noncomputable def An (td ty tv:TE):TS:=λD σ H=>tv σ H λv H1=>td σ H1 λx H2=>ty σ H2 λy H3=>∃ a H4,x=.ref a/\ve H3 a y v H4/\D.nx σ H4
section
variable {X:Cx}{o i e value:Expr}{pos pos' tpos:Pos}{td ty tv:TE}
theorem xZ (hu:X.A.units+1 < cLine) (ho:PE X o td) (hi:PE X i ty) (hs:y7 i):PE X (.Subscript o i pos) (A7 td ty):=by
 intro pins s σ H Q I h
 refine wV PySem.F.slot_dict_getitem.lookup hs (thn (ho pins s σ H _ I h) λu s1 ⟨x,H1,I1,rx,q1⟩=>thn (hi pins s1 σ H1 _ I1 q1) λiv s2 ⟨y,H2,I2,ry,a,v,ex,g,q2⟩=>?_)
 subst ex
 obtain rfl:u=Value.ref a:=rx
 exact⟨pK I2 g,sD hu I2 g ry λw' s3 I3 rw'=>⟨v,H2,I3,rw',q2⟩⟩
theorem yc (hu:X.A.units+1 < cLine) (ho:PE X o td) (hi:PE X i ty) (hv:PE X value tv) (hs:swapsWith value (some (.Subscript o i pos')) pos.line X.env=pure false) :
  PS X (.Assign [.Subscript o i pos'] value pos) (An td ty tv):=by
 intro pins s σ H D I h
 refine wpAny_Assign_Subscript (thn (hv pins s σ H _ I h) λr s1 ⟨v,H1,I1,rv,q1⟩=>thn (ho pins s1 σ H1 _ I1 q1) λu s2 ⟨x,H2,I2,rx,q2⟩=>thn (hi pins s2 σ H2 _ I2 q2) λiv s3 ⟨y,H3,I3,ry,a,H4,ex,g,q3⟩=>?_) hs
 subst ex
 obtain rfl:u=Value.ref a:=rx
 exact tK hu I3 g ry rv λs4 I4=>⟨σ,H4,I4,q3⟩
end
theorem uG {P:Program}{w:World}{H:Hp} (h:Heap) (hb:sysModules < h.objs.size):bP P w H (h.push { cls:=.type "dict",data:=.dict #[] }) h.objs.size (.dT []):=
 ⟨Nat.zero_le _,beq_eq_false_iff_ne.mpr (Ne.symm (Nat.ne_of_lt hb)),[],.nil,_,#[],0,Heap.get?_push_size _ rfl,⟨rfl,rfl,rfl⟩,rfl,rfl,List.nodup_nil⟩
noncomputable def zg:TE:=λ_ H Q=>∀ p,H p=none->Q (.ref p) (upd H p (.dT []))
section
variable {X:Cx}{pos:Pos}
theorem wg:PE X (.Dict [] [] pos) zg:=λpins s σ H Q I h=>
 wpAny_Dict_empty ⟨.ref s.heap.objs.size,_,I.laid (a:=s.heap.objs.size) (o:=.dT []) (t':=s.toks) (λ_ _ q=>Heap.get?_push_of_some _ q) (Nat.le_refl _) (uG s.heap I.big),rfl,h _ (I.hok.fresh (Nat.le_refl _))⟩
end
structure M2 (X:Cx) (o:Expr) (m:Str) (apos:Pos) (e f:Expr) (cpos:Pos):Prop where
 base:attributeBase o m X.env (eval o X.env)=eval o X.env
 few:((backTo cpos (starEach [e,f] X.env)).all (λx=>!x.1) && (backToKw cpos (keywordEach [] X.env)).all (λx=>x.1.isSome)
  && decide (([e,f]:List Expr).length+([]:List Keyword).length+(if ([]:List Keyword).isEmpty then 0 else 1) < 30))=true
 line:(apos.endLine==cpos.line)=true
 trees:backTo cpos (starEach [e,f] X.env)=[(false,eval e X.env),(false,eval f X.env)]
noncomputable def IsD (H:Hp) (a:Addr):Prop:=(∃ kvs,Rd H a (.dK kvs))\/∃ kvs,Rd H a (.dT kvs)
theorem zf {X:Cx}{pins:List (Addr×Obj)}{σ:St}{H:Hp}{s:Shared}{a:Addr} (I:Inv X pins σ H s) (d:IsD H a) :
  s.TypeIs (.ref a) "dict"/\(∀ b,Value.ref a=.ref b->∃ ob,s.heap.get? b=some ob/\ob.dict=none)/\(a==sysModules)=false:=by
 rcases d with⟨kvs,e⟩ | ⟨kvs,e⟩
 ·obtain⟨_,hd,vs,_,dd⟩:=oh I.hok e
  refine⟨dd.typeIs,λb q=>?_,hd⟩
  cases q
  obtain⟨ob,_,_,h1,h2,_⟩:=dd
  exact⟨ob,h1,h2.2.1⟩
 ·obtain⟨_,hd,xs,_,dd⟩:=pO I.hok e
  refine⟨dd.typeIs,λb q=>?_,hd⟩
  cases q
  obtain⟨ob,_,_,h1,h2,_⟩:=dd
  exact⟨ob,h1,h2.2.1⟩
section
variable {X:Cx}{pins:List (Addr×Obj)}{σ:St}{H:Hp}{s:Shared}{a:Addr}{y d:V}{u r:Value}{o:Option V}{A:Around}{E:Value->Shared->Prop}
theorem y0 {Q:Value->Shared->Prop} (hu:A.units+1 < cLine) (I:Inv X pins σ H s) (g:mV H a y o) (ry:az y u) (rd:az d r) (h:∀ w' s',Inv X pins σ H s'->az (o.getD d) w'->Q w' s') :
  wpAny (model X.prog X.w) A (call (.builtin "dict.get") [.ref a,u,r]) Q E s:=by
 rcases g with⟨kvs,k,e,ey,l⟩ | ⟨kvs,k,b,e,ey,eb,l⟩
 ·subst ey
  obtain⟨z,hd,vs,rel,dd⟩:=oh I.hok e
  refine call_meetsIn PySem.F.slot_dict_get dd.typeIs PySem.F.entry_dict_get (PySem.F.args_dict_get_3 _ _ _) (meets_dict_get_default (bQ X.prog X.w) a (r4 ry) hd r) ⟨_,dd.mapOf,h _ _ (I.tok _) ?_⟩
  rw [l]
  exact (rel.val k).getD rd
 ·subst ey
  cases (show u=Value.ref b from ry)
  obtain⟨z,hd,xs,rel,dd⟩:=pO I.hok e
  refine call_meetsIn PySem.F.slot_dict_get dd.typeIs PySem.F.entry_dict_get (PySem.F.args_dict_get_3 _ _ _) (meetsH_dict_get_default (tupleKind (bQ X.prog X.w)) a b hd r) ⟨tupleKind_room_in1 hu,k,xs,m4 I.hok eb,dd,h _ _ (I.tok _) ?_⟩
  rw [l]
  exact (rel.val k).getD rd
end
noncomputable def zu (td ty tx:TE):TE:=λσ H Q=>td σ H λx H1=>∃ a,x=.ref a/\IsD H1 a/\ty σ H1 λy H2=>tx σ H2 λz H3=>∃ o,mV H3 a y o/\Q (o.getD z) H3
section
variable {X:Cx}{o e f:Expr}{apos cpos:Pos}{td ty tx:TE}
theorem vX (hu:X.A.units+1 < cLine) (ho:PE X o td) (he:PE X e ty) (hf:PE X f tx) (m:M2 X o "get" apos e f cpos):PE X (.Call (.Attribute o "get" apos) [e,f] [] cpos) (zu td ty tx):=by
 intro pins s σ H Q I h
 refine wpAny_Call_method m.base m.few m.line PySem.F.plainAttrs_dict PySem.F.slot_dict_get PySem.F.type_dict_get (thn (ho pins s σ H _ I h) λu s1 ⟨x,H1,I1,rx,a,ex,d,q1⟩=>?_)
 subst ex
 obtain rfl:u=Value.ref a:=rx
 obtain⟨t1,t2,_⟩:=zf I1 d
 refine⟨t1,t2,?_⟩
 rw [m.trees]
 refine Calls.callWith_builtin rfl (Calls.evalArgs_plain (Calls.spliced_cons (thn (he pins s1 σ H1 _ I1 q1) λiv s2 ⟨y,H2,I2,ry,q2⟩=>
  Calls.spliced_cons (thn (hf pins s2 σ H2 _ I2 q2) λfv s3 ⟨z,H3,I3,rz,ov,g,q3⟩=>Calls.spliced_nil ?_))))
 exact y0 hu I3 g ry rz λw' s4 I4 rw'=>⟨_,H3,I4,rw',q3⟩
end
section
variable {X:Cx}{pins:List (Addr×Obj)}{σ:St}{H:Hp}{s:Shared}{a:Addr}{kvs:List (Key×V)}{A:Around}{E:Value->Shared->Prop}
end
section
variable {X:Cx}{pins:List (Addr×Obj)}{σ:St}{H:Hp}{s:Shared}{a:Addr}{y:V}{u:Value}{A:Around}{E:Value->Shared->Prop}
end
end L2
namespace L2
open PySem PySem.Spec PyProof.Rows
section
variable {prog:Program}{w:World}{A:Around}{E:Value->Shared->Prop}{s:Shared}{κ:Type} [DecidableEq κ] {knd:KeyKind prog w κ}{a:Addr}{kvs:List (κ×Value)}
end
section
variable {X:Cx}{pins:List (Addr×Obj)}{σ:St}{H:Hp}{s:Shared}{a:Addr}{kvs:List (Key×V)}{k:Key}{u r:Value}{A:Around}{E:Value->Shared->Prop}{z:V}
end
section
variable {K:PySem.W.Frag}{X:Cx}{pos:Pos}{e a b o f:Expr}{fe fa fb fo ff:Ef}
end
section
variable {K:PySem.W.Frag}{X:Cx}
end
end L2
namespace L2
open PySem PySem.Spec PyProof.Rows
noncomputable def iu (h:Heap) (d:Addr) (es:Array DictEntry) (ep:Nat):Prop:=∃ o,h.get? d=some o/\o.ExactDict/\o.data=.dict es ep
theorem iu.at' {h h':Heap}{d:Addr}{es:Array DictEntry}{ep:Nat} (x:iu h d es ep) (e:∀ o,h.get? d=some o->h'.get? d=some o):iu h' d es ep:=let ⟨o,ho,r⟩:=x;⟨o,e o ho,r⟩
theorem iu.type {s:Shared}{d:Addr}{es:Array DictEntry}{ep:Nat} (x:iu s.heap d es ep):s.TypeIs (.ref d) "dict":=let ⟨o,ho,hc,_⟩:=x;⟨o,ho,hc.1⟩
theorem iu.lt {h:Heap}{d:Addr}{es:Array DictEntry}{ep:Nat} (x:iu h d es ep):d < h.objs.size:=let ⟨o,ho,_⟩:=x;Heap.lt_size ho
section
variable {prog:Program}{w:World}{A:Around}{E:Value->Shared->Prop}{s:Shared}{d it:Addr}{es:Array DictEntry}{i ep:Nat}
theorem vN {Q:Value->Shared->Prop} (hd:(d==sysModules)=false) (hm:iu s.heap d es ep)
  (hQ:Q (.ref s.heap.objs.size) { s with heap:=s.heap.push { cls:=.type "dict_keyiterator",data:=.fields #[.ref d,.int 0 0,.int es.size 0,.int ep 0] } }) :
  wpAny (model prog w) A (pyIter (.ref d)) Q E s:=by
 have hT:=hm.type
 obtain⟨o,ho,hc,hdat⟩:=id hm
 refine wpAny_pyIter_slot hT PySem.F.slot_dict_iter (wpAny_call_entry PySem.F.slot_dict_iter hT PySem.F.entry_dict_iter ?_ (PySem.F.args_dict_iter_1 _))
 unfold Builtin.«dict.__iter__»
 refine wpAny_bind ?_
 unfold Builtin.Dict.dictSlotNone
 refine wpAny_bind (wpAny_notOrdered_dict hT ?_)
 show wpAny _ _ (pure (Value.ref d)) _ _ s
 refine wpAny_pure ?_
 show wpAny _ _ (Builtin.Dict.showsAll d >>= _) _ _ s
 unfold Builtin.Dict.showsAll
 rw [if_neg (by rw [hd];exact Bool.false_ne_true)]
 refine wpAny_bind (wpAny_pure ?_)
 refine wpAny_bind (wpAny_dictEntries ho hdat ?_)
 refine wpAny_bind (wpAny_dictEpoch ho hdat ?_)
 refine wpAny_bind (wpAny_newObj_type (wpAny_pure ⟨_,rfl,"dict_keyiterator",_,⟨_,Heap.get?_push_size _ rfl,rfl⟩,PySem.F.slot_dict_keyiterator_next.lookup,?_⟩))
 simpa [rawInt] using hQ
theorem uj {Q:Option Value->Shared->Prop} (hit:s.heap.IsKeyIter it d i es.size ep) (hm:iu s.heap d es ep) (hlt':i < es.size)
  (hQ:∀ h',h'.IsKeyIter it d (i+1) es.size ep->Heap.SameBut it s.heap h'->Q (some es[i].key) { s with heap:=h' }) :
  wpAny (model prog w) A (pyNext (.ref it)) Q E s:=by
 obtain⟨o,ho,hc,hd⟩:=id hit
 obtain⟨od,hod,hcd,hdd⟩:=id hm
 unfold pyNext
 refine wpAny_bind (wpAny_attempt (wpAny_callSpecial?_slot (name:=Str.ofString "__next__") hit.typeIs PySem.F.slot_dict_keyiterator_next
  (wpAny_call_entry PySem.F.slot_dict_keyiterator_next hit.typeIs PySem.F.entry_dict_keyiterator_next ?_ (PySem.F.args_dict_keyiterator_next_1 _))))
 refine wpAny_bind (wpAny_pure ?_)
 refine wpAny_bind ?_
 refine wpAny_bind ?_
 first | refine wpAny_bind (wpAny_typeNameOfWhole_keyiter hit.typeIs (wpAny_pure ?_)) | refine wpAny_bind (wpAny_typeNameOf_keyiter hit.typeIs (wpAny_pure ?_))
 refine wpAny_bind (wpAny_fieldsOf ho hd ?_)
 have hown:Builtin.Dict_items.ownsTuple "dict_keyiterator" = false:=by decide
 simp only [hown,Bool.false_eq_true,if_false]
 show wpAny _ _ (if (Value.ref d==Value.none)=true then _ else _) _ _ s
 rw [if_neg (show ¬ ((Value.ref d==Value.none)=true) from Bool.false_ne_true)]
 refine wpAny_bind (wpAny_pure ?_)
 refine wpAny_bind (wpAny_dictEntries hod hdd ?_)
 rw [if_neg (by simp)]
 refine wpAny_bind (wpAny_pure ?_)
 refine wpAny_bind (wpAny_dictEpoch hod hdd ?_)
 rw [if_neg (by simp)]
 refine wpAny_pure ?_
 simp only [show ¬ ((i:Int) < 0) from by lia,if_false,Int.toNat_natCast,Array.getElem?_eq_getElem hlt']
 refine wpAny_bind ?_
 first | refine wpAny_bind (wpAny_typeNameOfWhole_keyiter hit.typeIs (wpAny_pure ?_)) | refine wpAny_bind (wpAny_typeNameOf_keyiter hit.typeIs (wpAny_pure ?_))
 refine wpAny_bind (wpAny_isOneOf_keyiter hit.typeIs ?_)
 show wpAny _ _ (setField (.ref it) 1 (rawInt ((i:Int)+1)) >>= _) _ _ s
 refine wpAny_bind (wpAny_setField ho hd (by simp) ?_)
 have hit':(s.heap.update it (Obj.mapFields (·.setIfInBounds 1 (rawInt ((i:Int)+1))))).IsKeyIter it d (i+1) es.size ep:=
  ⟨_,Heap.get?_update_self _ ho (Obj.isFreed_of_fields (Obj.data_mapFields hd _)),(Obj.cls_mapFields ..).trans hc,by rw [Obj.data_mapFields hd];simp [rawInt]⟩
 refine wpAny_bind (wpAny_holding ?_)
 refine wpAny_bind (wpAny_isOneOf_keyiter (s:={ s with heap:=s.heap.update it (Obj.mapFields (·.setIfInBounds 1 (rawInt ((i:Int)+1)))) }) hit'.typeIs ?_)
 show wpAny _ _ (pure es[i].key) _ _ _
 exact wpAny_pure (wpAny_pure ⟨_,rfl,wpAny_pure (hQ _ hit' (Heap.SameBut.update ..))⟩)
theorem wY {Q:Option Value->Shared->Prop} (hh:A.handled=none) (hit:s.heap.IsKeyIter it d es.size es.size ep) (hm:iu s.heap d es ep)
  (hQ:∀ h',Heap.ExtBut it s.heap h'->Q none { s with heap:=h' }):wpAny (model prog w) A (pyNext (.ref it)) Q E s:=by
 obtain⟨o,ho,hc,hd⟩:=id hit
 obtain⟨od,hod,hcd,hdd⟩:=id hm
 unfold pyNext
 refine wpAny_bind (wpAny_attempt (wpAny_callSpecial?_slot (name:=Str.ofString "__next__") hit.typeIs PySem.F.slot_dict_keyiterator_next
  (wpAny_call_entry PySem.F.slot_dict_keyiterator_next hit.typeIs PySem.F.entry_dict_keyiterator_next ?_ (PySem.F.args_dict_keyiterator_next_1 _))))
 refine wpAny_bind (wpAny_pure ?_)
 refine wpAny_bind ?_
 refine wpAny_bind ?_
 first | refine wpAny_bind (wpAny_typeNameOfWhole_keyiter hit.typeIs (wpAny_pure ?_)) | refine wpAny_bind (wpAny_typeNameOf_keyiter hit.typeIs (wpAny_pure ?_))
 refine wpAny_bind (wpAny_fieldsOf ho hd ?_)
 have hown:Builtin.Dict_items.ownsTuple "dict_keyiterator" = false:=by decide
 simp only [hown,Bool.false_eq_true,if_false]
 show wpAny _ _ (if (Value.ref d==Value.none)=true then _ else _) _ _ s
 rw [if_neg (show ¬ ((Value.ref d==Value.none)=true) from Bool.false_ne_true)]
 refine wpAny_bind (wpAny_pure ?_)
 refine wpAny_bind (wpAny_dictEntries hod hdd ?_)
 rw [if_neg (by simp)]
 refine wpAny_bind (wpAny_pure ?_)
 refine wpAny_bind (wpAny_dictEpoch hod hdd ?_)
 rw [if_neg (by simp)]
 refine wpAny_pure ?_
 have hge:es.size<=es.size:=Nat.le_refl _
 simp only [show ¬ ((es.size:Int) < 0) from by lia,if_false,Int.toNat_natCast,Array.getElem?_eq_none hge]
 refine wpAny_bind ?_
 first | refine wpAny_bind (wpAny_typeNameOfWhole_keyiter hit.typeIs (wpAny_pure ?_)) | refine wpAny_bind (wpAny_typeNameOf_keyiter hit.typeIs (wpAny_pure ?_))
 show wpAny _ _ (setField (.ref it) 0 .none >>= _) _ _ s
 refine wpAny_bind (wpAny_setField ho hd (by simp) ?_)
 show wpAny _ _ (newExc (.type "StopIteration") [] >>= _) _ _ _
 refine wpAny_bind ?_
 simp only [newExc,newTuple]
 refine wpAny_bind (wpAny_newObj_type ?_ (by size_fits))
 refine wpAny_bind (m:=firstArgMember _ _) (wpAny_of_eq (a:=Value.none) (by first | rfl | (simp only [firstArgMember];rfl)) ?_)
 refine wpAny_newObj_type ?_ (by size_fits)
 simp only [raiseNew]
 refine wpAny_bind (wpAny_handled ?_)
 rw [show A.in1.handled=none from hh]
 refine wpAny_bind (wpAny_pure (wpAny_throw ?_))
 refine wpAny_bind (wpAny_isInstance (T:="StopIteration") (b:=true) ⟨_,Heap.get?_push_size _ rfl,rfl⟩ isSubtype_stop ?_)
 exact wpAny_pure (hQ _ (((Heap.SameBut.update ..).extBut.push _).push _))
theorem sZ (hh:A.handled=none) (I d:Addr) (hne:d≠I) (es:Array DictEntry) (ep:Nat) :
  Walks prog w A I [I,d] [I] es.size (λi v=>∃ e,es[i]?=some e/\v=e.key) (λi h=>h.IsKeyIter I d i es.size ep/\iu h d es ep) where
 sub:=λb hb=>by simp at hb;simp [hb]
 frame:=λ_ _ _ st hk=>⟨st.1.at λo e=>hk I (by simp) o e,st.2.at' λo e=>hk d (by simp) o e⟩
 item:=λi s Q E hi st hQ=>by
  refine uj st.1 st.2 hi λh' hit' hs'=>?_
  exact hQ _ h' s.toks ⟨es[i],by simp [hi],rfl⟩ ⟨hit',st.2.at' λo q=>hs'.extBut d o hne q⟩ λb o hb q=>hs'.extBut b o (λh=>hb (by simp [h])) q
 done:=λs Q E st hQ=>wY hh st.1 st.2 λh' he'=>hQ h' s.toks λb o hb e=>he' b o (λh=>hb (by simp [h])) e
 self:=λ_ _ _ _ st hQ=>wpAny_pyIter_keyiter st.1 hQ
theorem ww (prog:Program) (w:World) (d:Addr) (es:Array DictEntry) (ep:Nat) (lo:(d==sysModules)=false):PySem.W.KdlSrc prog w "dict" d d es.size (λi v=>∃ e,es[i]?=some e/\v=e.key) (λh=>iu h d es ep) where
 type:=λs S=>S.type
 there:=λh S=>⟨S.lt,S.lt⟩
 keep:=λh h' S hk=>S.at' λo e=>hk d (.inl rfl) o e
 notList:=by decide
 notTuple:=by decide
 hint:=λA E s Q S h=>PySem.W.kdl_hint_dict S.type h
 iter:=λA s hh S=>⟨_,_,λE Q h=>vN lo S h,sZ hh s.heap.objs.size d (Nat.ne_of_lt S.lt) es ep,
  ⟨⟨_,Heap.get?_push_size _ rfl,rfl,rfl⟩,S.at' λo e=>Heap.get?_push_of_some _ e⟩⟩
end
end L2
namespace L2
open PySem PySem.Spec PyProof.Rows
section
variable {prog:Program}{w:World}{A:Around}{E:Value->Shared->Prop}{s:Shared}{d:Addr}{es:Array DictEntry}{ep:Nat}
theorem pL {Q:List Value->Shared->Prop} (lo:(d==sysModules)=false) (S:iu s.heap d es ep) (hh:A.handled=none) (hn:es.size<=sizeLine)
  (h:∀ h' tk,(∀ b o,s.heap.get? b=some o->h'.get? b=some o)->s.heap.objs.size < h'.objs.size->Q (es.toList.map (·.key)) { s with heap:=h',toks:=tk }) :
  wpAny (model prog w) A (collect (.ref d)) Q E s:=by
 have hlt:d < s.heap.objs.size:=S.lt
 unfold collect
 refine wpAny_bind (wpAny_runValue (codeAny_builtin entry_proto_collect' ?_))
 show wpAny _ _ (do again (.builtin "list.__iadd__" ⟨[<-newList [],.ref d],[]⟩)) _ _ s
 refine wpAny_bind (wpAny_newList (wpAny_pure ⟨Code.quiet_builtin _ (by decide +kernel),codeAny_builtin entry_list_iadd' ?_⟩))
 show wpAny _ _ (Builtin.List.listExtendWith (.ref s.heap.objs.size) (.ref d) (.ref s.heap.objs.size)) _ _ { s with heap:=s.heap.push (seqObj "list" #[] 0) }
 refine PySem.W.kdl_extend (A:=A) (R:=λr s'=>match r with
   | .ok (.ret v)=>wpAny (model prog w) A (match v with
     | .ref a=>do
      let o <-load a
      match o.data with
      | .seq xs _=>pure xs.toList
      | _=>unsupported "internal:collect"
     | _=>unsupported "internal:collect") Q E s'
   | .ok _=>False
   | .error e=>E e s') (s:={ s with heap:=s.heap.push (seqObj "list" #[] 0) }) (ww prog w d es ep lo) hh (S.at' λo e=>Heap.get?_push_of_some _ e) s.heap.objs.size (Nat.ne_of_gt hlt) (Nat.ne_of_gt hlt) (.ref s.heap.objs.size) 0 (Heap.get?_push_size _ rfl) (λh' tk acc c hk hS hI=>?_) hn
 show wpAny (model prog w) A (do
   let o <-load s.heap.objs.size
   match o.data with
   | .seq xs _=>pure xs.toList
   | _=>unsupported "internal:collect") Q E { s with heap:=h',toks:=tk }
 refine wpAny_bind (wpAny_load hS ?_)
 show wpAny _ _ (pure acc.toList) Q E _
 have e:acc.toList=es.toList.map (·.key):=by
  apply List.ext_getElem?
  intro i
  rw [List.getElem?_map,Array.getElem?_toList,Array.getElem?_toList]
  by_cases hi:i < acc.size
  ·obtain⟨e,he,hv⟩:=hI.2 i acc[i] (Array.getElem?_eq_getElem hi)
   rw [he,Array.getElem?_eq_getElem hi,hv];rfl
  ·rw [Array.getElem?_eq_none (by lia),Array.getElem?_eq_none (by rw [<-hI.1];lia)];rfl
 rw [e]
 refine wpAny_pure (h h' tk (λb o q=>?_) (Heap.lt_size hS))
 exact hk b o (Nat.ne_of_lt (Heap.lt_size q)) (Heap.get?_push_of_some _ q)
theorem qe {Q:Value->Shared->Prop}{vs:List Value} (lo:(d==sysModules)=false) (S:iu s.heap d es ep) (hh:A.in1.handled=none) (hvs:es.toList.map (·.key)=vs) (h64:vs.length<=64) (hu:A.in1.in1.units < cLine)
  (t:∀ v ∈ vs,∃ l,TuI s.heap v l)
  (h:∀ (h':Heap) (tk:Nat) (p:Addr) (ep:Nat) (out:List Value),(∀ b o,s.heap.get? b=some o->h'.get? b=some o)->s.heap.objs.size<=p->h'.get? p=some (seqObj "list" out.toArray ep)->out.Perm vs->out.Pairwise (λx y=>OI.kle (tuI s.heap x) (tuI s.heap y))->Q (.ref p) { s with heap:=h',toks:=tk }) :
  wpAny (model prog w) A (call (.builtin "sorted") [.ref d]) Q E s:=by
 refine Calls.call_function_entry kind_sorted plain_sorted entry_sorted (args_sorted1 _) ?_
 unfold Builtin.«sorted»
 refine wpAny_bind (m:=checkCount "sorted" 1 1 _) (wpAny_pure ?_)
 have hsz:es.size<=sizeLine:=by
  have:=congrArg List.length hvs
  rw [List.length_map,Array.length_toList] at this
  rw [sizeLine_eq];lia
 refine wpAny_bind (pL lo S hh hsz λh1 tk hk hlt=>?_)
 rw [hvs]
 refine wpAny_bind (wpAny_newList ?_ (by rw [sizeLine_eq];lia))
 have hoL:(h1.push (seqObj "list" vs.toArray 0)).get? h1.objs.size=some (seqObj "list" vs.toArray 0):=Heap.get?_push_size _ rfl
 show wpAny _ _ _ _ _ { s with heap:=h1.push (seqObj "list" vs.toArray 0),toks:=tk }
 refine wpAny_bind (wpAny_holding (wpAny_call_entry slot_list_sort ⟨_,hoL,rfl⟩ entry_list_sort (fX (O:=OI) (rk:=λp=>tuI s.heap p.1) (S:=λp=>∃ l,TuI s.heap p.1 l) (s:={ s with heap:=h1.push (seqObj "list" vs.toArray 0),toks:=tk }) hoL h64 (λh' hk'=>?_) (λv hv=>t v hv) λout a1 a2=>⟨_,rfl,?_⟩) (args_list_sort _)))
 ·have hk2:∀ b o,s.heap.get? b=some o->h'.get? b=some o:=λb o q=>hk' b o (Nat.ne_of_lt (Heap.lt_size (hk b o q))) (Heap.get?_push_of_some _ (hk b o q))
  obtain⟨κ,k1,k2⟩:=jY (prog:=prog) (w:=w) (s:={ s with heap:=h',toks:=tk }) (vs:=vs) (λv hv=>let ⟨l,tl⟩:=t v hv;⟨l,tl.fit hk2⟩) hu
  refine⟨κ,k1,λx y ⟨l,hx⟩ ⟨m,hy⟩ Q E hq=>k2 x y ⟨l,hx.fit hk2⟩ ⟨m,hy.fit hk2⟩ Q E ?_⟩
  have hx':=hx.fit hk2
  have hy':=hy.fit hk2
  have hq':Q (bD (tuI s.heap x.1) (tuI s.heap y.1)) { s with heap:=h',toks:=tk }:=hq
  show Q (bD (tuI h' x.1) (tuI h' y.1)) { s with heap:=h',toks:=tk }
  rw [hx'.is,hy'.is]
  rw [hx.is,hy.is] at hq'
  exact hq'
 ·refine wpAny_pure ⟨_,rfl,?_⟩
  obtain⟨ep',he⟩:=sortedHeap_at (out:=out.toArray) hoL
  refine h _ tk h1.objs.size ep' out (λb o q=>?_) (Nat.le_of_lt hlt) he a1 (a2.imp λ{x y} q=>q)
  have q1:=hk b o q
  have hb:b < h1.objs.size:=Heap.lt_size q1
  show (sortedHeap (h1.push (seqObj "list" vs.toArray 0)) h1.objs.size vs out.toArray).get? b=some o
  rw [sortedHeap_old (Nat.ne_of_lt hb) (by rw [size_push'];exact Nat.lt_succ_of_lt hb),Heap.get?_push_ne _ _ _ (Nat.ne_of_lt hb)]
  exact q1
end
noncomputable def mgt (st:Sto) (n:Nat):Option (List (List Int×D)):=match st[n]? with
 | some (.m kvs)=>some kvs
 | _=>none
noncomputable def vM (kvs:List (List Int×D)) (k:List Int):Option D:=(kvs.find? λp=>decide (p.1=k)).map (·.2)
noncomputable def jB (kvs:List (List Int×D)) (k:List Int) (d:D):List (List Int×D):=if (kvs.any λp=>decide (p.1=k))=true then kvs.map λp=>if p.1=k then (p.1,d) else p else kvs++[(k,d)]
noncomputable def yq:Ef
 | _,st=>some (.h st.length,st++[.m []])
noncomputable def oi (o k v:Ef):Ef
 | env,st=>(o env st).bind λx=>(k env x.2).bind λy=>(v env y.2).bind λz=>match x.1,y.1,z.1 with
 | .h n,.d (.tup ds),.d d=>(mgt x.2 n).bind λ_=>(mgt z.2 n).bind λkvs=>(aH ds).map λl=>(.d ((vM kvs l).getD d),z.2)
 | _,_,_=>none
noncomputable def sG (o k:Ef):Ef
 | env,st=>(o env st).bind λx=>(k env x.2).bind λy=>match x.1,y.1 with
 | .h n,.d (.tup ds)=>(mgt y.2 n).bind λkvs=>(aH ds).bind λl=>(vM kvs l).map λd=>(.d d,y.2)
 | _,_=>none
noncomputable def rJ (o k v:Ef):Sf
 | env,st=>(v env st).bind λz=>(o env z.2).bind λx=>(k env x.2).bind λy=>match x.1,y.1,z.1 with
 | .h n,.d (.tup ds),.d d=>(mgt y.2 n).bind λkvs=>(aH ds).bind λl=>if kvs.length < 1000 then some (.nx env (y.2.set n (.m (jB kvs l d)))) else none
 | _,_,_=>none
noncomputable def iQ (a:Ef):Lf
 | env,st=>(a env st).bind λx=>match x.1 with
 | .h n=>(mgt x.2 n).bind λkvs=>if kvs.length<=64 then some ((aS (kvs.map (·.1))).map ai,x.2) else none
 | _=>none
section
variable {K:PySem.W.Frag}{X:Cx}{pos:Pos}{e a b o f:Expr}{fe fa fb fo ff:Ef}
theorem ut {st:Sto}{n:Nat}{kvs:List (List Int×D)} (h:mgt st n=some kvs):st[n]?=some (.m kvs):=by
 unfold mgt at h
 split at h
 ·rename_i q;cases h;exact q
 ·cases h
theorem Sr.atm {H:Hp}{φ:List Addr}{st:Sto} (S:Sr K H φ st) {n:Nat}{p:Addr}{kvs:List (List Int×D)} (e1:φ[n]?=some p) (e2:mgt st n=some kvs):∃ vs,H p=some (.dT vs)/\Rkv K H φ kvs vs:=S.at_ n p _ e1 (ut e2)
theorem Rkv.length {H:Hp}{φ:List Addr}:∀ {ds:List (List Int×D)}{vs:List (List Key×V)},Rkv K H φ ds vs->ds.length=vs.length
 | [],_,h=>by cases h;rfl
 | (k,d)::ds,_,h=>by
  obtain⟨v,r,rfl,h1,h2⟩:=h
  rw [List.length_cons,List.length_cons,Rkv.length h2]
theorem ip:∀ {a b:List Int},dP a=dP b->a=b
 | [],[],_=>rfl
 | [],_::_,h=>by cases h
 | _::_,[],h=>by cases h
 | x::a,y::b,h=>by
  have h':(Sum.inl x:Key)::dP a=Sum.inl y::dP b:=h
  injection h' with h1 h2
  injection h1 with h1
  rw [h1,ip h2]
theorem rC (l:List Int):(dP l).map kV=l.map V.int:=by
 unfold dP
 rw [List.map_map];rfl
theorem Rkv.val {H:Hp}{φ:List Addr}{i:List Int}:∀ {ds:List (List Int×D)}{vs:List (List Key×V)},Rkv K H φ ds vs->(∀ d,vM ds i=some d->∃ v,eZ vs (dP i)=some v/\Rl K H φ d v)/\(vM ds i=none->eZ vs (dP i)=none)
 | [],_,h=>by cases h;exact⟨(λd e=>nomatch e),λ_=>rfl⟩
 | (k,d)::ds,_,h=>by
  obtain⟨v,r,rfl,h1,h2⟩:=h
  have ih:=Rkv.val (i:=i) h2
  by_cases e:k=i
  ·subst e
   have e1:vM ((k,d)::ds) k=some d:=by unfold vM;rw [List.find?_cons_of_pos (by simp)];rfl
   have e2:eZ ((dP k,v)::r) (dP k)=some v:=by unfold eZ;rw [List.find?_cons_of_pos (by simp)];rfl
   rw [e1,e2]
   exact⟨λd' q=>⟨v,rfl,by cases q;exact h1⟩,λq=>nomatch q⟩
  ·have e1:vM ((k,d)::ds) i=vM ds i:=by unfold vM;rw [List.find?_cons_of_neg (by simpa using e)]
   have e2:eZ ((dP k,v)::r) (dP i)=eZ r (dP i):=by unfold eZ;rw [List.find?_cons_of_neg (by simpa using λz=>e (ip z))]
   rw [e1,e2]
   exact ih
theorem Rkv.any {H:Hp}{φ:List Addr}{i:List Int}:∀ {ds:List (List Int×D)}{vs:List (List Key×V)},Rkv K H φ ds vs->(vs.any λp=>decide (p.1=dP i))=ds.any λp=>decide (p.1=i)
 | [],_,h=>by cases h;rfl
 | (k,d)::ds,_,h=>by
  obtain⟨v,r,rfl,h1,h2⟩:=h
  rw [List.any_cons,List.any_cons,Rkv.any h2]
  congr 1
  exact decide_eq_decide.mpr ⟨λz=>ip z,λz=>congrArg dP z⟩
theorem Rkv.repl {H:Hp}{φ:List Addr}{i:List Int}{x:D}{y:V} (hx:Rl K H φ x y):∀ {ds:List (List Int×D)}{vs:List (List Key×V)},Rkv K H φ ds vs->Rkv K H φ (ds.map λp=>if p.1=i then (p.1,x) else p) (vs.map λp=>if p.1=dP i then (p.1,y) else p)
 | [],_,h=>by cases h;exact rfl
 | (k,d)::ds,_,h=>by
  obtain⟨v,r,rfl,h1,h2⟩:=h
  rw [List.map_cons,List.map_cons]
  by_cases e:k=i
  ·rw [if_pos e,if_pos (by rw [e])]
   exact⟨y,_,rfl,hx,Rkv.repl hx h2⟩
  ·rw [if_neg e,if_neg (λz=>e (ip z))]
   exact⟨v,_,rfl,h1,Rkv.repl hx h2⟩
theorem Rkv.snoc {H:Hp}{φ:List Addr}:∀ {ds:List (List Int×D)}{vs:List (List Key×V)}{k:List Int}{d:D}{v:V},Rkv K H φ ds vs->Rl K H φ d v->Rkv K H φ (ds++[(k,d)]) (vs++[(dP k,v)])
 | [],_,_,_,_,h,hd=>by cases h;exact⟨_,[],rfl,hd,rfl⟩
 | (k,d)::ds,_,_,_,_,h,hd=>by
  obtain⟨v,r,rfl,h1,h2⟩:=h
  exact⟨v,_,rfl,h1,Rkv.snoc h2 hd⟩
theorem Rkv.put {H:Hp}{φ:List Addr}{ds:List (List Int×D)}{vs:List (List Key×V)}{k:List Int}{d:D}{v:V} (h:Rkv K H φ ds vs) (hd:Rl K H φ d v):Rkv K H φ (jB ds k d) (iy vs (dP k) v):=by
 unfold jB iy
 rw [h.any]
 split
 ·exact h.repl hd
 ·exact h.snoc hd
theorem nz {H:Hp}{φ:List Addr}{ds:List D}{l:List Int}{v:V} (hl:aH ds=some l) (r:Rl K H φ (.tup ds) v):∃ p,v=.ref p/\H p=some (.tup ((dP l).map kV)):=by
 obtain⟨p,vs,rfl,h1,h2⟩:=r
 cases cw hl
 cases h2.ints
 rw [rC]
 exact⟨p,rfl,h1⟩
theorem xX:IE K X (.Dict [] [] pos) yq:=by
 refine⟨λenv st r hr=>?_⟩
 cases hr
 refine wg.imp ?_
 rintro σ H Q ⟨φ,hE,hS,q⟩
 exact λp hp=>q _ _ (φ++[p]) (Fw.moreO hp) (hS.moreC hp ⟨[],aP,rfl⟩) ⟨p,by rw [<-hS.len];simp,rfl⟩
theorem wn {k:Nat}{apos:Pos} (hr0:bu k X.A) (ho:IE K X o fo) (he:IE K X e fe) (hf:IE K X f ff) (m:M2 X o "get" apos e f pos):IE K X (.Call (.Attribute o "get" apos) [e,f] [] pos) (oi fo fe ff):=by
 refine⟨λenv st r hr=>?_⟩
 simp only [oi,Option.bind_eq_some_iff] at hr
 obtain⟨⟨x,s1⟩,hx,⟨y,s2⟩,hy,⟨z,s3⟩,hz,hr⟩:=hr
 dsimp only at hr
 split at hr
 next n ds d=>
  simp only [Option.bind_eq_some_iff,Option.map_eq_some_iff] at hr
  obtain⟨kv1,hk1,kvs,hk,l,hl,rfl⟩:=hr
  refine (vX (vp hr0) (ho.run _ _ _ hx) (he.run _ _ _ hy) (hf.run _ _ _ hz) m).imp ?_
  rintro σ H Q ⟨φ,hE,hS,q⟩
  refine⟨φ,hE,hS,λv H1 φ1 f1 S1 w1=>?_⟩
  obtain⟨p,ep,rfl⟩:=id w1
  obtain⟨vs1,hv1,_⟩:=S1.atm ep hk1
  refine⟨p,rfl,.inr ⟨vs1,.inl hv1⟩,φ1,hE.fw hS f1,S1,λu H2 φ2 f2 S2 w2=>⟨φ2,(hE.fw hS f1).fw S1 f2,S2,λz' H3 φ3 f3 S3 w3=>?_⟩⟩
  have ep3:=f3.get (f2.get ep)
  obtain⟨vs,hv,rl⟩:=S3.atm ep3 hk
  obtain⟨b,rfl,hb⟩:=nz hl (Rl.fw S2 f3 w2)
  refine⟨_,mV.t hv hb,?_⟩
  cases hc:vM kvs l with
  | none=>
   rw [rl.val.2 hc]
   exact q _ H3 φ3 ((f1.trans f2).trans f3) S3 (by rw [hc];exact w3)
  | some d'=>
   obtain⟨v2,e2,r2⟩:=rl.val.1 d' hc
   rw [e2]
   exact q _ H3 φ3 ((f1.trans f2).trans f3) S3 (by rw [hc];exact r2)
 ·cases hr
theorem vw {k:Nat} (hr0:bu k X.A) (ha:IE K X a fa) (hb:IE K X b fb) (hs:y7 b):IE K X (.Subscript a b pos) (sG fa fb):=by
 refine⟨λenv st r hr=>?_⟩
 simp only [sG,Option.bind_eq_some_iff] at hr
 obtain⟨⟨x,s1⟩,hx,⟨y,s2⟩,hy,hr⟩:=hr
 dsimp only at hr
 split at hr
 next n ds=>
  simp only [Option.bind_eq_some_iff,Option.map_eq_some_iff] at hr
  obtain⟨kvs,hk,l,hl,d,hd,rfl⟩:=hr
  refine (xZ (vp hr0) (ha.run _ _ _ hx) (hb.run _ _ _ hy) hs).imp ?_
  rintro σ H Q ⟨φ,hE,hS,q⟩
  refine⟨φ,hE,hS,λv H1 φ1 f1 S1 w1=>⟨φ1,hE.fw hS f1,S1,λu H2 φ2 f2 S2 w2=>?_⟩⟩
  obtain⟨p,ep,rfl⟩:=w1.fw S1 f2
  obtain⟨vs,hv,rl⟩:=S2.atm ep hk
  obtain⟨v2,e2,r2⟩:=rl.val.1 d hd
  obtain⟨b',rfl,hb'⟩:=nz hl w2
  refine⟨p,v2,rfl,?_,q _ H2 φ2 (f1.trans f2) S2 r2⟩
  rw [<-e2]
  exact mV.t hv hb'
 ·cases hr
theorem xu {k:Nat}{tpos:Pos} (hr0:bu k X.A) (ho:IE K X a fa) (hi:IE K X b fb) (hv:IE K X e fe) (hs:swapsWith e (some (.Subscript a b tpos)) pos.line X.env=pure false:=by rfl) :
  IS K X (.Assign [.Subscript a b tpos] e pos) (rJ fa fb fe):=by
 refine⟨λenv st r hr=>?_⟩
 simp only [rJ,Option.bind_eq_some_iff] at hr
 obtain⟨⟨z,s1⟩,hz,⟨x,s2⟩,hx,⟨y,s3⟩,hy,hr⟩:=hr
 dsimp only at hr
 split at hr
 next n ds d=>
  simp only [Option.bind_eq_some_iff] at hr
  obtain⟨kvs,hk,l,hl,hr⟩:=hr
  split at hr
  ·rename_i hlen
   cases hr
   refine (yc (vp hr0) (ho.run _ _ _ hx) (hi.run _ _ _ hy) (hv.run _ _ _ hz) hs).imp ?_
   rintro D σ H ⟨φ,hE,hS,q⟩
   refine⟨φ,hE,hS,λv H1 φ1 f1 S1 w1=>⟨φ1,hE.fw hS f1,S1,λu H2 φ2 f2 S2 w2=>⟨φ2,(hE.fw hS f1).fw S1 f2,S2,λt H3 φ3 f3 S3 w3=>?_⟩⟩⟩
   obtain⟨p,ep,rfl⟩:=w2.fw S2 f3
   obtain⟨vs,hp,rl⟩:=S3.atm ep hk
   obtain⟨b',rfl,hb'⟩:=nz hl w3
   have w1':=Rl.fw S2 f3 (Rl.fw S1 f2 w1)
   obtain⟨f4,S4⟩:=S3.putC (o:=.dT (iy vs (dP l) v)) (c:=.m (jB kvs l d)) ep λf=>⟨_,aP,(rl.put w1').fw S3 f⟩
   refine⟨p,_,rfl,ve.t hp hb' (by rw [<-rl.length];exact Nat.lt_of_lt_of_le hlen (by rw [sizeLine_eq];decide)),?_⟩
   exact q _ _ φ3 (((f1.trans f2).trans f3).trans f4) (((((hE.fw hS f1).fw S1 f2).fw S2 f3)).fw S3 f4) S4
  ·cases hr
 ·cases hr
theorem qU {H:Hp}{φ:List Addr}:∀ {kvs:List (List Int×D)}{vs:List (List Key×V)}{xs:List (List Key×Addr×Value)},Rkv K H φ kvs vs->KT H vs xs->
  Rls K H φ ((kvs.map (·.1)).map ai) (xs.map λx=>V.ref x.2.1)/\ay (xs.map λx=>V.ref x.2.1) (xs.map λx=>Value.ref x.2.1)
 | [],_,_,h,t=>by cases h;cases t;exact⟨rfl,.nil⟩
 | (k,d)::kvs,_,_,h,t=>by
  obtain⟨v,r,rfl,h1,h2⟩:=h
  cases t with
  | cons q t=>
   rename_i x xs
   obtain⟨i1,i2⟩:=qU h2 t
   have e:H x.2.1=some (.tup (k.map V.int)):=by rw [<-rC];exact q.2.1
   exact⟨⟨_,_,rfl,⟨x.2.1,k.map V.int,rfl,e,Rls.of_ints k⟩,i1⟩,.cons rfl i2⟩
theorem vd {k:Nat}{p:Pos} (hr0:bu k X.A) (hg:Gl X "sorted") (hm:X.mg "sorted" = none) (ha:IE K X a fa) (hc:X.calm=true:=by rfl) (hs:aA a=true:=by rfl) (hK:X.K=K:=by rfl):IL K X (.Call (.Name "sorted" p) [a] [] pos) (iQ fa):=by
 subst hK
 refine⟨λenv st r hr=>?_⟩
 simp only [iQ,Option.bind_eq_some_iff] at hr
 obtain⟨⟨x,s1⟩,hx,hr⟩:=hr
 match x,hr with
 | .h n,hr=>
  simp only [Option.bind_eq_some_iff] at hr
  obtain⟨kvs,hk,hr⟩:=hr
  split at hr
  ·rename_i hl
   cases hr
   have hA:=(aa (K:=X.K) (X:=X) ha aj hs).run env st ([.h n],s1) (by simp only [ab,am,hx,Option.bind_some,Option.map_some])
   have hC:cW X (.builtin "sorted") (λxs H Q=>∃ φ q,Sr X.K H φ s1/\φ[n]?=some q/\xs=[.ref q]/\∀ l us,H l=none->Rls X.K H φ ((aS (kvs.map (·.1))).map ai) us->Q (.ref l) (upd H l (.lst us))):=by
    intro pins s σ H xs us Q I rv q
    obtain⟨φ,ad,S,ead,rfl,q⟩:=q
    obtain⟨u,rfl,ru⟩:=g9 rv
    cases ru
    obtain⟨vs,hv,rl⟩:=S.atm ead hk
    obtain⟨z',hd,xs,rel,o,es,ep,g1,g2,g3,g4,g5,g6⟩:=yk I.hok hv
    obtain⟨b1,b2⟩:=qU rl rel
    have hlen:xs.length<=64:=by
     have e1:=rel.length
     have e2:=rl.length
     lia
    have hkeys:es.toList.map (·.key)=xs.map λx=>Value.ref x.2.1:=by rw [g4,List.map_map];rfl
    obtain⟨m1,m2⟩:=g8 I b1 b2
    have hun:X.A.in1.in1.units < cLine:=by
     have:=hr0.un
     show X.A.units+1+1 < cLine
     lia
    refine qe hd ⟨o,g1,g2,g3⟩ (I.ok.hd hc) hkeys (by rw [List.length_map];exact hlen) hun (λv hv=>⟨_,(m2 v hv).1⟩) λh' tk p ep' out hkeep hp he a1 a2=>?_
    have hn:H p=none:=I.hok.fresh hp
    have ho:=λu hu=>m2 u (a1.mem_iff.mp hu)
    obtain⟨c1,c2⟩:=gY (K:=X.K) (H:=H) (φ:=φ) ho
    have hpm:(out.map (tuI s.heap)).Perm (kvs.map (·.1)):=by
     have:=a1.map (tuI s.heap)
     rw [m1] at this;exact this
    have hsrt:(out.map (tuI s.heap)).Pairwise leL:=by
     rw [List.pairwise_map]
     exact a2.imp λ{x y} q=>q
    have e:out.map (tuI s.heap)=aS (kvs.map (·.1)):=cF (hpm.trans (bf _).symm) hsrt (bZ _)
    have e2:(out.map λu=>ai (tuI s.heap u))=(aS (kvs.map (·.1))).map ai:=by rw [<-e,List.map_map];rfl
    rw [e2] at c1
    have hlay:Inv X pins σ (upd H p (.lst (out.map toV))) { s with heap:=h',toks:=tk }:=by
     refine I.laid (t':=tk) (a:=p) (o:=.lst (out.map toV)) hkeep hp ⟨?_,out,ep',c2,by simpa [seqObj] using he⟩
     rw [List.length_map,a1.length_eq,List.length_map];exact eJ (by lia)
    exact⟨.ref p,_,hlay,rfl,q p _ hn c1⟩
   refine (lj hC hg hm PyProof.Rows.boot_sorted hA (by decide) (by decide) (aX hs) (bY (es:=[]) rfl)).imp ?_
   rintro σ H Q ⟨φ,hE,hS,q⟩
   refine⟨φ,hE,hS,λvs H1 φ1 f1 S1 w1=>?_⟩
   obtain⟨v,r,rfl,⟨ad,ead,rfl⟩,rfl⟩:=w1
   exact⟨φ1,ad,S1,ead,rfl,λl us hl' hr'=>q l _ H1 φ1 f1 S1 hl' hr'⟩
  ·cases hr
end
end L2
namespace L2
open PySem PySem.Spec PyProof.Rows
noncomputable def gh (w:World) (a:Addr) (es:Array (Int×Value)) (ep:Nat):Array (Int×Value):=if byT w then pickOrder (w.params.setOrder a ep) es else es
theorem mD (w:World) (a:Addr) (es:Array (Int×Value)) (ep:Nat):(gh w a es ep).toList.Perm es.toList:=by
 unfold gh
 split
 ·unfold pickOrder
  exact (eF _ _ _ _ _ (by simp)).trans (by simp)
 ·exact List.Perm.refl _
theorem fV (w:World) (a:Addr) (es:Array (Int×Value)) (ep:Nat):(gh w a es ep).size=es.size:=by
 have:=(mD w a es ep).length_eq
 rw [Array.length_toList,Array.length_toList] at this;exact this
noncomputable def cN (w:World) (l:List Nat) (i:Nat):Nat:=if byT w then 0 else gt l i
section
variable {prog:Program}{w:World}{A:Around}{E:Value->Shared->Prop}{s:Shared}{a it:Addr}{es:Array (Int×Value)}{ep i:Nat}{t:SetTable}{l:List Nat}
theorem cc.walk {Q:Array (Int×Value)->Shared->Prop} (S:cc w s.heap a es ep t l) (h:Q (gh w a es ep) s):wpAny (model prog w) A (setWalk a) Q E s:=by
 obtain⟨o,ho,hx,hd,T,hs⟩:=id S
 unfold setWalk
 refine wpAny_bind (S.state ?_)
 dsimp only
 refine wpAny_bind (cv ?_)
 unfold gh at h
 cases hb:byT w with
 | true=>
  rw [hb,if_pos rfl] at h
  rw [if_pos rfl]
  exact wpAny_bind (wpAny_askSetting (wpAny_pure h))
 | false=>
  rw [hb,if_neg Bool.false_ne_true] at h
  rw [if_neg Bool.false_ne_true]
  have hl:t.led=true:=by rw [T.led,hb];rfl
  refine wpAny_ite_split (λz=>?_) λ_=>?_
  ·exfalso
   revert z
   show ¬ ((!t.plain && _)=true)
   rw [T.plain];simp
  ·refine wpAny_bind (Q:=_) ?_
   show wpAny _ _ (if (!t.led && _)=true then _ else _) _ _ _
   rw [hl]
   simp only [Bool.not_true,Bool.false_and,Bool.false_eq_true,↓reduceIte]
   exact wpAny_pure (wpAny_pure h)
theorem cc.iter {Q:Value->Shared->Prop} (S:cc w s.heap a es ep t l)
  (hQ:Q (.ref s.heap.objs.size) { s with heap:=s.heap.push { cls:=.type "set_iterator",data:=.fields #[.int 0 0,.int 0 0,.ref a,.int es.size 0,.int ep 0] } }) :
  wpAny (model prog w) A (pyIter (.ref a)) Q E s:=by
 obtain⟨o,ho,hx,hd,T,hs⟩:=id S
 refine wpAny_pyIter_slot S.type PySem.F.slot_set_iter (wpAny_call_entry PySem.F.slot_set_iter S.type fK ?_ (PySem.F.args_set_iter_1 _))
 unfold Builtin.«frozenset.__iter__» Builtin.Frozenset.slot0 slotArgs
 simp only [List.isEmpty_nil,Bool.not_true,Bool.false_eq_true,↓reduceIte,bind_assoc,List.length_nil,bne_self_eq_false]
 unfold Builtin.Frozenset.addrOf Builtin.Frozenset.sizeOf setEntries setDrawn
 refine wpAny_bind (wpAny_pure ?_)
 try dsimp only
 refine wpAny_bind (wpAny_pure ?_)
 refine wpAny_bind (wpAny_bind (wpAny_bind (S.state (wpAny_pure (wpAny_pure ?_)))))
 refine wpAny_bind (wpAny_bind (S.state ?_))
 dsimp only
 refine wpAny_bind (cv (wpAny_pure ?_))
 have e0:(!byT w && (!t.plain && decide (es.size > 1)))=false:=by rw [T.plain];simp
 refine wpAny_ite_split (λz=>absurd (z.symm.trans (show _=false from e0)) (by simp)) λ_=>?_
 refine wpAny_bind (wpAny_pure ?_)
 unfold setEpoch
 refine wpAny_bind (wpAny_bind (S.state (wpAny_pure ?_)))
 simp only [newFields]
 refine wpAny_bind (wpAny_newObj_type (wpAny_pure ⟨_,rfl,"set_iterator",_,⟨_,Heap.get?_push_size _ rfl,rfl⟩,aI.lookup,?_⟩))
 simpa [rawInt] using hQ
theorem cc.next {Q:Option (Value×Nat)->Shared->Prop} (S:cc w s.heap a es ep t l) (hi:i<=l.length)
  (h:Q ((gh w a es ep)[i]?.map λe=>(e.2,cN w l (i+1))) s):wpAny (model prog w) A (setNext a (cN w l i) i ep) Q E s:=by
 obtain⟨o,ho,hx,hd,T,hs⟩:=id S
 unfold setNext
 refine wpAny_bind (S.state ?_)
 dsimp only
 refine wpAny_bind (cv ?_)
 cases hb:byT w with
 | true=>
  rw [if_pos rfl]
  simp only [bne_self_eq_false,Bool.false_eq_true,↓reduceIte]
  refine wpAny_bind (S.walk (wpAny_pure ?_))
  unfold cN at h
  rw [hb,if_pos rfl] at h
  unfold cN
  rw [hb,if_pos rfl]
  exact h
 | false=>
  rw [if_neg Bool.false_ne_true]
  have hl:t.led=true:=by rw [T.led,hb];rfl
  refine wpAny_ite_split (λz=>?_) λ_=>?_
  ·exfalso
   revert z
   show ¬ ((!t.plain && _)=true)
   rw [T.plain];simp
  ·refine wpAny_bind (Q:=_) ?_
   show wpAny _ _ (if (!t.led && _)=true then _ else _) _ _ _
   rw [hl]
   simp only [Bool.not_true,Bool.false_and,Bool.false_eq_true,↓reduceIte]
   refine wpAny_pure ?_
   unfold cN at h
   rw [hb,if_neg Bool.false_ne_true] at h
   unfold gh at h
   rw [hb,if_neg Bool.false_ne_true] at h
   unfold cN
   rw [hb,if_neg Bool.false_ne_true,T.pl,qC T.ris hi]
   refine wpAny_pure ?_
   by_cases hlt:i < l.length
   ·have hlt':i < es.size:=by lia
    have e2:l.toArray[i]?=some l[i]:=by simp [hlt]
    rw [Array.getElem?_eq_getElem hlt',e2]
    rw [Array.getElem?_eq_getElem hlt'] at h
    have e3:gt l (i+1)=l[i]+1:=by
     unfold gt
     rw [if_neg (by lia)]
     simp [List.getD_eq_getElem?_getD,hlt]
    rw [e3] at h
    exact h
   ·have e1:es[i]?=none:=Array.getElem?_eq_none (by lia)
    rw [e1] at h ⊢
    exact h
theorem cc.item {Q:Option Value->Shared->Prop} (hit:b6 s.heap it a (cN w l i) i es.size ep) (S:cc w s.heap a es ep t l) (hi:i < es.size) {e:Int×Value} (he:(gh w a es ep)[i]?=some e)
  (hQ:∀ h',b6 h' it a (cN w l (i+1)) (i+1) es.size ep->Heap.SameBut it s.heap h'->Q (some e.2) { s with heap:=h' }) :
  wpAny (model prog w) A (pyNext (.ref it)) Q E s:=by
 obtain⟨_,_,_,_,T,hs⟩:=id S
 obtain⟨o,ho,hc,hd⟩:=id hit
 unfold pyNext
 refine wpAny_bind (wpAny_attempt (wpAny_callSpecial?_slot (name:=Str.ofString "__next__") hit.typeIs aI
  (wpAny_call_entry aI hit.typeIs cp ?_ (cH _))))
 unfold Builtin.«set_iterator.__next__» slotArgs
 simp only [List.isEmpty_nil,Bool.not_true,Bool.false_eq_true,↓reduceIte,List.length_nil,bne_self_eq_false]
 refine wpAny_bind (wpAny_pure ?_)
 dsimp only
 unfold fieldsOf
 dsimp only
 refine wpAny_bind ?_
 refine wpAny_bind (wpAny_load ho ?_)
 rw [hd]
 refine wpAny_pure ?_
 dsimp only
 unfold setEntries
 refine wpAny_bind (wpAny_bind (S.state (wpAny_pure ?_)))
 have e1:((es.size:Int) != (es.size:Int))=false:=by simp
 dsimp only
 rw [if_neg (by rw [e1];exact Bool.false_ne_true)]
 refine wpAny_bind ?_
 simp only [Int.toNat_natCast]
 refine S.next (by lia) ?_
 rw [he]
 dsimp only [Option.map]
 refine wpAny_bind (wpAny_setField ho hd (by simp) ?_)
 have ho1:=Heap.get?_update_self (Obj.mapFields λxs=>xs.setIfInBounds 0 (rawInt (cN w l (i+1)))) ho (Obj.isFreed_of_fields (Obj.data_mapFields hd _))
 have hd1:=Obj.data_mapFields hd (λxs=>xs.setIfInBounds 0 (rawInt (cN w l (i+1))))
 refine wpAny_bind (wpAny_setField ho1 hd1 (by simp) (wpAny_pure ⟨e.2,rfl,wpAny_pure (hQ _ ?_ ((Heap.SameBut.update ..).trans (Heap.SameBut.update ..)))⟩))
 refine⟨_,Heap.get?_update_self _ ho1 (Obj.isFreed_of_fields (Obj.data_mapFields hd1 _)),(Obj.cls_mapFields ..).trans ((Obj.cls_mapFields ..).trans hc),?_⟩
 rw [Obj.data_mapFields hd1];simp [rawInt]
theorem cc.fin {Q:Option Value->Shared->Prop} (hh:A.handled=none) (hit:b6 s.heap it a (cN w l es.size) es.size es.size ep) (S:cc w s.heap a es ep t l)
  (hQ:∀ h',Heap.ExtBut it s.heap h'->Q none { s with heap:=h' }):wpAny (model prog w) A (pyNext (.ref it)) Q E s:=by
 obtain⟨_,_,_,_,T,hs⟩:=id S
 obtain⟨o,ho,hc,hd⟩:=id hit
 unfold pyNext
 refine wpAny_bind (wpAny_attempt (wpAny_callSpecial?_slot (name:=Str.ofString "__next__") hit.typeIs aI
  (wpAny_call_entry aI hit.typeIs cp ?_ (cH _))))
 unfold Builtin.«set_iterator.__next__» slotArgs
 simp only [List.isEmpty_nil,Bool.not_true,Bool.false_eq_true,↓reduceIte,List.length_nil,bne_self_eq_false]
 refine wpAny_bind (wpAny_pure ?_)
 dsimp only
 unfold fieldsOf
 dsimp only
 refine wpAny_bind ?_
 refine wpAny_bind (wpAny_load ho ?_)
 rw [hd]
 refine wpAny_pure ?_
 dsimp only
 unfold setEntries
 refine wpAny_bind (wpAny_bind (S.state (wpAny_pure ?_)))
 have e1:((es.size:Int) != (es.size:Int))=false:=by simp
 dsimp only
 rw [if_neg (by rw [e1];exact Bool.false_ne_true)]
 refine wpAny_bind ?_
 simp only [Int.toNat_natCast]
 refine S.next (by lia) ?_
 rw [Array.getElem?_eq_none (by rw [fV];exact Nat.le_refl _)]
 dsimp only [Option.map]
 refine wpAny_bind (wpAny_setField ho hd (by simp) ?_)
 show wpAny _ _ (newExc (.type "StopIteration") [] >>= _) _ _ _
 refine wpAny_bind ?_
 simp only [newExc,newTuple]
 refine wpAny_bind (wpAny_newObj_type ?_ (by size_fits))
 refine wpAny_bind (m:=firstArgMember _ _) (wpAny_of_eq (a:=Value.none) (by first | rfl | (simp only [firstArgMember];rfl)) ?_)
 refine wpAny_newObj_type ?_ (by size_fits)
 simp only [raiseNew]
 refine wpAny_bind (wpAny_handled ?_)
 rw [show A.in1.handled=none from hh]
 refine wpAny_bind (wpAny_pure (wpAny_throw ?_))
 refine wpAny_bind (wpAny_isInstance (T:="StopIteration") (b:=true) ⟨_,Heap.get?_push_size _ rfl,rfl⟩ isSubtype_stop ?_)
 exact wpAny_pure (hQ _ (((Heap.SameBut.update ..).extBut.push _).push _))
theorem pV (hh:A.handled=none) (I a:Addr) (hne:a≠I) (es:Array (Int×Value)) (ep:Nat) (t:SetTable) (l:List Nat) :
  Walks prog w A I [I,a] [I] es.size (λi v=>∃ e,(gh w a es ep)[i]?=some e/\v=e.2) (λi h=>b6 h I a (cN w l i) i es.size ep/\cc w h a es ep t l) where
 sub:=λb hb=>by simp at hb;simp [hb]
 frame:=λ_ _ _ st hk=>⟨st.1.at' λo e=>hk I (by simp) o e,st.2.at' λo e=>hk a (by simp) o e⟩
 item:=λi s Q E hi st hQ=>by
  obtain⟨e,he⟩:∃ e,(gh w a es ep)[i]?=some e:=⟨_,Array.getElem?_eq_getElem (by rw [fV];exact hi)⟩
  refine st.2.item st.1 hi he λh' hit' hs'=>?_
  exact hQ _ h' s.toks ⟨e,he,rfl⟩ ⟨hit',st.2.at' λo q=>hs'.extBut a o hne q⟩ λb o hb q=>hs'.extBut b o (λh=>hb (by simp [h])) q
 done:=λs Q E st hQ=>st.2.fin hh st.1 λh' he'=>hQ h' s.toks λb o hb e=>he' b o (λh=>hb (by simp [h])) e
 self:=λ_ _ _ _ st hQ=>oe st.1 hQ
theorem uL (prog:Program) (w:World) (a:Addr) (es:Array (Int×Value)) (ep:Nat) (t:SetTable) (l:List Nat):PySem.W.KdlSrc prog w "set" a a es.size (λi v=>∃ e,(gh w a es ep)[i]?=some e/\v=e.2) (λh=>cc w h a es ep t l) where
 type:=λs S=>S.type
 there:=λh S=>let ⟨o,ho,_⟩:=S;⟨Heap.lt_size ho,Heap.lt_size ho⟩
 keep:=λh h' S hk=>S.at' λo e=>hk a (.inl rfl) o e
 notList:=by decide
 notTuple:=by decide
 hint:=λA E s Q S h=>pN S.type h
 iter:=λA s hh S=>⟨_,_,λE Q h=>S.iter h,pV hh s.heap.objs.size a (let ⟨o,ho,_⟩:=S;Nat.ne_of_lt (Heap.lt_size ho)) es ep t l,
  ⟨⟨_,Heap.get?_push_size _ rfl,rfl,by unfold cN gt;split<;>rfl⟩,S.at' λo e=>Heap.get?_push_of_some _ e⟩⟩
end
end L2
namespace L2
open PySem PySem.Spec PyProof.Rows
theorem TuI.at' {h h':Heap}{v:Value}{l:List Int} (t:TuI h v l) (hk:∀ b o,v=.ref b->h.get? b=some o->h'.get? b=some o):TuI h' v l:=by
 obtain⟨a,its,rfl,⟨o,e,r⟩,hi⟩:=t
 exact⟨a,its,rfl,⟨o,hk a o rfl e,r⟩,hi⟩
theorem kY {prog:Program}{w:World}:∀ {vs:List Value}{l:List Int},IntsAre vs l->ItemsAre (intKind prog w) l vs
 | _,_,.nil=>.nil
 | _,_,.cons n t h=>.cons (intKind_is _ _ _ _) (kY h)
theorem uZ {prog:Program}{w:World}{A:Around}{E:Value->Shared->Prop}{s:Shared}{v:Value}{l:List Int}{Q:Int->Shared->Prop} (hu:A.units < cLine) (t:TuI s.heap v l) (h:∀ tk,s.toks<=tk->Q (hT l) { s with toks:=tk }) :
  wpAny (model prog w) A (pyHash v) Q E s:=by
 obtain⟨a,its,rfl,⟨o,e,c,n,hd⟩,hi⟩:=t
 exact wpAny_pyHash_tuple (knd:=intKind prog w) hu ⟨o,its,n,e,c,hd,kY hi⟩ (h _ (Nat.le_add_right _ _))
section
variable {prog:Program}{w:World}{A:Around}{R:Result->Shared->Prop}{I:Addr}{fp wr:List Addr}{G:Array GenState->Array GenState->Prop}{P:Nat->Value->Prop}{St:Nat->Shared->Prop}
noncomputable def pJ (h0:Heap) (vs:List Value):List (Int×Value):=vs.map λv=>(hT (tuI h0 v),v)
noncomputable def GSt (w:World) (h:Heap) (S:Addr) (es':List (Int×Value)):Prop:=∃ es ep t l,cc w h S es ep t l/\uB t l.length/\es.toList.Perm es'
theorem tN {its:List Value}{h0:Heap} (W:WalksS prog w A.in1 I fp wr G its.length P St) (S:Addr) (hSf:S ∉ fp) (hu:A.in1.units < cLine) (hval:∀ i v,P i v->its[i]?=some v) (h64:its.length<=64) (hnd:(its.map λv=>hT (tuI h0 v)).Nodup) :
  ∀ (k i:Nat) (s:Shared),its.length - i=k->i<=its.length->St i s->(∀ v ∈ its,TuI s.heap v (tuI h0 v)/\∀ b,v=.ref b->b≠S/\b ∉ wr)->GSt w s.heap S (pJ h0 (its.take i))->
   (∀ s',Moved (S::wr) G s s'->GSt w s'.heap S (pJ h0 its)->R (.ok (.ret .none)) s')->
   codeAny (model prog w) A (.builtin "set.update.loop" ⟨[.ref S,.ref I],[]⟩) R s:=by
 have hSw:S ∉ wr:=λh=>hSf (W.sub _ h)
 have hsub:∀ b ∈ wr,b ∈ S::wr:=λb hb=>List.mem_cons_of_mem _ hb
 intro k
 induction k with
 | zero=>
  intro i s hk hi hst hT0 hS hR
  have hin:i=its.length:=by lia
  subst hin
  refine codeAny_builtin PyProof.Rows.F.entry_set_update_loop ?_
  rw [Around.under_plainId PyProof.Rows.F.plain_set_update_loop _]
  show wpAny _ A.in1 (pyNext (.ref I) >>= _) _ _ s
  refine wpAny_bind (W.done s _ _ hst λs' hm=>?_)
  show wpAny _ A.in1 (ret Value.none) _ _ s'
  refine wpAny_pure (hR s' (hm.mono hsub) ?_)
  rw [List.take_length] at hS
  obtain⟨es,ep,t,l,z,r⟩:=hS
  exact⟨es,ep,t,l,z.at' λo e=>hm.heap S _ hSw e,r⟩
 | succ k ih=>
  intro i s hk hi hst hT0 hS hR
  have hlt:i < its.length:=by lia
  refine codeAny_builtin PyProof.Rows.F.entry_set_update_loop ?_
  rw [Around.under_plainId PyProof.Rows.F.plain_set_update_loop _]
  show wpAny _ A.in1 (pyNext (.ref I) >>= _) _ _ s
  refine wpAny_bind (W.item i s _ _ hlt hst λv s' hP hst' hm=>?_)
  have hv:=hval i v hP
  have hvm:v ∈ its:=List.mem_of_getElem? hv
  have hT1:∀ v ∈ its,TuI s'.heap v (tuI h0 v)/\∀ b,v=.ref b->b≠S/\b ∉ wr:=λx hx=>⟨(hT0 x hx).1.at' λb o e q=>hm.heap b o ((hT0 x hx).2 b e).2 q,(hT0 x hx).2⟩
  obtain⟨es,ep,t,l,z,hcm,hp⟩:=hS
  have z':=z.at' (h':=s'.heap) λo e=>hm.heap S _ hSw e
  have hlen:l.length=i:=by
   obtain⟨_,_,_,_,_,hs⟩:=z
   rw [<-hs,<-Array.length_toList,hp.length_eq,pJ,List.length_map,List.length_take];lia
  have etk:its.take (i+1)=its.take i++[v]:=by rw [List.take_add_one,hv];rfl
  show wpAny _ A.in1 (holding [v] (setAdd S v) >>= _) _ _ s'
  refine wpAny_bind (wpAny_holding ?_)
  unfold setAdd
  refine wpAny_holding ?_
  refine wpAny_bind (uZ hu (hT1 v hvm).1 λtk htk=>?_)
  refine cc.add (s:={ s' with toks:=tk }) z' hcm (by lia) (hT1 v hvm).1 (λe he heq=>?_) λh' es' ep' t' l' hsb z2 hc2 hp2=>?_
  ·have he':=hp.mem_iff.mp he
   obtain⟨u,hu',rfl⟩:=List.mem_map.mp he'
   have hn2:=hnd
   rw [<-List.take_append_drop (i+1) its,List.map_append,etk,List.map_append,List.append_assoc] at hn2
   have:=(List.nodup_append.mp hn2).2.2 (hT (tuI h0 u)) (List.mem_map.mpr ⟨u,hu',rfl⟩) (hT (tuI h0 v)) (List.mem_append_left _ (by simp))
   exact this heq
  ·have hp3:es'.toList.Perm (pJ h0 (its.take (i+1))):=by
    rw [etk]
    unfold pJ at hp ⊢
    rw [List.map_append]
    exact hp2.trans ((List.Perm.cons _ hp).trans (List.perm_append_comm (l₁:=[(hT (tuI h0 v),v)])))
   have hT2:∀ v ∈ its,TuI h' v (tuI h0 v)/\∀ b,v=.ref b->b≠S/\b ∉ wr:=λx hx=>⟨(hT1 x hx).1.at' λb o e q=>(hsb.2 b ((hT1 x hx).2 b e).1).trans q,(hT1 x hx).2⟩
   refine wpAny_pure ⟨plainId_quiet PyProof.Rows.F.plain_set_update_loop _,ih (i+1) _ (by lia) hlt (W.frame _ s' _ _ hst' htk λb hb o e=>?_) hT2 ⟨es',ep',t',l',z2,hc2,hp3⟩ λs'' hm'' hS''=>?_⟩
   ·rw [hsb.2 b (λh:b=S=>hSf (by rw [<-h];exact hb))];exact e
   ·refine hR s'' (Moved.trans W.gtrans ((hm.mono hsub).then_heap htk λb o hb e=>?_) hm'') hS''
    rw [hsb.2 b (λh:b=S=>hb (by rw [h];exact List.mem_cons_self))];exact e
end
section
variable {prog:Program}{w:World}{A:Around}{E:Value->Shared->Prop}{s:Shared}
theorem qL (led:Bool) (hl:led=!byT w) {h:Heap}{a:Addr} (ho:h.get? a=some { cls:=.type "set",dict:=none,data:=.set #[] 0 (.fresh 0 0 led) }):GSt w h a []:=
 ⟨#[],0,.fresh 0 0 led,[],⟨_,ho,⟨rfl,rfl,rfl⟩,rfl,⟨show (7:Nat) ∈ gM from by decide,rfl,.nil,rfl,hl,rfl,by decide,λ_=>by decide,λ_=>by decide⟩,rfl⟩,⟨by decide,λ_=>by decide,λ_=>by decide⟩,List.Perm.refl _⟩
set_option maxHeartbeats 3200000 in
theorem kI {l:Addr}{items:Array Value}{Q:Value->Shared->Prop}
  (hh:A.handled=none) (hu:A.in1.in1.in1.units < cLine) (hl:s.heap.IsList l items) (hi:∀ v ∈ items.toList,TuI s.heap v (tuI s.heap v)) (h64:items.size<=64) (hnd:(items.toList.map λv=>hT (tuI s.heap v)).Nodup)
  (h:∀ (h':Heap) (tk:Nat),GSt w h' s.heap.objs.size (pJ s.heap items.toList)->
    (∀ b o,b < s.heap.objs.size->s.heap.get? b=some o->h'.get? b=some o)->Q (.ref s.heap.objs.size) { s with heap:=h',toks:=tk }) :
  wpAny (model prog w) A (call (.type "set") [.ref l]) Q E s:=by
 obtain⟨c,tl,hmro⟩:=PySem.F.called_set.mro
 have hmade:=PySem.F.called_set.made
 have hsub:=PySem.F.called_set.sub
 refine wpAny_call (codeAny_of_tree ?_)
 show wpAny _ _ (callAny (.type "set") _) _ _ _
 refine wpAny_pure ⟨Code.quiet_builtin _ (by decide +kernel),codeAny_builtin PySem.F.entry_type_call ?_⟩
 rw [Around.under_plain (weight_type_call_type "set" [.ref l] []) rfl]
 have h1:=PySem.F.called_set.notType
 have h2:=PySem.F.called_set.canCreate
 have hct:=PySem.F.typeCall_set_1 (.ref l)
 repeat (any_goals (first | assumption | wp_step))
 refine codeAny_mono (dC (.ref l) (E:=E) (Q₁:=λobj s₁=>obj=.ref s.heap.objs.size/\s₁={ s with heap:=s.heap.push { cls:=.type "set",dict:=none,data:=.set #[] 0 (.fresh 0 0 (!byT w)) } }) ⟨rfl,rfl⟩) λr s₁ hr=>?_
 cases r with
 | error e=>exact hr
 | ok fl=>
  cases fl with
  | ret obj=>
   obtain⟨rfl,rfl⟩:=hr
   have hS:(s.heap.push { cls:=.type "set",dict:=none,data:=.set #[] 0 (.fresh 0 0 (!byT w)) }).get? s.heap.objs.size=some { cls:=.type "set",dict:=none,data:=.set #[] 0 (.fresh 0 0 (!byT w)) }:=Heap.get?_push_size _ rfl
   have hT':Shared.TypeIs { s with heap:=s.heap.push { cls:=.type "set",dict:=none,data:=.set #[] 0 (.fresh 0 0 (!byT w)) } } (.ref s.heap.objs.size) "set":=⟨_,hS,rfl⟩
   have hli:=PySem.F.called_set.init.lookup
   have hbi:=PySem.F.called_set.init.bind (.ref s.heap.objs.size)
   repeat (any_goals (first | assumption | wp_step))
   refine codeAny_mono (codeAny_call_builtin (R:=wants (λr s₂=>r=.none/\∃ h' tk,s₂={ s with heap:=h',toks:=tk }/\
     GSt w h' s.heap.objs.size (pJ s.heap items.toList)/\
     (∀ b o,b < s.heap.objs.size->s.heap.get? b=some o->h'.get? b=some o)) E) PySem.F.called_set.init.plain PySem.F.entry_set_init (check_set_init_1 hT' ?_)) λr₂ s₂ hr₂=>?_
   ·generalize hled:(!byT w)=led at hS hT' ⊢
    have hi0:=hi
    obtain⟨ol,hol,hcl,nl,hdl⟩:=hl
    obtain⟨ocls,odict,odata,oslots⟩:=ol
    simp only at hcl hdl
    subst hcl;subst hdl
    have hol':(s.heap.push { cls:=.type "set",dict:=none,data:=.set #[] 0 (.fresh 0 0 led) }).get? l=some { cls:=.type "list",dict:=odict,data:=.seq items nl,slots:=oslots }:=Heap.get?_push_of_some _ hol
    have hsls:=PySem.F.sub_list_set
    have hslf:=PySem.F.sub_list_frozenset
    have hne:(Value.type "list"==Value.type "dict")=false:=by decide
    have hl1:(s.heap.push { cls:=.type "set",dict:=none,data:=.set #[] 0 (.fresh 0 0 led) }).IsList l items:=⟨_,hol',rfl,nl,rfl⟩
    unfold Builtin.«set.__init__» noKeywords Builtin.Frozenset.updateFrom
    generalize hPI:pyIter=PI
    wp_walk
    subst hPI
    refine wpAny_pyIter_list hl1 ?_
    refine wpAny_bind (wpAny_runValue ?_)
    have hlS:l < s.heap.objs.size:=Heap.lt_size hol
    have hh3:A.in1.in1.in1.handled=none:=by simp [hh]
    have hneI:l≠(s.heap.push { cls:=.type "set",dict:=none,data:=.set #[] 0 (.fresh 0 0 led) }).objs.size:=by
     rw [Heap.size_push];exact Nat.ne_of_lt (Nat.lt_succ_of_lt hlS)
    have hSf:s.heap.objs.size ∉ [(s.heap.push { cls:=.type "set",dict:=none,data:=.set #[] 0 (.fresh 0 0 led) }).objs.size,l]:=by
     rw [Heap.size_push];simp only [List.mem_cons,List.mem_singleton,List.not_mem_nil,or_false,not_or]
     exact⟨Nat.ne_of_lt (Nat.lt_succ_self _),Nat.ne_of_gt hlS⟩
    have WW:=(Walks.list (prog:=prog) (w:=w) hh3 (s.heap.push { cls:=.type "set",dict:=none,data:=.set #[] 0 (.fresh 0 0 led) }).objs.size l hneI items).toS
    rw [show items.size=items.toList.length from rfl] at WW
    refine tN (h0:=s.heap) WW s.heap.objs.size hSf hu (λi v hv=>by rw [Array.getElem?_toList];exact hv) (by rw [Array.length_toList];exact h64) hnd (items.toList.length - 0) 0 _ (by lia) (Nat.zero_le _)
     ⟨⟨_,Heap.get?_push_size _ rfl,rfl,rfl⟩,(hl1.push _)⟩ (λv hv=>⟨(hi0 v hv).at' λb o _ e=>Heap.get?_push_of_some _ (Heap.get?_push_of_some _ e),λb hb=>?_⟩) ?hS0 ?hR
    ·obtain⟨b',its',e',⟨o',eo,_⟩,_⟩:=hi0 v hv
     rw [hb] at e'
     cases e'
     have:=Heap.lt_size eo
     refine⟨Nat.ne_of_lt this,?_⟩
     rw [Heap.size_push];simp only [List.mem_singleton]
     lia
    case hS0=>
     have hget:((s.heap.push { cls:=.type "set",dict:=none,data:=.set #[] 0 (.fresh 0 0 led) }).push { cls:=.type "list_iterator",data:=.fields #[.ref l,.int 0 0] }).get? s.heap.objs.size
       = some { cls:=.type "set",dict:=none,data:=.set #[] 0 (.fresh 0 0 led) }:=Heap.get?_push_of_some _ hS
     exact qL led hled.symm hget
    case hR=>
     intro s' hm hS'
     obtain⟨h',g',d',tk',os'⟩:=s'
     have eg:g'=s.gens:=hm.gens
     have ed:d'=s.drawn:=hm.drawn
     have eo:os'=s.os:=hm.os
     subst eg;subst ed;subst eo
     show wpAny _ _ _ _ _ _
     refine wpAny_pure ?_
     show wpAny _ _ (ret Value.none) _ _ _
     refine wpAny_pure ⟨rfl,h',tk',rfl,hS',λb o hb e=>?_⟩
     have hb1:b≠s.heap.objs.size:=Nat.ne_of_lt hb
     have hb2:b≠(s.heap.push { cls:=.type "set",dict:=none,data:=.set #[] 0 (.fresh 0 0 led) }).objs.size:=by
      rw [Heap.size_push];exact Nat.ne_of_lt (Nat.lt_succ_of_lt hb)
     exact hm.heap b o (by simp only [List.mem_cons,List.mem_singleton,List.not_mem_nil,or_false,not_or];exact⟨hb1,hb2⟩) (Heap.get?_push_of_some _ (Heap.get?_push_of_some _ e))
   ·cases r₂ with
    | error e=>exact hr₂
    | ok fl₂=>
     cases fl₂ with
     | ret r=>
      obtain⟨rfl,h',tk,rfl,hS',hk'⟩:=hr₂
      repeat (any_goals (first | assumption | wp_step))
      exact h _ _ hS' hk'
     | _=>exact hr₂.elim
  | _=>exact hr.elim
end
end L2
namespace L2
open PySem PySem.Spec PyProof.Rows
section
variable {prog:Program}{w:World}{A:Around}{E:Value->Shared->Prop}{s:Shared}{d:Addr}
theorem nC {Q:List Value->Shared->Prop}{es:Array (Int×Value)}{ep:Nat}{t:SetTable}{l:List Nat} (S:cc w s.heap d es ep t l) (hh:A.handled=none)
  (h:∀ h' tk,(∀ b o,s.heap.get? b=some o->h'.get? b=some o)->s.heap.objs.size < h'.objs.size->Q ((gh w d es ep).toList.map (·.2)) { s with heap:=h',toks:=tk }) :
  wpAny (model prog w) A (collect (.ref d)) Q E s:=by
 obtain⟨ob,ho,_,_,T,hs⟩:=id S
 have hlt:d < s.heap.objs.size:=Heap.lt_size ho
 have hn:es.size<=sizeLine:=by have:=T.few;rw [sizeLine_eq];lia
 unfold collect
 refine wpAny_bind (wpAny_runValue (codeAny_builtin entry_proto_collect' ?_))
 show wpAny _ _ (do again (.builtin "list.__iadd__" ⟨[<-newList [],.ref d],[]⟩)) _ _ s
 refine wpAny_bind (wpAny_newList (wpAny_pure ⟨Code.quiet_builtin _ (by decide +kernel),codeAny_builtin entry_list_iadd' ?_⟩))
 show wpAny _ _ (Builtin.List.listExtendWith (.ref s.heap.objs.size) (.ref d) (.ref s.heap.objs.size)) _ _ { s with heap:=s.heap.push (seqObj "list" #[] 0) }
 refine PySem.W.kdl_extend (A:=A) (R:=λr s'=>match r with
   | .ok (.ret v)=>wpAny (model prog w) A (match v with
     | .ref a=>do
      let o <-load a
      match o.data with
      | .seq xs _=>pure xs.toList
      | _=>unsupported "internal:collect"
     | _=>unsupported "internal:collect") Q E s'
   | .ok _=>False
   | .error e=>E e s') (s:={ s with heap:=s.heap.push (seqObj "list" #[] 0) }) (uL prog w d es ep t l) hh (S.at' λo e=>Heap.get?_push_of_some _ e) s.heap.objs.size (Nat.ne_of_gt hlt) (Nat.ne_of_gt hlt) (.ref s.heap.objs.size) 0 (Heap.get?_push_size _ rfl) (λh' tk acc c hk hS hI=>?_) hn
 show wpAny (model prog w) A (do
   let o <-load s.heap.objs.size
   match o.data with
   | .seq xs _=>pure xs.toList
   | _=>unsupported "internal:collect") Q E { s with heap:=h',toks:=tk }
 refine wpAny_bind (wpAny_load hS ?_)
 show wpAny _ _ (pure acc.toList) Q E _
 have e:acc.toList=(gh w d es ep).toList.map (·.2):=by
  apply List.ext_getElem?
  intro i
  rw [List.getElem?_map,Array.getElem?_toList,Array.getElem?_toList]
  by_cases hi:i < acc.size
  ·obtain⟨e,he,hv⟩:=hI.2 i acc[i] (Array.getElem?_eq_getElem hi)
   rw [he,Array.getElem?_eq_getElem hi,hv];rfl
  ·rw [Array.getElem?_eq_none (by lia),Array.getElem?_eq_none (by rw [fV,<-hI.1];lia)];rfl
 rw [e]
 refine wpAny_pure (h h' tk (λb o q=>?_) (Heap.lt_size hS))
 exact hk b o (Nat.ne_of_lt (Heap.lt_size q)) (Heap.get?_push_of_some _ q)
theorem ou {Q:Value->Shared->Prop}{vs:List Value}{es:Array (Int×Value)}{ep:Nat}{tb:SetTable}{l:List Nat} (S:cc w s.heap d es ep tb l) (hh:A.in1.handled=none) (hvs:(es.toList.map (·.2)).Perm vs) (hu:A.in1.in1.units < cLine)
  (t:∀ v ∈ vs,∃ l,TuI s.heap v l)
  (h:∀ (h':Heap) (tk:Nat) (p:Addr) (ep:Nat) (out:List Value),(∀ b o,s.heap.get? b=some o->h'.get? b=some o)->s.heap.objs.size<=p->h'.get? p=some (seqObj "list" out.toArray ep)->out.Perm vs->out.Pairwise (λx y=>OI.kle (tuI s.heap x) (tuI s.heap y))->Q (.ref p) { s with heap:=h',toks:=tk }) :
  wpAny (model prog w) A (call (.builtin "sorted") [.ref d]) Q E s:=by
 refine Calls.call_function_entry kind_sorted plain_sorted entry_sorted (args_sorted1 _) ?_
 unfold Builtin.«sorted»
 refine wpAny_bind (m:=checkCount "sorted" 1 1 _) (wpAny_pure ?_)
 obtain⟨_,_,_,_,T,hs⟩:=id S
 have hfew:=T.few
 refine wpAny_bind (nC S hh λh1 tk hk hlt=>?_)
 have hp0:((gh w d es ep).toList.map (·.2)).Perm vs:=((mD w d es ep).map _).trans hvs
 have h64:((gh w d es ep).toList.map (·.2)).length<=64:=by rw [List.length_map,Array.length_toList,fV];lia
 generalize (gh w d es ep).toList.map (·.2)=us at hp0 h64 ⊢
 have tu:∀ v ∈ us,∃ l,TuI s.heap v l:=λv hv=>t v (hp0.mem_iff.mp hv)
 refine wpAny_bind (wpAny_newList ?_ (by rw [sizeLine_eq];lia))
 have hoL:(h1.push (seqObj "list" us.toArray 0)).get? h1.objs.size=some (seqObj "list" us.toArray 0):=Heap.get?_push_size _ rfl
 show wpAny _ _ _ _ _ { s with heap:=h1.push (seqObj "list" us.toArray 0),toks:=tk }
 refine wpAny_bind (wpAny_holding (wpAny_call_entry slot_list_sort ⟨_,hoL,rfl⟩ entry_list_sort (fX (O:=OI) (rk:=λp=>tuI s.heap p.1) (S:=λp=>∃ l,TuI s.heap p.1 l) (s:={ s with heap:=h1.push (seqObj "list" us.toArray 0),toks:=tk }) hoL h64 (λh' hk'=>?_) (λv hv=>tu v hv) λout a1 a2=>⟨_,rfl,?_⟩) (args_list_sort _)))
 ·have hk2:∀ b o,s.heap.get? b=some o->h'.get? b=some o:=λb o q=>hk' b o (Nat.ne_of_lt (Heap.lt_size (hk b o q))) (Heap.get?_push_of_some _ (hk b o q))
  obtain⟨κ,k1,k2⟩:=jY (prog:=prog) (w:=w) (s:={ s with heap:=h',toks:=tk }) (vs:=us) (λv hv=>let ⟨l,tl⟩:=tu v hv;⟨l,tl.fit hk2⟩) hu
  refine⟨κ,k1,λx y ⟨l,hx⟩ ⟨m,hy⟩ Q E hq=>k2 x y ⟨l,hx.fit hk2⟩ ⟨m,hy.fit hk2⟩ Q E ?_⟩
  have hx':=hx.fit hk2
  have hy':=hy.fit hk2
  have hq':Q (bD (tuI s.heap x.1) (tuI s.heap y.1)) { s with heap:=h',toks:=tk }:=hq
  show Q (bD (tuI h' x.1) (tuI h' y.1)) { s with heap:=h',toks:=tk }
  rw [hx'.is,hy'.is]
  rw [hx.is,hy.is] at hq'
  exact hq'
 ·refine wpAny_pure ⟨_,rfl,?_⟩
  obtain⟨ep',he⟩:=sortedHeap_at (out:=out.toArray) hoL
  refine h _ tk h1.objs.size ep' out (λb o q=>?_) (Nat.le_of_lt hlt) he (a1.trans hp0) (a2.imp λ{x y} q=>q)
  have q1:=hk b o q
  have hb:b < h1.objs.size:=Heap.lt_size q1
  show (sortedHeap (h1.push (seqObj "list" us.toArray 0)) h1.objs.size us out.toArray).get? b=some o
  rw [sortedHeap_old (Nat.ne_of_lt hb) (by rw [size_push'];exact Nat.lt_succ_of_lt hb),Heap.get?_push_ne _ _ _ (Nat.ne_of_lt hb)]
  exact q1
end
open Classical in
noncomputable def iZ (fe:Ef):Lf
 | env,st=>(fe env st).bind λx=>(lsD x.2 x.1).bind λds=>(gH ds).bind λls=>if ls.length<=64/\(ls.map hT).Nodup then some ((aS ls).map ai,x.2) else none
section
variable {K:PySem.W.Frag}{X:Cx}{pos p pos2 p2:Pos}{e:Expr}{fe:Ef}
theorem uT {k:Nat} (hr0:bu k X.A) (hg:Gl X "sorted") (hm:X.mg "sorted" = none) (hg2:Gl X "set") (hm2:X.mg "set" = none) (ha:IE K X e fe) (hc:X.calm=true:=by rfl) (hs:aA e=true:=by rfl) (hK:X.K=K:=by rfl) :
  IL K X (.Call (.Name "sorted" p) [.Call (.Name "set" p2) [e] [] pos2] [] pos) (iZ fe):=by
 subst hK
 refine⟨λenv st r hr=>?_⟩
 simp only [iZ,Option.bind_eq_some_iff] at hr
 obtain⟨⟨x,s1⟩,hx,ds,hds,ls,hls,hr⟩:=hr
 split at hr
 ·rename_i hcond
  cases hr
  intro pins s σ H Q I h
  obtain⟨φ,hE,hS,q⟩:=h
  have hs2:aA (.Call (.Name "set" p2) [e] [] pos2)=true:=rfl
  refine wpAny_Call_Name_kw (fR I hg hm PyProof.Rows.boot_sorted ?_)
  refine PyProof.Rows.callWith_builtin1 ?_ (aX hs2) (bY (es:=[]) rfl)
  rw [aX hs2]
  show wpAny _ _ (spliced ((false,eval (.Call (.Name "set" p2) [e] [] pos2) X.env)::backTo pos (starEach [] X.env))) _ _ s
  refine Calls.spliced_cons ?_
  refine wpAny_Call_Name_kw (fR I hg2 hm2 PyProof.Rows.boot_set ?_)
  refine PyProof.Rows.callWith_type1 ?_ (aX hs) (bY (es:=[]) rfl)
  rw [aX hs]
  show wpAny _ _ (spliced ((false,eval e X.env)::backTo pos2 (starEach [] X.env))) _ _ s
  refine Calls.spliced_cons (thn ((ha.run _ _ _ hx) pins s σ H (λv H'=>∃ φ',Sr X.K H' φ' s1/\Fw φ φ' H H'/\Rw X.K H' φ' x v) I ⟨φ,hE,hS,λv H' φ' f1 S1 w1=>⟨φ',S1,f1,w1⟩⟩) λu s2 ⟨v,H1,I1,r1,φ1,S1,f1,w1⟩=>?_)
  show wpAny _ _ (spliced []) _ _ s2
  refine Calls.spliced_nil ?_
  obtain⟨ad,vs,rfl,h1,h2⟩:=iM S1 w1 hds
  cases r1
  cases fI hls
  obtain⟨its,rv,pl,_⟩:=I1.list (.inl h1)
  obtain⟨m1,m2⟩:=g8 I1 h2 rv
  have hlen:its.length<=64:=by
   have:=congrArg List.length m1
   rw [List.length_map] at this;lia
  have hun:X.A.in1.in1.in1.units < cLine:=by
   have:=hr0.un
   show X.A.units+1+1+1 < cLine
   lia
  have hun2:X.A.in1.in1.units < cLine:=Nat.lt_of_succ_lt hun
  refine kI (items:=its.toArray) (I1.ok.hd hc) hun pl.isList (by intro v hv;exact (m2 v (by simpa using hv)).1) (by simpa using hlen) (by
   have e:(its.map λv=>hT (tuI s2.heap v))=ls.map hT:=by rw [<-m1,List.map_map];rfl
   show (its.map λv=>hT (tuI s2.heap v)).Nodup
   rw [e];exact hcond.2) λh' tk gs hkp=>?_
  show wpAny _ _ (spliced []) _ _ _
  refine Calls.spliced_nil ?_
  obtain⟨es,ep,t,l,SG,_,hper⟩:=gs
  have hkp':∀ b o,s2.heap.get? b=some o->h'.get? b=some o:=λb o z=>hkp b o (Heap.lt_size z) z
  have I2:Inv X pins σ H1 { s2 with heap:=h',toks:=tk }:=I1.kept hkp'
  have hper2:(es.toList.map (·.2)).Perm its:=by
   have:=hper.map (·.2)
   unfold pJ at this
   rw [List.map_map] at this
   have e:((λx:Int×Value=>x.2) ∘ λv=>(hT (tuI s2.heap v),v))=id:=by funext v;rfl
   rw [e,List.map_id] at this
   exact this
  have m3:∀ u ∈ its,TuI h' u (tuI h' u)/\tuI h' u=tuI s2.heap u:=λu hu=>by
   have z:=(m2 u hu).1.fit hkp'
   have e:=z.is
   rw [e];exact⟨z,rfl⟩
  refine ou (s:={ s2 with heap:=h',toks:=tk }) SG (I1.ok.hd hc) hper2 hun2 (λv hv=>⟨_,(m3 v hv).1⟩) λh2' tk2 p' ep' out hkeep hp he a1 a2=>?_
  have hn:H1 p'=none:=I2.hok.fresh hp
  have ho:=λu hu=>m2 u (a1.mem_iff.mp hu)
  obtain⟨c1,c2⟩:=gY (K:=X.K) (H:=H1) (φ:=φ1) ho
  have hpm:(out.map (tuI s2.heap)).Perm ls:=by
   have:=a1.map (tuI s2.heap)
   rw [m1] at this;exact this
  have hsrt:(out.map (tuI s2.heap)).Pairwise leL:=by
   rw [List.pairwise_map]
   refine List.Pairwise.imp_of_mem ?_ a2
   intro x y hx hy qq
   have e1:=(m3 x (a1.mem_iff.mp hx)).2
   have e2:=(m3 y (a1.mem_iff.mp hy)).2
   have qq':OI.kle (tuI h' x) (tuI h' y):=qq
   rw [e1,e2] at qq'
   exact qq'
  have e1:out.map (tuI s2.heap)=aS ls:=cF (hpm.trans (bf _).symm) hsrt (bZ _)
  have e2:(out.map λu=>ai (tuI s2.heap u))=(aS ls).map ai:=by rw [<-e1,List.map_map];rfl
  rw [e2] at c1
  have hlay:Inv X pins σ (upd H1 p' (.lst (out.map toV))) { s2 with heap:=h2',toks:=tk2 }:=by
   refine I2.laid (t':=tk2) (a:=p') (o:=.lst (out.map toV)) hkeep hp ⟨?_,out,ep',c2,by simpa [seqObj] using he⟩
   rw [List.length_map,a1.length_eq];exact eJ (by lia)
  exact⟨.ref p',_,hlay,rfl,q p' _ H1 φ1 f1 S1 hn c1⟩
 ·cases hr
end
end L2
namespace L2
open PySem PySem.Spec PyProof.Rows
mutual
noncomputable def toP:D->PyData
 | .non=>.none
 | .bl b=>.bool b
 | .int i=>.int i
 | .str x=>.str x
 | .tup ds=>.tuple (gg ds)
 | .lst ds=>.list (gg ds)
 | _=>.none
noncomputable def gg:List D->List PyData
 | []=>[]
 | d::ds=>toP d::gg ds
end
mutual
noncomputable def rpD:D->Bool
 | .non=>true
 | .bl _=>true
 | .int i=>decide (i.natAbs.log2 < 1920)
 | .str _=>true
 | .tup ds=>dY ds
 | .lst ds=>dY ds
 | _=>false
noncomputable def dY:List D->Bool
 | []=>true
 | d::ds=>rpD d && dY ds
end
mutual
noncomputable def wtD:D->Nat
 | .non=>10
 | .bl _=>10
 | .int _=>2000
 | .str x=>(reprText x).length
 | .tup ds=>eV ds+5
 | .lst ds=>eV ds+5
 | _=>0
noncomputable def eV:List D->Nat
 | []=>0
 | d::ds=>wtD d+2+eV ds
end
mutual
noncomputable def dpD:D->Nat
 | .tup ds=>e8 ds+1
 | .lst ds=>e8 ds+1
 | _=>1
noncomputable def e8:List D->Nat
 | []=>0
 | d::ds=>max (dpD d) (e8 ds)
end
noncomputable def nO (st:Sto):List W->Option D
 | [w]=>match w with
  | .d d=>if rpD d=true/\wtD d<=16000000/\dpD d<=50 then some (.str (toP d).shown) else none
  | .h _=>none
 | _=>none
theorem jj:∀ (ts:List Str) (k:Nat) (acc:Str),(textFrom k acc ts).length<=acc.length+piled ts
 | [],k,acc=>by show acc.length<=_;lia
 | t::r,k,acc=>by
  have h:=jj r (k+1) (acc++(if k > 0 then ", " else "" : String)++t)
  have e:(acc++(if k > 0 then ", " else "" : String)++t).length<=acc.length+2+t.length:=by
   rw [strLen_append,strLen_append]
   have:((if k > 0 then ", " else "" : String):Str).length<=2:=by split<;>decide
   lia
  rw [piled_cons]
  show (textFrom (k+1) _ r).length<=_
  lia
theorem wd (ts:List Str):(tupleText ts).length<=piled ts+3:=by
 have hz:(Str.join ", " ts).length<=piled ts:=by
  cases ts with
  | nil=>exact Nat.zero_le _
  | cons x r=>
   have:=join_length_add (x::r) (by simp)
   lia
 unfold tupleText
 rw [strLen_append,strLen_append]
 have h2:((if ts.length==1 then ",)" else ")" : String):Str).length<=2:=by split<;>decide
 have h1:((("(" : String):Str)).length=1:=rfl
 lia
theorem wz (ts:List Str):(listText ts).length<=piled ts+2:=by
 have h:=jj ts 0 "["
 unfold listText
 rw [strLen_append]
 have h1:((("[" : String):Str)).length=1:=rfl
 have h2:((("]" : String):Str)).length=1:=rfl
 lia
mutual
theorem oo:∀ d:D,rpD d=true->(toP d).shown.length<=wtD d
 | .non,_=>by rw [toP,wtD];decide
 | .bl b,_=>by rw [toP,wtD];cases b<;>decide
 | .int i,h=>by
  rw [rpD,decide_eq_true_eq] at h
  rw [toP,wtD,PyData.shown]
  have:=int_text_length_le (k:=1920) (by decide) h
  rw [PySem.ofString_length]
  lia
 | .str x,_=>by rw [toP,wtD,PyData.shown];exact Nat.le_refl _
 | .tup ds,h=>by
  rw [rpD] at h
  rw [toP,wtD,PyData.shown]
  have:=i8 ds h
  have:=wd (PyData.shownAll (gg ds))
  lia
 | .lst ds,h=>by
  rw [rpD] at h
  rw [toP,wtD,PyData.shown]
  have:=i8 ds h
  have:=wz (PyData.shownAll (gg ds))
  lia
 | .ty _,h=>by simp [rpD] at h
 | .dct,h=>by simp [rpD] at h
 | .scr _,h=>by simp [rpD] at h
theorem i8:∀ ds:List D,dY ds=true->piled (PyData.shownAll (gg ds))<=eV ds
 | [],_=>by rw [gg,eV,PyData.shownAll];exact Nat.le_refl _
 | d::ds,h=>by
  rw [dY,Bool.and_eq_true] at h
  rw [gg,eV,PyData.shownAll,piled_cons]
  have:=oo d h.1
  have:=i8 ds h.2
  lia
end
mutual
theorem rs:∀ d:D,rpD d=true->(toP d).showable=true/\(toP d).hasDict=false/\(toP d).depth<=dpD d
 | .non,_=>⟨rfl,rfl,by decide⟩
 | .bl b,_=>⟨rfl,rfl,by rw [toP,PyData.depth];exact Nat.zero_le _⟩
 | .int i,h=>by
  rw [rpD] at h
  rw [toP]
  exact⟨h,rfl,by rw [PyData.depth];exact Nat.zero_le _⟩
 | .str x,_=>⟨rfl,rfl,by rw [toP,PyData.depth];exact Nat.zero_le _⟩
 | .tup ds,h=>by
  rw [rpD] at h
  rw [toP,dpD,PyData.showable,PyData.hasDict,PyData.depth]
  obtain⟨a,b,c⟩:=ll ds h
  exact⟨a,b,by lia⟩
 | .lst ds,h=>by
  rw [rpD] at h
  rw [toP,dpD,PyData.showable,PyData.hasDict,PyData.depth]
  obtain⟨a,b,c⟩:=ll ds h
  exact⟨a,b,by lia⟩
 | .ty _,h=>by simp [rpD] at h
 | .dct,h=>by simp [rpD] at h
 | .scr _,h=>by simp [rpD] at h
theorem ll:∀ ds:List D,dY ds=true->PyData.showableAll (gg ds)=true/\PyData.hasDictAll (gg ds)=false/\PyData.depthAll (gg ds)<=e8 ds
 | [],_=>by rw [gg,e8];exact⟨rfl,rfl,by simp [PyData.depthAll]⟩
 | d::ds,h=>by
  rw [dY,Bool.and_eq_true] at h
  obtain⟨a,b,c⟩:=rs d h.1
  obtain⟨a',b',c'⟩:=ll ds h.2
  rw [gg,e8,PyData.showableAll,PyData.hasDictAll,PyData.depthAll,a,b,a',b']
  exact⟨rfl,rfl,by lia⟩
end
section
variable {K:PySem.W.Frag}{X:Cx}{pins:List (Addr×Obj)}{σ:St}{H:Hp}{s:Shared}{φ:List Addr}
mutual
theorem og (I:Inv X pins σ H s):∀ (d:D) (v:V) (u:Value),rpD d=true->Rl X.K H φ d v->az v u->∃ as,Reads s.heap u (toP d) as
 | .non,v,u,_,r,q=>by cases (show v=.non from r);cases q;exact⟨_,by rw [toP];exact .none⟩
 | .bl b,v,u,_,r,q=>by cases (show v=.bl b from r);cases q;exact⟨_,by rw [toP];exact .bool b⟩
 | .int i,v,u,_,r,q=>by cases (show v=.int i from r);obtain⟨t,rfl⟩:=q;exact⟨_,by rw [toP];exact .int i t⟩
 | .str x,v,u,_,r,q=>by cases (show v=.str x from r);obtain⟨t,rfl⟩:=q;exact⟨_,by rw [toP];exact .str x t⟩
 | .tup ds,v,u,h,r,q=>by
  rw [rpD] at h
  obtain⟨a,vs,rfl,h1,h2⟩:=r
  cases q
  obtain⟨its,rv,⟨o,ho,hc,n,hd⟩,_⟩:=I.tuple (SqT.of h1)
  obtain⟨as,ra⟩:=iK I ds vs its h h2 rv
  exact⟨as,by rw [toP];exact .tuple ho hc hd (by simpa using ra)⟩
 | .lst ds,v,u,h,r,q=>by
  rw [rpD] at h
  obtain⟨a,vs,rfl,_,h1,h2⟩:=r
  cases q
  obtain⟨its,rv,⟨o,n,ho,hc,hdd,hd⟩,_⟩:=I.list (.inl h1)
  obtain⟨as,ra⟩:=iK I ds vs its h h2 rv
  exact⟨a::as,by rw [toP];exact .list ho hc hd (by simpa using ra)⟩
 | .ty _,_,_,h,_,_=>by simp [rpD] at h
 | .dct,_,_,h,_,_=>by simp [rpD] at h
 | .scr _,_,_,h,_,_=>by simp [rpD] at h
theorem iK (I:Inv X pins σ H s):∀ (ds:List D) (vs:List V) (us:List Value),dY ds=true->Rls X.K H φ ds vs->ay vs us->∃ as,ReadsAll s.heap us (gg ds) as
 | [],vs,us,_,r,q=>by cases r;cases q;exact⟨[],by rw [gg];exact .nil⟩
 | d::ds,vs,us,h,r,q=>by
  rw [dY,Bool.and_eq_true] at h
  obtain⟨v,r',rfl,h1,h2⟩:=r
  cases q with
  | cons q1 q2=>
   obtain⟨as,a1⟩:=og I d v _ h.1 h1 q1
   obtain⟨bs,a2⟩:=iK I ds r' _ h.2 h2 q2
   exact⟨as++bs,by rw [gg];exact .cons a1 a2⟩
end
end
noncomputable def fB (st:Sto):List W->Option D
 | [.d (.tup ds)]=>nO st [.d (.tup ds)]
 | [.d (.lst ds)]=>nO st [.d (.lst ds)]
 | _=>none
theorem iz {K:PySem.W.Frag}{X:Cx}{k:Nat} (hr:bu k X.A) (hK:X.K=K:=by rfl):gZ K X (.builtin "repr") fB:=by
 subst hK
 refine⟨λst ws d h=>?_⟩
 have key:∀ x:D,(∀ (H:Hp) (φ:List Addr) v,Rl X.K H φ x v->∃ a,v=.ref a)->nO st [.d x]=some d->cW X (.builtin "repr") (rCD X.K st [.d x] d):=by
  intro x hx h
  simp only [nO] at h
  split at h
  ·rename_i hc
   cases h
   intro pins s σ H xs us Q I rv q
   obtain⟨φ,S,⟨v,r,rfl,r1,rfl⟩,q⟩:=q
   obtain⟨u,rfl,ru⟩:=g9 rv
   obtain⟨as,rd⟩:=og I x v u hc.1 r1 ru
   obtain⟨a,rfl⟩:=hx H φ v r1
   cases ru
   obtain⟨b1,b2,b3⟩:=rs x hc.1
   have hl:=oo x hc.1
   have hun:=hr.units
   refine repr_of_reads' rd b1 (PyData.noDict_hsm b2) hr.gd (by lia) (λ_ _ e=>e) (λh' u tk hk=>⟨.str _,H,I.kept (t':=tk) hk,⟨u,rfl⟩,q _ H (br.refl H) rfl⟩) ?_
   rw [sizeLine_eq];lia
  ·cases h
 match ws,h with
 | [.d (.tup ds)],h=>exact key (.tup ds) (λH φ v ⟨a,vs,e,_⟩=>⟨a,e⟩) h
 | [.d (.lst ds)],h=>exact key (.lst ds) (λH φ v ⟨a,vs,e,_⟩=>⟨a,e⟩) h
end L2
namespace L2
open PySem PySem.SeqAt MeetsSeq MeetsSeq2 MeetsSeq3
open AutoSeq1 (wpAny_loadPart')
end L2
namespace L2
open PySem PySem.Spec PyProof.Rows
section
variable {K:PySem.W.Frag}{X:Cx}{pos:Pos}{a e:Expr}{fa:Ef}{af:Af}
end
end L2
namespace L2
open PySem PySem.Spec PyProof.Rows
section
variable {K:PySem.W.Frag}{X:Cx}{pos:Pos}{a e:Expr}{fa:Ef}{af:Af}
end
end L2
namespace L2
open PySem PySem.Spec PyProof.Rows
open AutoSeq1 (wpAny_loadPart')
section
variable {K:PySem.W.Frag}{X:Cx}{pos:Pos}{a e:Expr}{es:List Expr}{fa:Ef}{af:Af}
end
end L2
namespace L2
open PySem PySem.Spec PyProof.Rows
open AutoSeq1 (wpAny_loadPart')
theorem mN (l:Addr) (items:Array Value) (n:Nat) (b:Addr) (items2:Array Value) (n2:Nat) (dd:Option Addr) (sl:Array (Option Value)) (hs0:¬(!items.isEmpty && Builtin.List.listTooLong (items.size+items2.size))=true) (hs1:items.size<=sizeLine) (hs2:items.size+items2.size<=sizeLine+1) :
  Meets (Builtin.«list.extend» ⟨[.ref l,.ref b],[]⟩) (λ_ R s=>s.heap.get? l=some { cls:=.type "list",dict:=none,data:=.seq items n,slots:=#[] }/\s.heap.get? b=some { cls:=.type "list",dict:=dd,data:=.seq items2 n2,slots:=sl }/\R (.ok (.ret Value.none)) { s with heap:=s.heap.update l (Obj.mapSeq λx=>x++items2),toks:=s.toks }):=
 .of_wp λprog w A R s h=>by
  obtain⟨hp,g,d,tk,os⟩:=s;obtain⟨hl,hb,h⟩:=h;have f1:=AutoSeq1.idx_int;have f2:=AutoSeq1.sub_tuple_tuple;have f3:=AutoSeq1.sub_list_list;have f4:=AutoSeq1.sub_tuple_list;have f5:=AutoSeq1.sub_list_tuple
  have hz':(items++items2).size<=sizeLine+1:=by rw [Array.size_append];exact hs2
  wp_walk using (wpAny_updateSeq hl rfl (hz:=hs1) (_hz':=hz')),wpAny_loadPart' hl,wpAny_loadPart' hb
  exact⟨_,rfl,h⟩
section
variable {K:PySem.W.Frag}{X:Cx}{pos:Pos}{a e:Expr}{es:List Expr}{fa:Ef}{af:Af}
noncomputable def AK (X:Cx):V->List V->Hp->VK->Prop:=λx vs H Q=>∃ l b xs zs,x=.ref l/\vs=[.ref b]/\H l=some (.lst xs)/\Rd H b (.lst zs)/\b≠l/\xs.length+zs.length<=sizeLine/\Q .non (upd H l (.lst (xs++zs)))
theorem xo:MtR X "list.extend" (AK X):=by
 intro pins s σ H x vs v us Q I rx rv h
 obtain⟨l,b,xs,zs,rfl,rfl,hH,hB,hne,hz,q⟩:=h
 cases rx
 obtain⟨u,rfl,ru⟩:=rv.one
 cases ru
 obtain⟨z,its,n,r,hl,e⟩:=I.lstM hH
 obtain⟨its2,r2,⟨⟨c,dd,dt,sl⟩,n2,e2,hc,hdd,hd⟩,hz2⟩:=I.list (.inl hB)
 replace hc:c=.type "list":=hc
 replace hd:dt=.seq its2.toArray n2:=hd
 subst hc hd
 have hl2:=r2.length
 have hsz:its.toArray.size+its2.toArray.size<=sizeLine:=by rw [List.size_toArray,List.size_toArray];lia
 have hlong:¬ (!its.toArray.isEmpty && Builtin.List.listTooLong (its.toArray.size+its2.toArray.size))=true:=by
  rw [pI hsz,Bool.and_false]
  exact Bool.false_ne_true
 refine call_meets F.slot_list_extend ⟨_,e,rfl⟩ F.entry_list_extend (F.args_list_extend_2 _ _)
  (mN l its.toArray n b its2.toArray n2 dd sl hlong (by rw [List.size_toArray];lia) (by lia)) ⟨e,e2,?_⟩
 refine⟨.non,_,I.lset (its':=its++its2) hH e (by simp) (r.append r2) ?_,rfl,q⟩
 rw [List.length_append]
 lia
noncomputable def mj (ds:List D):List W->Option (D×List D)
 | [.d (.lst xs)]=>if ds.length+xs.length<=1000000 then some (.non,ds++xs) else none
 | _=>none
theorem xc {apos:Pos} (ho:IE K X a fa) (ha:IA K X (e::es) af) (hbase:attributeBase a "extend" X.env (eval a X.env)=eval a X.env:=by rfl)
  (hall:(e::es).all aA=true:=by rfl) (hfl30:(e::es).length < 30:=by decide) (hline:(apos.endLine==pos.line)=true:=by rfl) (hK:X.K=K:=by rfl) :
  IE K X (.Call (.Attribute a "extend" apos) (e::es) [] pos) (eD mj fa af):=by
 subst hK
 refine qz PySem.F.slot_list_extend PySem.F.type_list_extend xo (λH φ st n ad ds vs ws us y Q S ea eds hv rl rw hy q=>?_) (λds ws y h=>?_) ho ha hbase hall hfl30 hline rfl
 ·match ws,hy with
  | [.d (.lst xs)],hy=>
   simp only [mj] at hy
   split at hy
   ·rename_i hl
    cases hy
    obtain⟨v,r,rfl,⟨b,zs,rfl,hnb,hq,hz⟩,rfl⟩:=rw
    exact⟨ad,b,vs,zs,rfl,rfl,hv,hq,(λe=>hnb (by rw [e];exact List.mem_of_getElem? ea)),by rw [<-rl.length,<-hz.length];exact Nat.le_trans hl mil,q _ _ rfl (rl.append hz) (λb z=>nomatch z)⟩
   ·cases hy
 ·match ws,h with
  | [.d (.lst xs)],h=>
   simp only [mj] at h
   split at h
   ·cases h;rfl
   ·cases h
end
end L2
namespace L2
open PySem PySem.Spec PyProof.Rows
open Classical in
noncomputable def lcH (n:Nat) (all:List D) (g:Tg) (tt:Tf) (te:Ef) (env:Ev):List D->Sto->Option (List D×Sto)
 | [],st=>if lg st n=some all then some ([],st) else none
 | d::ds,st=>if lg st n=some all then ((d8 g (.d d) env).bind λe=>(tt e st).bind λb=>if b.1=true then (te e b.2).bind λx=>(iE [x.1]).bind λys=>(lcH n all g tt te env ds x.2).map λr=>(ys++r.1,r.2)
   else lcH n all g tt te env ds b.2) else none
section
variable {K:PySem.W.Frag}{X:Cx}{pos:Pos}{tg:Expr}
noncomputable def YlH (K:PySem.W.Frag) (φ0:List Addr) (H0:Hp) (J:It) (n:Nat) (ds:List D):Prop:=∀ (H:Hp) (φ:List Addr) (st:Sto) (i:Nat),Fw φ0 φ H0 H->Sr K H φ st->lg st n=some ds->
 (∀ d,ds[i]?=some d->J.go i H/\∀ x H',J.yld i H x H'->br H H'/\Rl K H' φ d x)/\(ds.length=i->J.stop i H)
noncomputable def BU (K:PySem.W.Frag) (env:Ev) (st:Sto) (n:Nat) (ds:List D) (s1:Sto):TI:=λσ H R=>∃ φ,Er K H φ env σ/\Sr K H φ st/\∀ J H' φ',Fw φ φ' H H'->Sr K H' φ' s1->YlH K φ' H' J n ds->R J H'
theorem xN {e:Expr}{f:Ef}{env:Ev}{st s1:Sto}{n:Nat}{ds:List D} (h:IE K X e f) (hK:X.K=K) (hf:f env st=some (.h n,s1)) (hn:lg s1 n=some ds):PI X tg e (BU K env st n ds s1):=by
 subst hK
 refine (rB (h.run _ _ _ hf)).imp ?_
 rintro σ H R ⟨φ,hE,hS,q⟩
 refine⟨φ,hE,hS,λv H1 φ1 f1 S1 w1=>?_⟩
 obtain⟨a,vs,rfl,hq,hr⟩:=iM S1 w1 (show lsD s1 (.h n)=some ds from hn)
 refine⟨a,rfl,⟨vs,.inl hq⟩,q _ H1 φ1 f1 S1 λH2 φ2 st2 i f2 S2 hn2=>?_⟩
 obtain⟨a2,vs2,ea,hq2,hr2⟩:=iM S2 (Rw.fw S1 f2 w1) (show lsD st2 (.h n)=some ds from hn2)
 cases ea
 have hq3:SqL X.K H2 a vs2:=.inl hq2
 refine⟨λd hd=>?_,λhi=>⟨vs2,hq3,by rw [<-hr2.length];exact Nat.le_of_eq hi⟩⟩
 obtain⟨v,ev,rv⟩:=hr2.get hd
 refine⟨⟨vs2,v,hq3,ev⟩,λx H' y=>?_⟩
 obtain⟨rfl,y⟩:=y
 have:=y vs2 hq3
 rw [ev] at this
 cases this
 exact⟨br.refl _,rv⟩
end
end L2
namespace L2
open PySem PySem.Spec PyProof.Rows
open Classical in
noncomputable def lB (n:Nat) (all:List D) (g:Tg) (body:Sf):List D->Ev->Sto->Option Fl
 | [],env,st=>if lg st n=some all then some (.nx env st) else none
 | d::ds,env,st=>if lg st n=some all then ((d8 g (.d d) env).bind λe=>(body e st).bind λr=>match r with
  | .nx e s=>lB n all g body ds e s
  | .ct e s=>lB n all g body ds e s
  | .bk e s=>some (.nx e s)
  | .rt w s=>some (.rt w s)) else none
noncomputable def oB (fe:Ef) (g:Tg) (body:Sf):Sf
 | env,st=>(fe env st).bind λr=>match r.1 with
  | .h n=>(lg r.2 n).bind λds=>lB n ds g body ds env r.2
  | .d (.tup ds)=>iS g body ds env r.2
  | .d (.lst ds)=>iS g body ds env r.2
  | _=>none
section
variable {K:PySem.W.Frag}{X:Cx}{pos:Pos}{tg:Expr}
theorem wk {iter:Expr}{body:List Stmt}{fe:Ef}{g:Tg}{gb:Sf} (he:IE K X iter fe) (hii:II K X tg iter (aR fe)) (hg:PG X tg (tG K g)) (hb:ISs K X body gb) (hp:PassesOwn (model X.prog X.w) X.A X.env X.xe) (hc:X.calm=true:=by rfl)
  (hs:∀ x,foldedSetIterable iter X.env x=pure x:=by intro _;rfl) (hK:X.K=K:=by rfl):IS K X (.For tg iter body [] pos) (oB fe g gb):=by
 refine⟨λenv st r hr=>?_⟩
 simp only [oB,Option.bind_eq_some_iff] at hr
 obtain⟨⟨x,s1⟩,hx,hr⟩:=hr
 cases x with
 | d x=>
  refine (gG hii hg hb hp hc hs).run env st r ?_
  cases x with
  | tup ds=>simp only [hX,aR,hx,Option.bind_some];exact hr
  | lst ds=>simp only [hX,aR,hx,Option.bind_some];exact hr
  | _=>cases hr
 | h n=>
  simp only [Option.bind_eq_some_iff] at hr
  obtain⟨ds,hds,hr⟩:=hr
  refine (uR hp hc (xN he hK hx hds) hg hb.any hs).imp ?_
  rintro D σ H ⟨φ,hE,hS,q⟩
  refine⟨φ,hE,hS,λJ H1 φ1 f1 S1 yl=>?_⟩
  refine⟨λi m σ H=>m=ds.length - i/\i<=ds.length/\∃ env st φ2,Fw φ1 φ2 H1 H/\Er K H φ2 env σ/\Sr K H φ2 st/\lB n ds g gb (ds.drop i) env st=some r,⟨ds.length,by simp,Nat.zero_le _,env,s1,φ1,Fw.refl _ _,hE.fw hS f1,S1,hr⟩,?_⟩
  rintro i m σ H2 ⟨rfl,hi,env2,st2,φ2,f2,e2,S2,h2⟩
  by_cases hlt:i < ds.length
  ·rw [List.drop_eq_getElem_cons hlt] at h2
   rw [lB] at h2
   by_cases hg2:lg st2 n=some ds
   ·rw [if_pos hg2] at h2
    obtain⟨y1,y2⟩:=yl H2 φ2 st2 i f2 S2 hg2
    obtain⟨go,yld⟩:=y1 ds[i] (List.getElem?_eq_getElem hlt)
    simp only [Option.bind_eq_some_iff] at h2
    obtain⟨e3,he3,r3,hr3,h3⟩:=h2
    refine .inr ⟨go,λσ' H'=>i+1<=ds.length/\∃ env st φ2,Fw φ1 φ2 H1 H'/\Er K H' φ2 env σ'/\Sr K H' φ2 st/\lB n ds g gb (ds.drop (i+1)) env st=some r,λσ' H' ⟨hn,p'⟩=>⟨ds.length - (i+1),by lia,rfl,hn,p'⟩,λx H' y=>?_⟩
    obtain⟨sm,rx⟩:=yld x H' y
    have S3:=S2.same sm
    have f3:=f2.trans (Fw.same (φ:=φ2) sm)
    refine⟨φ2,st2,env2,.d ds[i],e3,e2.fw S2 (Fw.same sm),S3,rx,he3,λσ' e' _=>?_⟩
    refine⟨e3,st2,r3,hr3,φ2,e',S3,?_⟩
    cases r3 with
    | nx e4 s4=>exact λσ4 H4 φ4 f4 e4' s4'=>⟨hlt,e4,s4,φ4,f3.trans f4,e4',s4',h3⟩
    | ct e4 s4=>exact λσ4 H4 φ4 f4 e4' s4'=>⟨hlt,e4,s4,φ4,f3.trans f4,e4',s4',h3⟩
    | bk e4 s4=>
     cases h3
     exact λσ4 H4 φ4 f4 e4' s4'=>q σ4 H4 φ4 (f1.trans (f3.trans f4)) e4' s4'
    | rt w s4=>
     cases h3
     exact λv H4 φ4 f4 s4' w4=>q v H4 φ4 (f1.trans (f3.trans f4)) s4' w4
   ·rw [if_neg hg2] at h2;cases h2
  ·have hi':i=ds.length:=by lia
   subst hi'
   rw [List.drop_length,lB] at h2
   by_cases hg2:lg st2 n=some ds
   ·rw [if_pos hg2] at h2
    cases h2
    obtain⟨y1,y2⟩:=yl H2 φ2 st2 ds.length f2 S2 hg2
    exact .inl ⟨y2 rfl,q σ H2 φ2 (f1.trans f2) e2 S2⟩
   ·rw [if_neg hg2] at h2;cases h2
end
theorem oE {n:Nat}{all:List D}{g:Tg}{body:Sf}:∀ {ds:List D} (Pv:Nat->Ev->Sto->Prop) {env:Ev}{st:Sto},Pv 0 env st->(∀ i env st,Pv i env st->lg st n=some all)->
  (∀ i d env st,ds[i]?=some d->Pv i env st->∃ e1 e2 s2,d8 g (.d d) env=some e1/\(body e1 st=some (.nx e2 s2)\/body e1 st=some (.ct e2 s2))/\Pv (i+1) e2 s2)->
  ∃ env' st',lB n all g body ds env st=some (.nx env' st')/\Pv ds.length env' st'
 | [],Pv,env,st,h0,hk,_=>⟨env,st,by rw [lB,if_pos (hk _ _ _ h0)],h0⟩
 | d::ds,Pv,env,st,h0,hk,hs=>by
  obtain⟨e1,e2,s2,h1,h2,h3⟩:=hs 0 d env st rfl h0
  obtain⟨e',s',h4,h5⟩:=oE (g:=g) (body:=body) (ds:=ds) (λi=>Pv (i+1)) h3 (λi=>hk (i+1)) λi d' env' st' hd p=>hs (i+1) d' env' st' (by simpa using hd) p
  refine⟨e',s',?_,h5⟩
  rw [lB,if_pos (hk _ _ _ h0),h1,Option.bind_some]
  rcases h2 with h2 | h2<;>(rw [h2,Option.bind_some];exact h4)
end L2
namespace Own
open PySem L2
noncomputable section
noncomputable def gn:Ef:=(en (ab (iV 0) (ab (sG (iV 1) (iV 0)) am)))
noncomputable def gx:Tf:=(bX dNe (sG (iV 1) (iV 0)) (iC (.int 0)))
noncomputable def b_poly_from:Sf:=(cj (en (ab (iV 0) (ab (iCB jF (ab (aV (iLc 1 [1] (aR (aV (iQ (iV 1)))) (.nm 0) gx gn)) am)) am))))
noncomputable def m_poly_from:Fn:=ce 2 2 b_poly_from
noncomputable def bx:Sf:=(rJ (iV 2) (iV 3) (iOp fG (oi (iV 2) (iV 3) (iC (.int 0))) (iV 4)))
noncomputable def b_gathered:Sf:=(aJ (bO (.nm 2) yq) (aJ (oB (iV 1) (.tp [3,4]) bx) (cj (aZ m_poly_from (ab (iV 0) (ab (iV 2) am))))))
noncomputable def m_gathered:Fn:=jd 5 2 b_gathered
noncomputable def b_joined:Sf:=(aJ (eY (bX dEq (iV 0) (iC (.str "both"))) (cj (iCB jF (ab (aV (fu (ly (cz (iV 1)) (cz (iV 2))))) am))) er) (cj (iCB jF (ab (aV (fu (ix (cz (iV 1)) (cz (iV 2))))) am))))
noncomputable def m_joined:Fn:=ce 3 3 b_joined
noncomputable def fF:Ef:=(en (ab (aZ m_joined (ab (iV 2) (ab (iV 3) (ab (iV 0) am)))) (ab (iOp gi (iV 4) (iV 1)) am)))
noncomputable def fH:Sf:=(gv (eD mj (iV 3) (ab (aV (iLc 2 [2,4,5] (aR (iOp dIx (iV 1) (iC (.int 1)))) (.tp [0,1]) dX fF)) am)))
noncomputable def b_product_of:Sf:=(aJ (bO (.nm 2) (iOp dIx (iV 0) (iC (.int 0)))) (aJ (bO (.nm 3) (nL (dZ am))) (aJ (hX (aR (iOp dIx (iV 0) (iC (.int 1)))) (.tp [4,5]) fH) (cj (aZ m_gathered (ab (iV 2) (ab (iV 3) am)))))))
noncomputable def m_product_of:Fn:=jd 6 2 b_product_of
noncomputable def mn:Ef:=(en (ab (iV 0) (ab (iOp gi (iV 2) (iV 1)) am)))
noncomputable def b_often:Sf:=(cj (aZ m_gathered (ab (iOp dIx (iV 0) (iC (.int 0))) (ab (aV (iLc 2 [1] (aR (iOp dIx (iV 0) (iC (.int 1)))) (.tp [0,1]) dX mn)) am))))
noncomputable def m_often:Fn:=ce 2 2 b_often
noncomputable def mh:Ef:=(iOp fG (iV 0) (iV 1))
noncomputable def mF:Ef:=(en (ab (iCB jF (ab (aV (iLc 1 [2] (aR (iV 0)) (.nm 0) dX mh)) am)) (ab (iV 1) am)))
noncomputable def b_moved:Sf:=(cj (en (ab (iOp dIx (iV 0) (iC (.int 0))) (ab (iCB jF (ab (aV (iLc 2 [1] (aR (iOp dIx (iV 0) (iC (.int 1)))) (.tp [0,1]) dX mF)) am)) am))))
noncomputable def m_moved:Fn:=ce 2 2 b_moved
noncomputable def b_unlike_poly:Sf:=(cj (aZ m_often (ab (aZ m_product_of (ab (iV 1) (ab (aZ m_moved (ab (iV 2) (ab (iV 0) am))) am))) (ab (iUn oN (iC (.int 1))) am))))
noncomputable def m_unlike_poly:Fn:=ce 3 3 b_unlike_poly
noncomputable def cA:Ef:=(iCB uS (ab (iV 0) am))
noncomputable def cy:Tf:=(bX dGe (iCB uS (ab (iV 0) am)) (iOp sO (iC (.int 10)) (iC (.int 18))))
noncomputable def dE:Sf:=(bO (.nm 1) (iOp jc (iOp fG (iOp gi (iV 1) (iC (.int 1000003))) (iV 2)) (iC (.int 2305843009213693951))))
noncomputable def b__law_spool:Sf:=(aJ (bO (.nm 1) (iOp fG (iCB ir (ab (iV 0) am)) (iC (.int 11)))) (aJ (hX (aR (iSl (iV 0) iPn (iPs (iC (.int 63))))) (.nm 2) dE) (cj (re (ab (nL (iLc 1 [] (aR (iSl (iV 0) iPn (iPs (iC (.int 63))))) (.nm 0) cy cA)) (ab (iV 1) (ab (iC (.int 0)) am)))))))
noncomputable def m__law_spool:Fn:=ce 3 1 b__law_spool
noncomputable def b7:Tf:=(mB (bX dNe (eI (iV 0) (iC (.int 0))) (aV (dZ am))) (bX dEq (iOp dIx (eI (iV 0) (iC (.int 0))) (iC (.int 0))) (iC (.int 0))))
noncomputable def d5:Sf:=(gv (eD vH (eI (iV 0) (iC (.int 0))) (ab (iC (.int 0)) am)))
noncomputable def b__law_take:Sf:=(aJ (ny 1000000000000000000000000000000 b7 d5) (aJ (eY (bX dNe (eI (iV 0) (iC (.int 0))) (aV (dZ am))) (aJ (bO (.nm 2) (iOp jc (iOp dIx (eI (iV 0) (iC (.int 0))) (iC (.int 0))) (iV 1))) (aJ (ka (eI (iV 0) (iC (.int 0))) (iC (.int 0)) (iOp mf (iOp dIx (eI (iV 0) (iC (.int 0))) (iC (.int 0))) (iV 1))) (cj (iV 2)))) er) (aJ (hW (iV 0) (iC (.int 2)) (iOp fG (eI (iV 0) (iC (.int 2))) (iC (.int 1)))) (aJ (bO (.nm 3) (iOp jc (iOp gi (iOp fG (eI (iV 0) (iC (.int 1))) (iOp gi (iC (.int 104729)) (eI (iV 0) (iC (.int 2))))) (iC (.int 48271))) (iC (.int 2305843009213693951)))) (aJ (bO (.nm 4) (iOp jc (iOp gi (iV 3) (iOp fG (iOp fG (iOp mf (iV 3) (iC (.int 1000003))) (iOp gi (eI (iV 0) (iC (.int 2))) (eI (iV 0) (iC (.int 2))))) (iC (.int 7)))) (iC (.int 2305843009213693921)))) (cj (iOp jc (iOp mf (iV 4) (iC (.int 8191))) (iV 1))))))))
noncomputable def m__law_take:Fn:=ce 5 2 b__law_take
noncomputable def d4:Ef:=(iV 0)
noncomputable def d6:Tf:=(bX dEq (iOp sS (iOp ng (iV 1) (iV 0)) (iC (.int 1))) (iC (.int 1)))
noncomputable def b__law_term:Sf:=(aJ (bO (.nm 3) (iCB ir (ab (aV (iLc 1 [2] (aR (iV 1)) (.nm 0) d6 d4)) am))) (cj (qf (bX dEq (iV 0) (iC (.str "both"))) (iCB zT (ab (iOp dEq (iV 3) (iCB ir (ab (iV 1) am))) am)) (iOp qk (iC (.int 1)) (iOp gi (iC (.int 2)) (iOp jc (iV 3) (iC (.int 2))))))))
noncomputable def m__law_term:Fn:=ce 4 3 b__law_term
noncomputable def fP:Ef:=(iOp gi (iV 1) (aZ m__law_term (ab (iOp dIx (iV 2) (iC (.int 0))) (ab (iV 0) (ab (iV 3) am)))))
noncomputable def b__law_value:Sf:=(cj (iCB xl (ab (aV (iLc 2 [0,1] (aR (iOp dIx (iV 0) (iC (.int 1)))) (.tp [0,1]) dX fP)) am)))
noncomputable def m__law_value:Fn:=ce 2 2 b__law_value
noncomputable def cE:Ef:=(iV 0)
noncomputable def cG:Tf:=(bX dLe (iCB ir (ab (iV 0) am)) (iV 1))
noncomputable def fN:Ef:=(iV 0)
noncomputable def ft:Tf:=(bX dEq (iOp sS (iOp ng (iV 1) (iV 0)) (iC (.int 1))) (iC (.int 1)))
noncomputable def dG:Ef:=(iCB jF (ab (aV (iLc 1 [0] (fS (ab (iV 1) am)) (.nm 0) ft fN)) am))
noncomputable def b__law_terms:Sf:=(aJ (bO (.nm 2) (aV (iLc 1 [0] (fS (ab (iOp sI (iC (.int 1)) (iV 0)) am)) (.nm 0) dX dG))) (cj (aV (iCL j9 (ab (aV (iLc 1 [1] (aR (iV 2)) (.nm 0) cG cE)) am)))))
noncomputable def m__law_terms:Fn:=ce 3 2 b__law_terms
noncomputable def cM:Ef:=(iOp dIx (iV 0) (iC (.int 0)))
noncomputable def cO:Sf:=(aJ (eY (jA (gj (kj kK (iCB jx (ab (iV 4) (ab (iC (.ty "tuple")) am))))) (jA (bX dNe (iCB ir (ab (iV 4) am)) (iC (.int 2))) (bX kq (iCB fB (ab (iOp dIx (iV 4) (iC (.int 0))) am)) (iV 3)))) (cj (iC (.bl false))) er) (eY (jA (gj (kj kK (iCB jx (ab (iOp dIx (iV 4) (iC (.int 1))) (ab (iC (.ty "int")) am))))) (jA (kj kK (iCB jx (ab (iOp dIx (iV 4) (iC (.int 1))) (ab (iC (.ty "bool")) am)))) (bX dEq (iOp dIx (iV 4) (iC (.int 1))) (iC (.int 0))))) (cj (iC (.bl false))) er))
noncomputable def cL:Ef:=(iCB fB (ab (iV 0) am))
noncomputable def b__law_is_poly:Sf:=(aJ (eY (jA (gj (kj kK (iCB jx (ab (iV 0) (ab (iC (.ty "tuple")) am))))) (jA (bX dNe (iCB ir (ab (iV 0) am)) (iC (.int 2))) (jA (bX dNe (iOp dIx (iV 0) (iC (.int 0))) (iV 1)) (gj (kj kK (iCB jx (ab (iOp dIx (iV 0) (iC (.int 1))) (ab (iC (.ty "tuple")) am)))))))) (cj (iC (.bl false))) er) (aJ (bO (.nm 3) (aV (iLc 1 [] (aR (aZ m__law_terms (ab (iV 2) (ab (iV 2) am)))) (.nm 0) dX cL))) (aJ (hX (aR (iOp dIx (iV 0) (iC (.int 1)))) (.nm 4) cO) (aJ (bO (.nm 5) (aV (iLc 1 [] (aR (iOp dIx (iV 0) (iC (.int 1)))) (.nm 0) dX cM))) (cj (iOp dEq (iV 5) (aV (iZ (iV 5)))))))))
noncomputable def m__law_is_poly:Fn:=ce 6 3 b__law_is_poly
noncomputable def dQ:Sf:=(aJ (bO (.nm 5) (iOp dIx (aV (dZ (ab (iC (.int 1)) (ab (iUn oN (iC (.int 1))) (ab (iC (.int 2)) (ab (iUn oN (iC (.int 2))) (ab (iC (.int 3)) (ab (iUn oN (iC (.int 3))) (ab (iC (.int 1)) (ab (iOp qk (iOp sO (iC (.int 10)) (iC (.int 18))) (aZ m__law_take (ab (iV 0) (ab (iC (.int 99)) am)))) am)))))))))) (aZ m__law_take (ab (iV 0) (ab (iC (.int 8)) am))))) (eY (bX dGt (aZ m__law_take (ab (iV 0) (ab (iC (.int 3)) am))) (iC (.int 0))) (gv (eD fZ (iV 3) (ab (en (ab (iV 4) (ab (iV 5) am))) am))) er))
noncomputable def b__law_poly:Sf:=(aJ (bO (.nm 3) (nL (dZ am))) (aJ (hX (aR (aZ m__law_terms (ab (iV 2) (ab (iV 2) am)))) (.nm 4) dQ) (cj (en (ab (iV 1) (ab (iCB jF (ab (iV 3) am)) am))))))
noncomputable def m__law_poly:Fn:=jd 6 3 b__law_poly
noncomputable def b__law_sizes:Sf:=(aJ (bO (.nm 1) (aV (dZ (ab (aZ m__law_take (ab (iV 0) (ab (iC (.int 4)) am))) (ab (aZ m__law_take (ab (iV 0) (ab (iC (.int 4)) am))) am))))) (aJ (eY (bX dEq (aZ m__law_take (ab (iV 0) (ab (iC (.int 6)) am))) (iC (.int 0))) (aJ (bO (.nm 2) (aZ m__law_take (ab (iV 0) (ab (iC (.int 7)) am)))) (bO (.nm 1) (aV (dZ (ab (iV 2) (ab (iOp qk (iC (.int 6)) (iV 2)) am)))))) er) (cj (iV 1))))
noncomputable def m__law_sizes:Fn:=ce 3 1 b__law_sizes
noncomputable def fE:Sf:=(aJ (bO (.nm 7) (iOp qk (iC (.int 0)) (iOp gi (aZ m__law_value (ab (iV 3) (ab (iOp jc (iV 6) (iOp sI (iC (.int 1)) (iV 0))) am))) (aZ m__law_value (ab (iV 4) (ab (iOp ng (iV 6) (iV 0)) am)))))) (eY (bX dNe (aZ m__law_value (ab (iV 5) (ab (iV 6) am))) (iV 7)) (cj (iC (.bl false))) er))
noncomputable def b__law_right:Sf:=(aJ (bO (.nm 5) (aZ m_unlike_poly (ab (iV 0) (ab (iV 3) (ab (iV 4) am))))) (aJ (eY (jA (gj (kj kK (aZ m__law_is_poly (ab (iV 5) (ab (iV 2) (ab (iOp fG (iV 0) (iV 1)) am)))))) (bX dNe (iCB fB (ab (aZ m_unlike_poly (ab (iV 0) (ab (iV 3) (ab (iV 4) am)))) am)) (iCB fB (ab (iV 5) am)))) (cj (iC (.bl false))) er) (aJ (hX (fS (ab (iOp sI (iC (.int 1)) (iOp fG (iV 0) (iV 1))) am)) (.nm 6) fE) (cj (iC (.bl true))))))
noncomputable def m__law_right:Fn:=ce 8 5 b__law_right
noncomputable def rX:Sf:=(aJ (bO (.nm 3) (iOp dIx (aV (dZ (ab (iC (.str "both")) (ab (iC (.str "odd")) am)))) (aZ m__law_take (ab (iV 1) (ab (iC (.int 2)) am))))) (aJ (bO (.tp [4,5]) (aZ m__law_sizes (ab (iV 1) am))) (aJ (ue 6 7 (ab (aZ m__law_poly (ab (iV 1) (ab (iV 3) (ab (iV 4) am)))) (ab (aZ m__law_poly (ab (iV 1) (ab (iV 3) (ab (iV 5) am)))) am))) (eY (gj (kj kK (aZ m__law_right (ab (iV 4) (ab (iV 5) (ab (iV 3) (ab (iV 6) (ab (iV 7) am)))))))) (cj (iC (.bl false))) er))))
noncomputable def mG:Sf:=(aJ (bO (.nm 1) (aZ m__law_spool (ab (iV 0) am))) (aJ (hX (fS (ab (iC (.int 2)) am)) (.nm 2) rX) (cj (iC (.bl true)))))
noncomputable def m_law:Fn:=jd 8 1 mG
end
end Own
section
set_option maxHeartbeats 2000000
namespace Own
open PySem L2
noncomputable def top (i:Nat):Stmt:=PySem.Challenge.pw_signpoly_k63_products_beside.main.body.getD i (.Pass ⟨0,0,0,0⟩)
abbrev bC:Stmt:=top 1
abbrev bV:Stmt:=top 3
abbrev cC:Stmt:=top 4
abbrev bn:Stmt:=top 5
abbrev cT:Stmt:=top 6
abbrev cI:Stmt:=top 7
abbrev bh:Stmt:=top 9
abbrev bi:Stmt:=top 11
abbrev bG:Stmt:=top 12
abbrev bA:Stmt:=top 13
abbrev bj:Stmt:=top 14
abbrev aT:Stmt:=top 15
abbrev aG:Stmt:=top 16
abbrev bL:Stmt:=top 17
abbrev bz:Stmt:=top 18
abbrev bw:Stmt:=top 19
abbrev hU:Stmt:=top 20
theorem m6:bg ["kind","numbers"] ["kind","numbers"] (ae bC):=⟨rfl,rfl,rfl,by decide +kernel,rfl,by decide +kernel,by decide +kernel⟩
theorem dN:bg ["kind","parts","numbers","term","number"] ["kind","parts"] (ae bV):=⟨rfl,rfl,rfl,by decide +kernel,rfl,by decide +kernel,by decide +kernel⟩
theorem tM:bg ["kind","one","other"] ["kind","one","other"] (ae cC):=⟨rfl,rfl,rfl,by decide +kernel,rfl,by decide +kernel,by decide +kernel⟩
theorem cm:bg ["one","other","kind","parts","term","number"] ["one","other"] (ae bn):=⟨rfl,rfl,rfl,by decide +kernel,rfl,by decide +kernel,by decide +kernel⟩
theorem vR:bg ["poly","number"] ["poly","number"] (ae cT):=⟨rfl,rfl,rfl,by decide +kernel,rfl,by decide +kernel,by decide +kernel⟩
theorem vS:bg ["poly","by"] ["poly","by"] (ae cI):=⟨rfl,rfl,rfl,by decide +kernel,rfl,by decide +kernel,by decide +kernel⟩
theorem lh:bg ["n","one","other"] ["n","one","other"] (ae bh):=⟨rfl,rfl,rfl,by decide +kernel,rfl,by decide +kernel,by decide +kernel⟩
theorem cR:bg ["_law_script","_law_seed","_law_cell"] ["_law_script"] (ae bi):=⟨rfl,rfl,rfl,by decide +kernel,rfl,by decide +kernel,by decide +kernel⟩
theorem dm:bg ["_law_spool_here","_law_many","_law_digit","_law_once","_law_twice"] ["_law_spool_here","_law_many"] (ae bG):=⟨rfl,rfl,rfl,by decide +kernel,rfl,by decide +kernel,by decide +kernel⟩
theorem iA:bg ["_law_kind","_law_term_here","_law_row","_law_on"] ["_law_kind","_law_term_here","_law_row"] (ae bA):=⟨rfl,rfl,rfl,by decide +kernel,rfl,by decide +kernel,by decide +kernel⟩
theorem lF:bg ["_law_poly_here","_law_row"] ["_law_poly_here","_law_row"] (ae bj):=⟨rfl,rfl,rfl,by decide +kernel,rfl,by decide +kernel,by decide +kernel⟩
theorem gA:bg ["_law_n","_law_size","_law_every"] ["_law_n","_law_size"] (ae aT):=⟨rfl,rfl,rfl,by decide +kernel,rfl,by decide +kernel,by decide +kernel⟩
theorem cn:bg ["_law_thing","_law_kind","_law_n","_law_every","_law_part","_law_terms_here"] ["_law_thing","_law_kind","_law_n"] (ae aG):=⟨rfl,rfl,rfl,by decide +kernel,rfl,by decide +kernel,by decide +kernel⟩
theorem dj:bg ["_law_spool_here","_law_kind","_law_n","_law_parts","_law_term_here","_law_number"] ["_law_spool_here","_law_kind","_law_n"] (ae bL):=⟨rfl,rfl,rfl,by decide +kernel,rfl,by decide +kernel,by decide +kernel⟩
theorem cU:bg ["_law_spool_here","_law_found","_law_first"] ["_law_spool_here"] (ae bz):=⟨rfl,rfl,rfl,by decide +kernel,rfl,by decide +kernel,by decide +kernel⟩
theorem cV:bg ["_law_n","_law_m","_law_kind","_law_one","_law_other","_law_found","_law_at","_law_due"] ["_law_n","_law_m","_law_kind","_law_one","_law_other"] (ae bw):=⟨rfl,rfl,rfl,by decide +kernel,rfl,by decide +kernel,by decide +kernel⟩
theorem gF:bg ["_law_script","_law_spool_here","_law_turn","_law_kind","_law_n","_law_m","_law_one","_law_other"] ["_law_script"] (ae hU):=⟨rfl,rfl,rfl,by decide +kernel,rfl,by decide +kernel,by decide +kernel⟩
set_option genSizeOf false in
set_option genInjectivity false in
structure Adr where
 f_poly_from:Addr
 fd_poly_from:FuncData
 f_gathered:Addr
 fd_gathered:FuncData
 f_joined:Addr
 fd_joined:FuncData
 f_product_of:Addr
 fd_product_of:FuncData
 f_often:Addr
 fd_often:FuncData
 f_moved:Addr
 fd_moved:FuncData
 f_unlike_poly:Addr
 fd_unlike_poly:FuncData
 f__law_spool:Addr
 fd__law_spool:FuncData
 f__law_take:Addr
 fd__law_take:FuncData
 f__law_term:Addr
 fd__law_term:FuncData
 f__law_value:Addr
 fd__law_value:FuncData
 f__law_terms:Addr
 fd__law_terms:FuncData
 f__law_is_poly:Addr
 fd__law_is_poly:FuncData
 f__law_poly:Addr
 fd__law_poly:FuncData
 f__law_sizes:Addr
 fd__law_sizes:FuncData
 f__law_right:Addr
 fd__law_right:FuncData
 f_law:Addr
 fd_law:FuncData
structure Txt (K:PySem.W.Frag) (mg:Str->Option Value) (t:Adr):Prop where
 F_poly_from:Fun K "poly_from" "poly_from" bC t.f_poly_from t.fd_poly_from
 m_poly_from:mg "poly_from" = some (.ref t.f_poly_from)
 b_poly_from:b9 K t.fd_poly_from ["kind","numbers"] []
 F_gathered:Fun K "gathered" "gathered" bV t.f_gathered t.fd_gathered
 m_gathered:mg "gathered" = some (.ref t.f_gathered)
 b_gathered:b9 K t.fd_gathered ["kind","parts"] []
 F_joined:Fun K "joined" "joined" cC t.f_joined t.fd_joined
 m_joined:mg "joined" = some (.ref t.f_joined)
 b_joined:b9 K t.fd_joined ["kind","one","other"] []
 F_product_of:Fun K "product_of" "product_of" bn t.f_product_of t.fd_product_of
 m_product_of:mg "product_of" = some (.ref t.f_product_of)
 b_product_of:b9 K t.fd_product_of ["one","other"] []
 F_often:Fun K "often" "often" cT t.f_often t.fd_often
 m_often:mg "often" = some (.ref t.f_often)
 b_often:b9 K t.fd_often ["poly","number"] []
 F_moved:Fun K "moved" "moved" cI t.f_moved t.fd_moved
 m_moved:mg "moved" = some (.ref t.f_moved)
 b_moved:b9 K t.fd_moved ["poly","by"] []
 F_unlike_poly:Fun K "unlike_poly" "unlike_poly" bh t.f_unlike_poly t.fd_unlike_poly
 m_unlike_poly:mg "unlike_poly" = some (.ref t.f_unlike_poly)
 b_unlike_poly:b9 K t.fd_unlike_poly ["n","one","other"] []
 F__law_spool:Fun K "_law_spool" "_law_spool" bi t.f__law_spool t.fd__law_spool
 m__law_spool:mg "_law_spool" = some (.ref t.f__law_spool)
 b__law_spool:b9 K t.fd__law_spool ["_law_script"] []
 F__law_take:Fun K "_law_take" "_law_take" bG t.f__law_take t.fd__law_take
 m__law_take:mg "_law_take" = some (.ref t.f__law_take)
 b__law_take:b9 K t.fd__law_take ["_law_spool_here","_law_many"] []
 F__law_term:Fun K "_law_term" "_law_term" bA t.f__law_term t.fd__law_term
 m__law_term:mg "_law_term" = some (.ref t.f__law_term)
 b__law_term:b9 K t.fd__law_term ["_law_kind","_law_term_here","_law_row"] []
 F__law_value:Fun K "_law_value" "_law_value" bj t.f__law_value t.fd__law_value
 m__law_value:mg "_law_value" = some (.ref t.f__law_value)
 b__law_value:b9 K t.fd__law_value ["_law_poly_here","_law_row"] []
 F__law_terms:Fun K "_law_terms" "_law_terms" aT t.f__law_terms t.fd__law_terms
 m__law_terms:mg "_law_terms" = some (.ref t.f__law_terms)
 b__law_terms:b9 K t.fd__law_terms ["_law_n","_law_size"] []
 F__law_is_poly:Fun K "_law_is_poly" "_law_is_poly" aG t.f__law_is_poly t.fd__law_is_poly
 m__law_is_poly:mg "_law_is_poly" = some (.ref t.f__law_is_poly)
 b__law_is_poly:b9 K t.fd__law_is_poly ["_law_thing","_law_kind","_law_n"] []
 F__law_poly:Fun K "_law_poly" "_law_poly" bL t.f__law_poly t.fd__law_poly
 m__law_poly:mg "_law_poly" = some (.ref t.f__law_poly)
 b__law_poly:b9 K t.fd__law_poly ["_law_spool_here","_law_kind","_law_n"] []
 F__law_sizes:Fun K "_law_sizes" "_law_sizes" bz t.f__law_sizes t.fd__law_sizes
 m__law_sizes:mg "_law_sizes" = some (.ref t.f__law_sizes)
 b__law_sizes:b9 K t.fd__law_sizes ["_law_spool_here"] []
 F__law_right:Fun K "_law_right" "_law_right" bw t.f__law_right t.fd__law_right
 m__law_right:mg "_law_right" = some (.ref t.f__law_right)
 b__law_right:b9 K t.fd__law_right ["_law_n","_law_m","_law_kind","_law_one","_law_other"] []
 F_law:Fun K "law" "law" hU t.f_law t.fd_law
 m_law:mg "law" = some (.ref t.f_law)
 mG:b9 K t.fd_law ["_law_script"] []
 z_abs:mg "abs" = none
 z_bool:mg "bool" = none
 z_int:mg "int" = none
 z_isinstance:mg "isinstance" = none
 z_len:mg "len" = none
 z_range:mg "range" = none
 z_repr:mg "repr" = none
 z_set:mg "set" = none
 z_sorted:mg "sorted" = none
 z_sum:mg "sum" = none
 z_tuple:mg "tuple" = none
section
variable {P:Program}{w:World}{K:PySem.W.Frag}{mg:Str->Option Value}{base:Heap}{t:Adr}
theorem kn (T:Txt K mg t) (cdv:Value) (A:Around) (outer:List Env) (s:Shared) (H:Hp) (E:XK) (hr:bu (0) (A.deeper (PyProof.Rows.envOfC "poly_from" (ae bC) s.heap.objs.size t.f_poly_from cdv))):ISs K (de CX0 P w K mg base ["kind","numbers"] "poly_from" (ae bC) t.f_poly_from cdv A outer s H E).nox (aq bC) b_poly_from:=
 (aw (bq (fz (aa (iv 0) (aa (jq (gI rfl) rfl T.z_tuple PyProof.Rows.boot_tuple (aa (bp (gm (d9 (ae bC).names ["kind","numbers"] ["term","numbers"] 1 [1] rfl rfl rfl (by decide +kernel)) rfl (by decide) (ck (bp (vd hr rfl T.z_sorted (iv 1) rfl rfl rfl)) rfl) (λ_ _ _ _ _=>(b5 (aF (i:=0) (show List.Nodup (α:=Str) ["term","numbers"] by decide +kernel) rfl (by first | exact Or.inl rfl | exact Or.inr rfl)))) (λ_ _ _ _ _=>(gT (bU (ji hr rfl) (vw hr (iv 1) (iv 0) (λ_ _=>rfl)) ah (bS _)))) (λ_ _ _ _ _=>(fz (aa (iv 0) (aa (vw hr (iv 1) (iv 0) (λ_ _=>rfl)) aj rfl) rfl))) (λ_=>rfl))) aj rfl) (by decide) (by decide) rfl rfl) aj rfl) rfl))))
theorem nv (T:Txt K mg t):bE P w K mg base CX0 1 t.f_poly_from t.fd_poly_from ["kind","numbers"] (spI K m_poly_from):=
 show bE P w K mg base CX0 1 t.f_poly_from t.fd_poly_from ["kind","numbers"] (spI K (ce (List.length (α:=Str) ["kind","numbers"]) (List.length (α:=Str) ["kind","numbers"]) b_poly_from)) from iW (N:=["kind","numbers"]) (ps:=["kind","numbers"]) (b:=b_poly_from) T.F_poly_from m6 (λcdv A outer s H E hr=>kn T cdv A outer s H E hr)
theorem lK (T:Txt K mg t) (cdv:Value) (A:Around) (outer:List Env) (s:Shared) (H:Hp) (E:XK) (hr:bu (1) (A.deeper (PyProof.Rows.envOfC "gathered" (ae bV) s.heap.objs.size t.f_gathered cdv))):ISs K (de CX0 P w K mg base ["kind","parts","numbers","term","number"] "gathered" (ae bV) t.f_gathered cdv A outer s H E).nox (aq bV) b_gathered:=
 (ap (b4 (i:=2) dN.nd rfl (by first | exact Or.inl rfl | exact Or.inr rfl) xX rfl (by first | exact .inl rfl | exact .inr rfl)) (ap (wk (iv 1) (ck (iv 1) rfl) (gJ (bM (aF (i:=3) dN.nd rfl (by first | exact Or.inl rfl | exact Or.inr rfl)) (bM (aF (i:=4) dN.nd rfl (by first | exact Or.inl rfl | exact Or.inr rfl)) eS)) rfl rfl rfl rfl rfl) (aw (xu hr (iv 2) (iv 3) (aO (d7 rfl) (wn hr (iv 2) (iv 3) ah ⟨rfl,rfl,rfl,rfl⟩) (iv 4)) rfl)) PassesOwn.never rfl (λ_=>rfl) rfl) (aw (bq (aE (nv T) (by decide) hr rfl T.m_poly_from T.F_poly_from.kp T.b_poly_from (aa (iv 0) (aa (iv 2) aj rfl) rfl) (by decide) rfl rfl)))))
theorem je (T:Txt K mg t):bE P w K mg base CX0 2 t.f_gathered t.fd_gathered ["kind","parts"] (spI K m_gathered):=
 show bE P w K mg base CX0 2 t.f_gathered t.fd_gathered ["kind","parts"] (spI K (jd (List.length (α:=Str) ["kind","parts","numbers","term","number"]) (List.length (α:=Str) ["kind","parts"]) b_gathered)) from xa (N:=["kind","parts","numbers","term","number"]) (ps:=["kind","parts"]) (b:=b_gathered) T.F_gathered dN (λcdv A outer s H E hr=>lK T cdv A outer s H E hr)
theorem pB (T:Txt K mg t) (cdv:Value) (A:Around) (outer:List Env) (s:Shared) (H:Hp) (E:XK) (hr:bu (0) (A.deeper (PyProof.Rows.envOfC "joined" (ae cC) s.heap.objs.size t.f_joined cdv))):ISs K (de CX0 P w K mg base ["kind","one","other"] "joined" (ae cC) t.f_joined cdv A outer s H E).nox (aq cC) b_joined:=
 (ap (gw (bU (iD hr rfl) (iv 0) nK (bS _)) (aw (bq (jq (gI rfl) rfl T.z_tuple PyProof.Rows.boot_tuple (aa (bp (oq rfl T.z_sorted (AG (mO rfl T.z_set (iv 1) rfl rfl rfl) (mO rfl T.z_set (iv 2) rfl rfl rfl)) rfl rfl)) aj rfl) (by decide) (by decide) rfl rfl))) cS) (aw (bq (jq (gI rfl) rfl T.z_tuple PyProof.Rows.boot_tuple (aa (bp (oq rfl T.z_sorted (zX (mO rfl T.z_set (iv 1) rfl rfl rfl) (mO rfl T.z_set (iv 2) rfl rfl rfl)) rfl rfl)) aj rfl) (by decide) (by decide) rfl rfl))))
theorem tT (T:Txt K mg t):bE P w K mg base CX0 1 t.f_joined t.fd_joined ["kind","one","other"] (spI K m_joined):=
 show bE P w K mg base CX0 1 t.f_joined t.fd_joined ["kind","one","other"] (spI K (ce (List.length (α:=Str) ["kind","one","other"]) (List.length (α:=Str) ["kind","one","other"]) b_joined)) from iW (N:=["kind","one","other"]) (ps:=["kind","one","other"]) (b:=b_joined) T.F_joined tM (λcdv A outer s H E hr=>pB T cdv A outer s H E hr)
theorem jy (T:Txt K mg t) (cdv:Value) (A:Around) (outer:List Env) (s:Shared) (H:Hp) (E:XK) (hr:bu (2) (A.deeper (PyProof.Rows.envOfC "product_of" (ae bn) s.heap.objs.size t.f_product_of cdv))):ISs K (de CX0 P w K mg base ["one","other","kind","parts","term","number"] "product_of" (ae bn) t.f_product_of cdv A outer s H E).nox (aq bn) b_product_of:=
 (ap (b4 (i:=2) cm.nd rfl (by first | exact Or.inl rfl | exact Or.inr rfl) (ca (iv 0) ah rfl rfl) rfl (by first | exact .inl rfl | exact .inr rfl)) (ap (b4 (i:=3) cm.nd rfl (by first | exact Or.inl rfl | exact Or.inr rfl) (pU (fO aj)) rfl (by first | exact .inl rfl | exact .inr rfl)) (ap (gG (ck (ca (iv 0) ah rfl rfl) rfl) (gJ (bM (aF (i:=4) cm.nd rfl (by first | exact Or.inl rfl | exact Or.inr rfl)) (bM (aF (i:=5) cm.nd rfl (by first | exact Or.inl rfl | exact Or.inr rfl)) eS)) rfl rfl rfl rfl rfl) (aw (mX (xc (iv 3) (aa (bp (gm (d9 (ae bn).names ["one","other","kind","parts","term","number"] ["second","times","kind","term","number"] 2 [2,4,5] rfl rfl rfl (by decide +kernel)) rfl (by decide) (ck (ca (iv 1) ah rfl rfl) rfl) (λ_ _ _ _ _=>(gJ (bM (aF (i:=0) (show List.Nodup (α:=Str) ["second","times","kind","term","number"] by decide +kernel) rfl (by first | exact Or.inl rfl | exact Or.inr rfl)) (bM (aF (i:=1) (show List.Nodup (α:=Str) ["second","times","kind","term","number"] by decide +kernel) rfl (by first | exact Or.inl rfl | exact Or.inr rfl)) eS)) rfl rfl rfl rfl rfl)) (λ_ _ _ _ _=>dM) (λ_ _ _ _ _=>(fz (aa (aE (tT T) (by decide) hr rfl T.m_joined T.F_joined.kp T.b_joined (aa (iv 2) (aa (iv 3) (aa (iv 0) aj rfl) rfl) rfl) (by decide) rfl rfl) (aa (aO (dW rfl) (iv 4) (iv 1)) aj rfl) rfl))) (λ_=>rfl))) aj rfl) rfl rfl (by decide) rfl rfl) rfl)) PassesOwn.never rfl (λ_=>rfl)) (aw (bq (aE (je T) (by decide) hr rfl T.m_gathered T.F_gathered.kp T.b_gathered (aa (iv 2) (aa (iv 3) aj rfl) rfl) (by decide) rfl rfl))))))
theorem lP (T:Txt K mg t):bE P w K mg base CX0 3 t.f_product_of t.fd_product_of ["one","other"] (spI K m_product_of):=
 show bE P w K mg base CX0 3 t.f_product_of t.fd_product_of ["one","other"] (spI K (jd (List.length (α:=Str) ["one","other","kind","parts","term","number"]) (List.length (α:=Str) ["one","other"]) b_product_of)) from xa (N:=["one","other","kind","parts","term","number"]) (ps:=["one","other"]) (b:=b_product_of) T.F_product_of cm (λcdv A outer s H E hr=>jy T cdv A outer s H E hr)
theorem p5 (T:Txt K mg t) (cdv:Value) (A:Around) (outer:List Env) (s:Shared) (H:Hp) (E:XK) (hr:bu (2) (A.deeper (PyProof.Rows.envOfC "often" (ae cT) s.heap.objs.size t.f_often cdv))):ISs K (de CX0 P w K mg base ["poly","number"] "often" (ae cT) t.f_often cdv A outer s H E).nox (aq cT) b_often:=
 (aw (bq (aE (je T) (by decide) hr rfl T.m_gathered T.F_gathered.kp T.b_gathered (aa (ca (iv 0) ah rfl rfl) (aa (bp (gm (d9 (ae cT).names ["poly","number"] ["term","times","number"] 2 [1] rfl rfl rfl (by decide +kernel)) rfl (by decide) (ck (ca (iv 0) ah rfl rfl) rfl) (λ_ _ _ _ _=>(gJ (bM (aF (i:=0) (show List.Nodup (α:=Str) ["term","times","number"] by decide +kernel) rfl (by first | exact Or.inl rfl | exact Or.inr rfl)) (bM (aF (i:=1) (show List.Nodup (α:=Str) ["term","times","number"] by decide +kernel) rfl (by first | exact Or.inl rfl | exact Or.inr rfl)) eS)) rfl rfl rfl rfl rfl)) (λ_ _ _ _ _=>dM) (λ_ _ _ _ _=>(fz (aa (iv 0) (aa (aO (dW rfl) (iv 2) (iv 1)) aj rfl) rfl))) (λ_=>rfl))) aj rfl) rfl) (by decide) rfl rfl)))
theorem vA (T:Txt K mg t):bE P w K mg base CX0 3 t.f_often t.fd_often ["poly","number"] (spI K m_often):=
 show bE P w K mg base CX0 3 t.f_often t.fd_often ["poly","number"] (spI K (ce (List.length (α:=Str) ["poly","number"]) (List.length (α:=Str) ["poly","number"]) b_often)) from iW (N:=["poly","number"]) (ps:=["poly","number"]) (b:=b_often) T.F_often vR (λcdv A outer s H E hr=>p5 T cdv A outer s H E hr)
theorem qI (T:Txt K mg t) (cdv:Value) (A:Around) (outer:List Env) (s:Shared) (H:Hp) (E:XK) (hr:bu (0) (A.deeper (PyProof.Rows.envOfC "moved" (ae cI) s.heap.objs.size t.f_moved cdv))):ISs K (de CX0 P w K mg base ["poly","by"] "moved" (ae cI) t.f_moved cdv A outer s H E).nox (aq cI) b_moved:=
 (aw (bq (fz (aa (ca (iv 0) ah rfl rfl) (aa (jq (gI rfl) rfl T.z_tuple PyProof.Rows.boot_tuple (aa (bp (gm (d9 (ae cI).names ["poly","by"] ["term","number","by"] 2 [1] rfl rfl rfl (by decide +kernel)) rfl (by decide) (ck (ca (iv 0) ah rfl rfl) rfl) (λ_ _ _ _ _=>(gJ (bM (aF (i:=0) (show List.Nodup (α:=Str) ["term","number","by"] by decide +kernel) rfl (by first | exact Or.inl rfl | exact Or.inr rfl)) (bM (aF (i:=1) (show List.Nodup (α:=Str) ["term","number","by"] by decide +kernel) rfl (by first | exact Or.inl rfl | exact Or.inr rfl)) eS)) rfl rfl rfl rfl rfl)) (λ_ _ _ _ _=>dM) (λ_ _ _ _ _=>(fz (aa (jq (gI rfl) rfl T.z_tuple PyProof.Rows.boot_tuple (aa (bp (gm (d9 _ ["term","number","by"] ["k","by"] 1 [2] (rp (ns:=(ae cI).names) rfl rfl) rfl rfl (by decide +kernel)) rfl (by decide) (ck (iv 0) rfl) (λ_ _ _ _ _=>(b5 (aF (i:=0) (show List.Nodup (α:=Str) ["k","by"] by decide +kernel) rfl (by first | exact Or.inl rfl | exact Or.inr rfl)))) (λ_ _ _ _ _=>dM) (λ_ _ _ _ _=>(aO (d7 rfl) (iv 0) (iv 1))) (λ_=>rfl))) aj rfl) (by decide) (by decide) rfl rfl) (aa (iv 1) aj rfl) rfl))) (λ_=>rfl))) aj rfl) (by decide) (by decide) rfl rfl) aj rfl) rfl))))
theorem wf (T:Txt K mg t):bE P w K mg base CX0 1 t.f_moved t.fd_moved ["poly","by"] (spI K m_moved):=
 show bE P w K mg base CX0 1 t.f_moved t.fd_moved ["poly","by"] (spI K (ce (List.length (α:=Str) ["poly","by"]) (List.length (α:=Str) ["poly","by"]) b_moved)) from iW (N:=["poly","by"]) (ps:=["poly","by"]) (b:=b_moved) T.F_moved vS (λcdv A outer s H E hr=>qI T cdv A outer s H E hr)
theorem iX (T:Txt K mg t) (cdv:Value) (A:Around) (outer:List Env) (s:Shared) (H:Hp) (E:XK) (hr:bu (3) (A.deeper (PyProof.Rows.envOfC "unlike_poly" (ae bh) s.heap.objs.size t.f_unlike_poly cdv))):ISs K (de CX0 P w K mg base ["n","one","other"] "unlike_poly" (ae bh) t.f_unlike_poly cdv A outer s H E).nox (aq bh) b_unlike_poly:=
 (aw (bq (aE (vA T) (by decide) hr rfl T.m_often T.F_often.kp T.b_often (aa (aE (lP T) (by decide) hr rfl T.m_product_of T.F_product_of.kp T.b_product_of (aa (iv 1) (aa (aE (wf T) (by decide) hr rfl T.m_moved T.F_moved.kp T.b_moved (aa (iv 2) (aa (iv 0) aj rfl) rfl) (by decide) rfl rfl) aj rfl) rfl) (by decide) rfl rfl) (aa (nQ ah) aj rfl) rfl) (by decide) rfl rfl)))
theorem fQ (T:Txt K mg t):bE P w K mg base CX0 4 t.f_unlike_poly t.fd_unlike_poly ["n","one","other"] (spI K m_unlike_poly):=
 show bE P w K mg base CX0 4 t.f_unlike_poly t.fd_unlike_poly ["n","one","other"] (spI K (ce (List.length (α:=Str) ["n","one","other"]) (List.length (α:=Str) ["n","one","other"]) b_unlike_poly)) from iW (N:=["n","one","other"]) (ps:=["n","one","other"]) (b:=b_unlike_poly) T.F_unlike_poly lh (λcdv A outer s H E hr=>iX T cdv A outer s H E hr)
theorem jv (T:Txt K mg t) (cdv:Value) (A:Around) (outer:List Env) (s:Shared) (H:Hp) (E:XK) (hr:bu (0) (A.deeper (PyProof.Rows.envOfC "_law_spool" (ae bi) s.heap.objs.size t.f__law_spool cdv))):ISs K (de CX0 P w K mg base ["_law_script","_law_seed","_law_cell"] "_law_spool" (ae bi) t.f__law_spool cdv A outer s H E).nox (aq bi) b__law_spool:=
 (ap (b4 (i:=1) cR.nd rfl (by first | exact Or.inl rfl | exact Or.inr rfl) (aO (d7 rfl) (cJ (iP rfl) rfl T.z_len PySem.boot_len (aa (iv 0) aj rfl) (by decide) (by decide) rfl rfl) ah) rfl (by first | exact .inl rfl | exact .inr rfl)) (ap (gG (ck (yi (iv 0) sq (sk ah) rfl) rfl) (b5 (aF (i:=2) cR.nd rfl (by first | exact Or.inl rfl | exact Or.inr rfl))) (aw (b4 (i:=1) cR.nd rfl (by first | exact Or.inl rfl | exact Or.inr rfl) (aO gP (aO (d7 rfl) (aO (dW rfl) (iv 1) ah) (iv 2)) ah) rfl (by first | exact .inl rfl | exact .inr rfl))) PassesOwn.never rfl (λ_=>rfl)) (aw (bq (wL (aa (pU (gm (d9 (ae bi).names ["_law_script","_law_seed","_law_cell"] ["_law_cell"] 1 [] rfl rfl rfl (by decide +kernel)) rfl (by decide) (ck (yi (iv 0) sq (sk ah) rfl) rfl) (λ_ _ _ _ _=>(b5 (aF (i:=0) (show List.Nodup (α:=Str) ["_law_cell"] by decide +kernel) rfl (by first | exact Or.inl rfl | exact Or.inr rfl)))) (λ_ _ _ _ _=>(gT (bU AE (cJ u8 rfl T.z_abs PyProof.Rows.boot_abs (aa (iv 0) aj rfl) (by decide) (by decide) rfl rfl) (aO vE ah ah) (bS _)))) (λ_ _ _ _ _=>(cJ u8 rfl T.z_abs PyProof.Rows.boot_abs (aa (iv 0) aj rfl) (by decide) (by decide) rfl rfl)) (λ_=>rfl))) (aa (iv 1) (aa ah aj rfl) rfl) rfl))))))
theorem lG (T:Txt K mg t):bE P w K mg base CX0 1 t.f__law_spool t.fd__law_spool ["_law_script"] (spI K m__law_spool):=
 show bE P w K mg base CX0 1 t.f__law_spool t.fd__law_spool ["_law_script"] (spI K (ce (List.length (α:=Str) ["_law_script","_law_seed","_law_cell"]) (List.length (α:=Str) ["_law_script"]) b__law_spool)) from iW (N:=["_law_script","_law_seed","_law_cell"]) (ps:=["_law_script"]) (b:=b__law_spool) T.F__law_spool cR (λcdv A outer s H E hr=>jv T cdv A outer s H E hr)
theorem kg (T:Txt K mg t) (cdv:Value) (A:Around) (outer:List Env) (s:Shared) (H:Hp) (E:XK) (hr:bu (0) (A.deeper (PyProof.Rows.envOfC "_law_take" (ae bG) s.heap.objs.size t.f__law_take cdv))):ISs K (de CX0 P w K mg base ["_law_spool_here","_law_many","_law_digit","_law_once","_law_twice"] "_law_take" (ae bG) t.f__law_take cdv A outer s H E).nox (aq bG) b__law_take:=
 (ap (vK 1000000000000000000000000000000 (jX (xS (bU (ji hr rfl) (di (iv 0) ah rfl rfl) (bp (fO aj)) (bS _)) (vZ (bU (iD hr rfl) (ca (di (iv 0) ah rfl rfl) ah rfl rfl) ah (bS _))))) (aw (mX (zK (di (iv 0) ah rfl rfl) (aa ah aj rfl) rfl rfl (by decide) rfl rfl) rfl)) PassesOwn.never) (ap (gw (bU (ji hr rfl) (di (iv 0) ah rfl rfl) (bp (fO aj)) (bS _)) (ap (b4 (i:=2) dm.nd rfl (by first | exact Or.inl rfl | exact Or.inr rfl) (aO gP (ca (di (iv 0) ah rfl rfl) ah rfl rfl) (iv 1)) rfl (by first | exact .inl rfl | exact .inr rfl)) (ap (uF (di (iv 0) ah rfl rfl) ah (aO mR (ca (di (iv 0) ah rfl rfl) ah rfl rfl) (iv 1)) rfl rfl rfl) (aw (bq (iv 2))))) cS) (ap (tR (iv 0) ah (aO (d7 rfl) (di (iv 0) ah rfl rfl) ah) rfl rfl rfl) (ap (b4 (i:=3) dm.nd rfl (by first | exact Or.inl rfl | exact Or.inr rfl) (aO gP (aO (dW rfl) (aO (d7 rfl) (di (iv 0) ah rfl rfl) (aO (dW rfl) ah (di (iv 0) ah rfl rfl))) ah) ah) rfl (by first | exact .inl rfl | exact .inr rfl)) (ap (b4 (i:=4) dm.nd rfl (by first | exact Or.inl rfl | exact Or.inr rfl) (aO gP (aO (dW rfl) (iv 3) (aO (d7 rfl) (aO (d7 rfl) (aO mR (iv 3) ah) (aO (dW rfl) (di (iv 0) ah rfl rfl) (di (iv 0) ah rfl rfl))) ah)) ah) rfl (by first | exact .inl rfl | exact .inr rfl)) (aw (bq (aO gP (aO mR (iv 4) ah) (iv 1)))))))))
theorem bJ (T:Txt K mg t):bE P w K mg base CX0 1 t.f__law_take t.fd__law_take ["_law_spool_here","_law_many"] (spI K m__law_take):=
 show bE P w K mg base CX0 1 t.f__law_take t.fd__law_take ["_law_spool_here","_law_many"] (spI K (ce (List.length (α:=Str) ["_law_spool_here","_law_many","_law_digit","_law_once","_law_twice"]) (List.length (α:=Str) ["_law_spool_here","_law_many"]) b__law_take)) from iW (N:=["_law_spool_here","_law_many","_law_digit","_law_once","_law_twice"]) (ps:=["_law_spool_here","_law_many"]) (b:=b__law_take) T.F__law_take dm (λcdv A outer s H E hr=>kg T cdv A outer s H E hr)
theorem lv (T:Txt K mg t) (cdv:Value) (A:Around) (outer:List Env) (s:Shared) (H:Hp) (E:XK) (hr:bu (0) (A.deeper (PyProof.Rows.envOfC "_law_term" (ae bA) s.heap.objs.size t.f__law_term cdv))):ISs K (de CX0 P w K mg base ["_law_kind","_law_term_here","_law_row","_law_on"] "_law_term" (ae bA) t.f__law_term cdv A outer s H E).nox (aq bA) b__law_term:=
 (ap (b4 (i:=3) iA.nd rfl (by first | exact Or.inl rfl | exact Or.inr rfl) (cJ (iP rfl) rfl T.z_len PySem.boot_len (aa (bp (gm (d9 (ae bA).names ["_law_kind","_law_term_here","_law_row","_law_on"] ["_law_k","_law_row"] 1 [2] rfl rfl rfl (by decide +kernel)) rfl (by decide) (ck (iv 1) rfl) (λ_ _ _ _ _=>(b5 (aF (i:=0) (show List.Nodup (α:=Str) ["_law_k","_law_row"] by decide +kernel) rfl (by first | exact Or.inl rfl | exact Or.inr rfl)))) (λ_ _ _ _ _=>(gT (bU (iD hr rfl) (aO vV (aO qB (iv 1) (iv 0)) ah) ah (bS _)))) (λ_ _ _ _ _=>(iv 0)) (λ_=>rfl))) aj rfl) (by decide) (by decide) rfl rfl) rfl (by first | exact .inl rfl | exact .inr rfl)) (aw (bq (AZ (bU (iD hr rfl) (iv 0) nK (bS _)) (jq zn rfl T.z_int PyProof.Rows.boot_int (aa (vW (iD hr rfl) (iv 3) (cJ (iP rfl) rfl T.z_len PySem.boot_len (aa (iv 1) aj rfl) (by decide) (by decide) rfl rfl) (bS _)) aj rfl) (by decide) (by decide) rfl rfl) (aO nB ah (aO (dW rfl) ah (aO gP (iv 3) ah)))))))
theorem nF (T:Txt K mg t):bE P w K mg base CX0 1 t.f__law_term t.fd__law_term ["_law_kind","_law_term_here","_law_row"] (spI K m__law_term):=
 show bE P w K mg base CX0 1 t.f__law_term t.fd__law_term ["_law_kind","_law_term_here","_law_row"] (spI K (ce (List.length (α:=Str) ["_law_kind","_law_term_here","_law_row","_law_on"]) (List.length (α:=Str) ["_law_kind","_law_term_here","_law_row"]) b__law_term)) from iW (N:=["_law_kind","_law_term_here","_law_row","_law_on"]) (ps:=["_law_kind","_law_term_here","_law_row"]) (b:=b__law_term) T.F__law_term iA (λcdv A outer s H E hr=>lv T cdv A outer s H E hr)
theorem jE (T:Txt K mg t) (cdv:Value) (A:Around) (outer:List Env) (s:Shared) (H:Hp) (E:XK) (hr:bu (1) (A.deeper (PyProof.Rows.envOfC "_law_value" (ae bj) s.heap.objs.size t.f__law_value cdv))):ISs K (de CX0 P w K mg base ["_law_poly_here","_law_row"] "_law_value" (ae bj) t.f__law_value cdv A outer s H E).nox (aq bj) b__law_value:=
 (aw (bq (cJ (yQ rfl rfl) rfl T.z_sum PyProof.Rows.boot_sum (aa (bp (gm (d9 (ae bj).names ["_law_poly_here","_law_row"] ["_law_term_here","_law_number","_law_poly_here","_law_row"] 2 [0,1] rfl rfl rfl (by decide +kernel)) rfl (by decide) (ck (ca (iv 0) ah rfl rfl) rfl) (λ_ _ _ _ _=>(gJ (bM (aF (i:=0) (show List.Nodup (α:=Str) ["_law_term_here","_law_number","_law_poly_here","_law_row"] by decide +kernel) rfl (by first | exact Or.inl rfl | exact Or.inr rfl)) (bM (aF (i:=1) (show List.Nodup (α:=Str) ["_law_term_here","_law_number","_law_poly_here","_law_row"] by decide +kernel) rfl (by first | exact Or.inl rfl | exact Or.inr rfl)) eS)) rfl rfl rfl rfl rfl)) (λ_ _ _ _ _=>dM) (λ_ _ _ _ _=>(aO (dW rfl) (iv 1) (aE (nF T) (by decide) hr rfl T.m__law_term T.F__law_term.kp T.b__law_term (aa (ca (iv 2) ah rfl rfl) (aa (iv 0) (aa (iv 3) aj rfl) rfl) rfl) (by decide) rfl rfl))) (λ_=>rfl))) aj rfl) (by decide) (by decide) rfl rfl)))
theorem dS (T:Txt K mg t):bE P w K mg base CX0 2 t.f__law_value t.fd__law_value ["_law_poly_here","_law_row"] (spI K m__law_value):=
 show bE P w K mg base CX0 2 t.f__law_value t.fd__law_value ["_law_poly_here","_law_row"] (spI K (ce (List.length (α:=Str) ["_law_poly_here","_law_row"]) (List.length (α:=Str) ["_law_poly_here","_law_row"]) b__law_value)) from iW (N:=["_law_poly_here","_law_row"]) (ps:=["_law_poly_here","_law_row"]) (b:=b__law_value) T.F__law_value lF (λcdv A outer s H E hr=>jE T cdv A outer s H E hr)
theorem jz (T:Txt K mg t) (cdv:Value) (A:Around) (outer:List Env) (s:Shared) (H:Hp) (E:XK) (hr:bu (0) (A.deeper (PyProof.Rows.envOfC "_law_terms" (ae aT) s.heap.objs.size t.f__law_terms cdv))):ISs K (de CX0 P w K mg base ["_law_n","_law_size","_law_every"] "_law_terms" (ae aT) t.f__law_terms cdv A outer s H E).nox (aq aT) b__law_terms:=
 (ap (And.left (uV (i0:=2) gA.nd rfl (by first | exact Or.inl rfl | exact Or.inr rfl) (d9 (ae aT).names ["_law_n","_law_size","_law_every"] ["_law_at","_law_n"] 1 [0] rfl rfl rfl (by decide +kernel)) rfl (by decide) (jN rfl T.z_range (aa (aO qG ah (iv 0)) aj rfl) rfl) (λ_ _ _ _ _=>(b5 (aF (i:=0) (show List.Nodup (α:=Str) ["_law_at","_law_n"] by decide +kernel) rfl (by first | exact Or.inl rfl | exact Or.inr rfl)))) (λ_ _ _ _ _=>dM) (λ_ _ _ _ _=>(jq (gI rfl) rfl T.z_tuple PyProof.Rows.boot_tuple (aa (bp (gm (d9 _ ["_law_at","_law_n"] ["_law_k","_law_at"] 1 [0] (rp (ns:=(ae aT).names) rfl rfl) rfl rfl (by decide +kernel)) rfl (by decide) (jN rfl T.z_range (aa (iv 1) aj rfl) rfl) (λ_ _ _ _ _=>(b5 (aF (i:=0) (show List.Nodup (α:=Str) ["_law_k","_law_at"] by decide +kernel) rfl (by first | exact Or.inl rfl | exact Or.inr rfl)))) (λ_ _ _ _ _=>(gT (bU (iD hr rfl) (aO vV (aO qB (iv 1) (iv 0)) ah) ah (bS _)))) (λ_ _ _ _ _=>(iv 0)) (λ_=>rfl))) aj rfl) (by decide) (by decide) rfl rfl)) rfl (by first | exact .inl rfl | exact .inr rfl) (λ_=>rfl))) (aw (bq (bp (Bh (uH hr rfl) rfl T.z_sorted PyProof.Rows.boot_sorted (aa (bp (gm (d9 (ae aT).names ["_law_n","_law_size","_law_every"] ["_law_term_here","_law_size"] 1 [1] rfl rfl rfl (by decide +kernel)) rfl (by decide) (ck (iv 2) rfl) (λ_ _ _ _ _=>(b5 (aF (i:=0) (show List.Nodup (α:=Str) ["_law_term_here","_law_size"] by decide +kernel) rfl (by first | exact Or.inl rfl | exact Or.inr rfl)))) (λ_ _ _ _ _=>(gT (bU AF (cJ (iP rfl) rfl T.z_len PySem.boot_len (aa (iv 0) aj rfl) (by decide) (by decide) rfl rfl) (iv 1) (bS _)))) (λ_ _ _ _ _=>(iv 0)) (λ_=>rfl))) aj rfl) (by decide) (by decide) rfl rfl)))))
theorem gp (T:Txt K mg t):bE P w K mg base CX0 1 t.f__law_terms t.fd__law_terms ["_law_n","_law_size"] (spI K m__law_terms):=
 show bE P w K mg base CX0 1 t.f__law_terms t.fd__law_terms ["_law_n","_law_size"] (spI K (ce (List.length (α:=Str) ["_law_n","_law_size","_law_every"]) (List.length (α:=Str) ["_law_n","_law_size"]) b__law_terms)) from iW (N:=["_law_n","_law_size","_law_every"]) (ps:=["_law_n","_law_size"]) (b:=b__law_terms) T.F__law_terms gA (λcdv A outer s H E hr=>jz T cdv A outer s H E hr)
theorem ii (T:Txt K mg t) (cdv:Value) (A:Around) (outer:List Env) (s:Shared) (H:Hp) (E:XK) (hr:bu (1) (A.deeper (PyProof.Rows.envOfC "_law_is_poly" (ae aG) s.heap.objs.size t.f__law_is_poly cdv))):ISs K (de CX0 P w K mg base ["_law_thing","_law_kind","_law_n","_law_every","_law_part","_law_terms_here"] "_law_is_poly" (ae aG) t.f__law_is_poly cdv A outer s H E).nox (aq aG) b__law_is_poly:=
 (ap (gw (jX (fA (i9 (gR (cJ (j7 rfl) rfl T.z_isinstance PyProof.Rows.boot_isinstance (aa (iv 0) (aa (om rfl T.z_tuple PyProof.Rows.boot_tuple (by decide) (by decide)) aj rfl) rfl) (by decide) (by decide) rfl rfl) rfl rfl)) (fA (bU (ji hr rfl) (cJ (iP rfl) rfl T.z_len PySem.boot_len (aa (iv 0) aj rfl) (by decide) (by decide) rfl rfl) ah (bS _)) (fA (bU (ji hr rfl) (ca (iv 0) ah rfl rfl) (iv 1) (bS _)) (jM (i9 (gR (cJ (j7 rfl) rfl T.z_isinstance PyProof.Rows.boot_isinstance (aa (ca (iv 0) ah rfl rfl) (aa (om rfl T.z_tuple PyProof.Rows.boot_tuple (by decide) (by decide)) aj rfl) rfl) (by decide) (by decide) rfl rfl) rfl rfl))))))) (aw (bq jt)) cS) (ap (And.left (uV (i0:=3) cn.nd rfl (by first | exact Or.inl rfl | exact Or.inr rfl) (d9 (ae aG).names ["_law_thing","_law_kind","_law_n","_law_every","_law_part","_law_terms_here"] ["_law_term_here"] 1 [] rfl rfl rfl (by decide +kernel)) rfl (by decide) (ck (aE (gp T) (by decide) hr rfl T.m__law_terms T.F__law_terms.kp T.b__law_terms (aa (iv 2) (aa (iv 2) aj rfl) rfl) (by decide) rfl rfl) rfl) (λ_ _ _ _ _=>(b5 (aF (i:=0) (show List.Nodup (α:=Str) ["_law_term_here"] by decide +kernel) rfl (by first | exact Or.inl rfl | exact Or.inr rfl)))) (λ_ _ _ _ _=>dM) (λ_ _ _ _ _=>(cJ (iz hr rfl) rfl T.z_repr PyProof.Rows.boot_repr (aa (iv 0) aj rfl) (by decide) (by decide) rfl rfl)) rfl (by first | exact .inl rfl | exact .inr rfl) (λ_=>rfl))) (ap (gG (ck (ca (iv 0) ah rfl rfl) rfl) (b5 (aF (i:=4) cn.nd rfl (by first | exact Or.inl rfl | exact Or.inr rfl))) (ap (gw (jX (fA (i9 (gR (cJ (j7 rfl) rfl T.z_isinstance PyProof.Rows.boot_isinstance (aa (iv 4) (aa (om rfl T.z_tuple PyProof.Rows.boot_tuple (by decide) (by decide)) aj rfl) rfl) (by decide) (by decide) rfl rfl) rfl rfl)) (fA (bU (ji hr rfl) (cJ (iP rfl) rfl T.z_len PySem.boot_len (aa (iv 4) aj rfl) (by decide) (by decide) rfl rfl) ah (bS _)) (jM (bU (vh rfl) (cJ (iz hr rfl) rfl T.z_repr PyProof.Rows.boot_repr (aa (ca (iv 4) ah rfl rfl) aj rfl) (by decide) (by decide) rfl rfl) (iv 3) rfl))))) (aw (bq jt)) cS) (aw (gw (jX (fA (i9 (gR (cJ (j7 rfl) rfl T.z_isinstance PyProof.Rows.boot_isinstance (aa (ca (iv 4) ah rfl rfl) (aa (om rfl T.z_int PyProof.Rows.boot_int (by decide) (by decide)) aj rfl) rfl) (by decide) (by decide) rfl rfl) rfl rfl)) (fA (gR (cJ (j7 rfl) rfl T.z_isinstance PyProof.Rows.boot_isinstance (aa (ca (iv 4) ah rfl rfl) (aa (om rfl T.z_bool PyProof.Rows.boot_bool (by decide) (by decide)) aj rfl) rfl) (by decide) (by decide) rfl rfl) rfl rfl) (jM (bU (iD hr rfl) (ca (iv 4) ah rfl rfl) ah (bS _)))))) (aw (bq jt)) cS))) PassesOwn.never rfl (λ_=>rfl)) (ap (And.left (uV (i0:=5) cn.nd rfl (by first | exact Or.inl rfl | exact Or.inr rfl) (d9 (ae aG).names ["_law_thing","_law_kind","_law_n","_law_every","_law_part","_law_terms_here"] ["_law_part"] 1 [] rfl rfl rfl (by decide +kernel)) rfl (by decide) (ck (ca (iv 0) ah rfl rfl) rfl) (λ_ _ _ _ _=>(b5 (aF (i:=0) (show List.Nodup (α:=Str) ["_law_part"] by decide +kernel) rfl (by first | exact Or.inl rfl | exact Or.inr rfl)))) (λ_ _ _ _ _=>dM) (λ_ _ _ _ _=>(ca (iv 0) ah rfl rfl)) rfl (by first | exact .inl rfl | exact .inr rfl) (λ_=>rfl))) (aw (bq (vW (iD hr rfl) (iv 5) (bp (uT hr rfl T.z_sorted rfl T.z_set (iv 5) rfl rfl rfl)) (bS _))))))))
theorem jH (T:Txt K mg t):bE P w K mg base CX0 2 t.f__law_is_poly t.fd__law_is_poly ["_law_thing","_law_kind","_law_n"] (spI K m__law_is_poly):=
 show bE P w K mg base CX0 2 t.f__law_is_poly t.fd__law_is_poly ["_law_thing","_law_kind","_law_n"] (spI K (ce (List.length (α:=Str) ["_law_thing","_law_kind","_law_n","_law_every","_law_part","_law_terms_here"]) (List.length (α:=Str) ["_law_thing","_law_kind","_law_n"]) b__law_is_poly)) from iW (N:=["_law_thing","_law_kind","_law_n","_law_every","_law_part","_law_terms_here"]) (ps:=["_law_thing","_law_kind","_law_n"]) (b:=b__law_is_poly) T.F__law_is_poly cn (λcdv A outer s H E hr=>ii T cdv A outer s H E hr)
theorem kP (T:Txt K mg t) (cdv:Value) (A:Around) (outer:List Env) (s:Shared) (H:Hp) (E:XK) (hr:bu (1) (A.deeper (PyProof.Rows.envOfC "_law_poly" (ae bL) s.heap.objs.size t.f__law_poly cdv))):ISs K (de CX0 P w K mg base ["_law_spool_here","_law_kind","_law_n","_law_parts","_law_term_here","_law_number"] "_law_poly" (ae bL) t.f__law_poly cdv A outer s H E).nox (aq bL) b__law_poly:=
 (ap (b4 (i:=3) dj.nd rfl (by first | exact Or.inl rfl | exact Or.inr rfl) (pU (fO aj)) rfl (by first | exact .inl rfl | exact .inr rfl)) (ap (gG (ck (aE (gp T) (by decide) hr rfl T.m__law_terms T.F__law_terms.kp T.b__law_terms (aa (iv 2) (aa (iv 2) aj rfl) rfl) (by decide) rfl rfl) rfl) (b5 (aF (i:=4) dj.nd rfl (by first | exact Or.inl rfl | exact Or.inr rfl))) (ap (b4 (i:=5) dj.nd rfl (by first | exact Or.inl rfl | exact Or.inr rfl) (ca (bp (fO (aa ah (aa (nQ ah) (aa ah (aa (nQ ah) (aa ah (aa (nQ ah) (aa ah (aa (aO nB (aO vE ah ah) (aE (bJ T) (by decide) hr rfl T.m__law_take T.F__law_take.kp T.b__law_take (aa (iv 0) (aa ah aj rfl) rfl) (by decide) rfl rfl)) aj rfl) rfl) rfl) rfl) rfl) rfl) rfl) rfl))) (aE (bJ T) (by decide) hr rfl T.m__law_take T.F__law_take.kp T.b__law_take (aa (iv 0) (aa ah aj rfl) rfl) (by decide) rfl rfl) rfl rfl) rfl (by first | exact .inl rfl | exact .inr rfl)) (aw (gw (bU AH (aE (bJ T) (by decide) hr rfl T.m__law_take T.F__law_take.kp T.b__law_take (aa (iv 0) (aa ah aj rfl) rfl) (by decide) rfl rfl) ah (bS _)) (aw (mX (tE (iv 3) (aa (fz (aa (iv 4) (aa (iv 5) aj rfl) rfl)) aj rfl) rfl rfl (by decide) rfl rfl) rfl)) cS))) PassesOwn.never rfl (λ_=>rfl)) (aw (bq (fz (aa (iv 1) (aa (jq (gI rfl) rfl T.z_tuple PyProof.Rows.boot_tuple (aa (iv 3) aj rfl) (by decide) (by decide) rfl rfl) aj rfl) rfl))))))
theorem gS (T:Txt K mg t):bE P w K mg base CX0 2 t.f__law_poly t.fd__law_poly ["_law_spool_here","_law_kind","_law_n"] (spI K m__law_poly):=
 show bE P w K mg base CX0 2 t.f__law_poly t.fd__law_poly ["_law_spool_here","_law_kind","_law_n"] (spI K (jd (List.length (α:=Str) ["_law_spool_here","_law_kind","_law_n","_law_parts","_law_term_here","_law_number"]) (List.length (α:=Str) ["_law_spool_here","_law_kind","_law_n"]) b__law_poly)) from xa (N:=["_law_spool_here","_law_kind","_law_n","_law_parts","_law_term_here","_law_number"]) (ps:=["_law_spool_here","_law_kind","_law_n"]) (b:=b__law_poly) T.F__law_poly dj (λcdv A outer s H E hr=>kP T cdv A outer s H E hr)
theorem jw (T:Txt K mg t) (cdv:Value) (A:Around) (outer:List Env) (s:Shared) (H:Hp) (E:XK) (hr:bu (1) (A.deeper (PyProof.Rows.envOfC "_law_sizes" (ae bz) s.heap.objs.size t.f__law_sizes cdv))):ISs K (de CX0 P w K mg base ["_law_spool_here","_law_found","_law_first"] "_law_sizes" (ae bz) t.f__law_sizes cdv A outer s H E).nox (aq bz) b__law_sizes:=
 (ap (b4 (i:=1) cU.nd rfl (by first | exact Or.inl rfl | exact Or.inr rfl) (bp (fO (aa (aE (bJ T) (by decide) hr rfl T.m__law_take T.F__law_take.kp T.b__law_take (aa (iv 0) (aa ah aj rfl) rfl) (by decide) rfl rfl) (aa (aE (bJ T) (by decide) hr rfl T.m__law_take T.F__law_take.kp T.b__law_take (aa (iv 0) (aa ah aj rfl) rfl) (by decide) rfl rfl) aj rfl) rfl))) rfl (by first | exact .inl rfl | exact .inr rfl)) (ap (gw (bU (iD hr rfl) (aE (bJ T) (by decide) hr rfl T.m__law_take T.F__law_take.kp T.b__law_take (aa (iv 0) (aa ah aj rfl) rfl) (by decide) rfl rfl) ah (bS _)) (ap (b4 (i:=2) cU.nd rfl (by first | exact Or.inl rfl | exact Or.inr rfl) (aE (bJ T) (by decide) hr rfl T.m__law_take T.F__law_take.kp T.b__law_take (aa (iv 0) (aa ah aj rfl) rfl) (by decide) rfl rfl) rfl (by first | exact .inl rfl | exact .inr rfl)) (aw (b4 (i:=1) cU.nd rfl (by first | exact Or.inl rfl | exact Or.inr rfl) (bp (fO (aa (iv 2) (aa (aO nB ah (iv 2)) aj rfl) rfl))) rfl (by first | exact .inl rfl | exact .inr rfl)))) cS) (aw (bq (iv 1)))))
theorem lL (T:Txt K mg t):bE P w K mg base CX0 2 t.f__law_sizes t.fd__law_sizes ["_law_spool_here"] (spI K m__law_sizes):=
 show bE P w K mg base CX0 2 t.f__law_sizes t.fd__law_sizes ["_law_spool_here"] (spI K (ce (List.length (α:=Str) ["_law_spool_here","_law_found","_law_first"]) (List.length (α:=Str) ["_law_spool_here"]) b__law_sizes)) from iW (N:=["_law_spool_here","_law_found","_law_first"]) (ps:=["_law_spool_here"]) (b:=b__law_sizes) T.F__law_sizes cU (λcdv A outer s H E hr=>jw T cdv A outer s H E hr)
theorem jI (T:Txt K mg t) (cdv:Value) (A:Around) (outer:List Env) (s:Shared) (H:Hp) (E:XK) (hr:bu (4) (A.deeper (PyProof.Rows.envOfC "_law_right" (ae bw) s.heap.objs.size t.f__law_right cdv))):ISs K (de CX0 P w K mg base ["_law_n","_law_m","_law_kind","_law_one","_law_other","_law_found","_law_at","_law_due"] "_law_right" (ae bw) t.f__law_right cdv A outer s H E).nox (aq bw) b__law_right:=
 (ap (b4 (i:=5) cV.nd rfl (by first | exact Or.inl rfl | exact Or.inr rfl) (aE (fQ T) (by decide) hr rfl T.m_unlike_poly T.F_unlike_poly.kp T.b_unlike_poly (aa (iv 0) (aa (iv 3) (aa (iv 4) aj rfl) rfl) rfl) (by decide) rfl rfl) rfl (by first | exact .inl rfl | exact .inr rfl)) (ap (gw (jX (fA (i9 (gR (aE (jH T) (by decide) hr rfl T.m__law_is_poly T.F__law_is_poly.kp T.b__law_is_poly (aa (iv 5) (aa (iv 2) (aa (aO (d7 rfl) (iv 0) (iv 1)) aj rfl) rfl) rfl) (by decide) rfl rfl) rfl rfl)) (jM (bU (ji hr rfl) (cJ (iz hr rfl) rfl T.z_repr PyProof.Rows.boot_repr (aa (aE (fQ T) (by decide) hr rfl T.m_unlike_poly T.F_unlike_poly.kp T.b_unlike_poly (aa (iv 0) (aa (iv 3) (aa (iv 4) aj rfl) rfl) rfl) (by decide) rfl rfl) aj rfl) (by decide) (by decide) rfl rfl) (cJ (iz hr rfl) rfl T.z_repr PyProof.Rows.boot_repr (aa (iv 5) aj rfl) (by decide) (by decide) rfl rfl) (bS _))))) (aw (bq jt)) cS) (ap (gG (jN rfl T.z_range (aa (aO qG ah (aO (d7 rfl) (iv 0) (iv 1))) aj rfl) rfl) (b5 (aF (i:=6) cV.nd rfl (by first | exact Or.inl rfl | exact Or.inr rfl))) (ap (b4 (i:=7) cV.nd rfl (by first | exact Or.inl rfl | exact Or.inr rfl) (aO nB ah (aO (dW rfl) (aE (dS T) (by decide) hr rfl T.m__law_value T.F__law_value.kp T.b__law_value (aa (iv 3) (aa (aO gP (iv 6) (aO qG ah (iv 0))) aj rfl) rfl) (by decide) rfl rfl) (aE (dS T) (by decide) hr rfl T.m__law_value T.F__law_value.kp T.b__law_value (aa (iv 4) (aa (aO qB (iv 6) (iv 0)) aj rfl) rfl) (by decide) rfl rfl))) rfl (by first | exact .inl rfl | exact .inr rfl)) (aw (gw (bU (ji hr rfl) (aE (dS T) (by decide) hr rfl T.m__law_value T.F__law_value.kp T.b__law_value (aa (iv 5) (aa (iv 6) aj rfl) rfl) (by decide) rfl rfl) (iv 7) (bS _)) (aw (bq jt)) cS))) PassesOwn.never rfl (λ_=>rfl)) (aw (bq jt)))))
theorem lH (T:Txt K mg t):bE P w K mg base CX0 5 t.f__law_right t.fd__law_right ["_law_n","_law_m","_law_kind","_law_one","_law_other"] (spI K m__law_right):=
 show bE P w K mg base CX0 5 t.f__law_right t.fd__law_right ["_law_n","_law_m","_law_kind","_law_one","_law_other"] (spI K (ce (List.length (α:=Str) ["_law_n","_law_m","_law_kind","_law_one","_law_other","_law_found","_law_at","_law_due"]) (List.length (α:=Str) ["_law_n","_law_m","_law_kind","_law_one","_law_other"]) b__law_right)) from iW (N:=["_law_n","_law_m","_law_kind","_law_one","_law_other","_law_found","_law_at","_law_due"]) (ps:=["_law_n","_law_m","_law_kind","_law_one","_law_other"]) (b:=b__law_right) T.F__law_right cV (λcdv A outer s H E hr=>jI T cdv A outer s H E hr)
theorem uf (T:Txt K mg t) (cdv:Value) (A:Around) (outer:List Env) (s:Shared) (H:Hp) (E:XK) (hr:bu (5) (A.deeper (PyProof.Rows.envOfC "law" (ae hU) s.heap.objs.size t.f_law cdv))):ISs K (de CX0 P w K mg base ["_law_script","_law_spool_here","_law_turn","_law_kind","_law_n","_law_m","_law_one","_law_other"] "law" (ae hU) t.f_law cdv A outer s H E).nox (aq hU) mG:=
 (ap (b4 (i:=1) gF.nd rfl (by first | exact Or.inl rfl | exact Or.inr rfl) (aE (lG T) (by decide) hr rfl T.m__law_spool T.F__law_spool.kp T.b__law_spool (aa (iv 0) aj rfl) (by decide) rfl rfl) rfl (by first | exact .inl rfl | exact .inr rfl)) (ap (gG (jN rfl T.z_range (aa ah aj rfl) rfl) (b5 (aF (i:=2) gF.nd rfl (by first | exact Or.inl rfl | exact Or.inr rfl))) (ap (b4 (i:=3) gF.nd rfl (by first | exact Or.inl rfl | exact Or.inr rfl) (ca (bp (fO (aa nK (aa nK aj rfl) rfl))) (aE (bJ T) (by decide) hr rfl T.m__law_take T.F__law_take.kp T.b__law_take (aa (iv 1) (aa ah aj rfl) rfl) (by decide) rfl rfl) rfl rfl) rfl (by first | exact .inl rfl | exact .inr rfl)) (ap (yR (aE (lL T) (by decide) hr rfl T.m__law_sizes T.F__law_sizes.kp T.b__law_sizes (aa (iv 1) aj rfl) (by decide) rfl rfl) (gJ (bM (aF (i:=4) gF.nd rfl (by first | exact Or.inl rfl | exact Or.inr rfl)) (bM (aF (i:=5) gF.nd rfl (by first | exact Or.inl rfl | exact Or.inr rfl)) eS)) rfl rfl rfl rfl rfl) rfl rfl rfl) (ap (xH (i:=6) (j:=7) (λ_ h=>yZ rfl gF.nd rfl rfl (by decide) rfl rfl h rfl) (aa (aE (gS T) (by decide) hr rfl T.m__law_poly T.F__law_poly.kp T.b__law_poly (aa (iv 1) (aa (iv 3) (aa (iv 4) aj rfl) rfl) rfl) (by decide) rfl rfl) (aa (aE (gS T) (by decide) hr rfl T.m__law_poly T.F__law_poly.kp T.b__law_poly (aa (iv 1) (aa (iv 3) (aa (iv 5) aj rfl) rfl) rfl) (by decide) rfl rfl) aj rfl) rfl)) (aw (gw (i9 (gR (aE (lH T) (by decide) hr rfl T.m__law_right T.F__law_right.kp T.b__law_right (aa (iv 4) (aa (iv 5) (aa (iv 3) (aa (iv 6) (aa (iv 7) aj rfl) rfl) rfl) rfl) rfl) (by decide) rfl rfl) rfl rfl)) (aw (bq jt)) cS))))) PassesOwn.never rfl (λ_=>rfl)) (aw (bq jt))))
theorem yD (T:Txt K mg t):bE P w K mg base CX0 6 t.f_law t.fd_law ["_law_script"] (spI K m_law):=
 show bE P w K mg base CX0 6 t.f_law t.fd_law ["_law_script"] (spI K (jd (List.length (α:=Str) ["_law_script","_law_spool_here","_law_turn","_law_kind","_law_n","_law_m","_law_one","_law_other"]) (List.length (α:=Str) ["_law_script"]) mG)) from xa (N:=["_law_script","_law_spool_here","_law_turn","_law_kind","_law_n","_law_m","_law_one","_law_other"]) (ps:=["_law_script"]) (b:=mG) T.F_law gF (λcdv A outer s H E hr=>uf T cdv A outer s H E hr)
end
end Own
end
namespace L2
open PySem
end L2
namespace L2
noncomputable def lC:Nat->List (List Int)
 | 0=>[[]]
 | n+1=>lC n++(lC n).map λt=>t++[(n:Int)]
noncomputable def cX (n:Nat):List (List Int):=aS (lC n)
theorem oJ:∀ n,(lC n).length=2 ^ n
 | 0=>rfl
 | n+1=>by rw [lC,List.length_append,List.length_map,oJ n,Nat.pow_succ];lia
theorem oK (n:Nat):(cX n).length=2 ^ n:=by rw [cX,(bf _).length_eq,oJ]
noncomputable def Trm (n:Nat) (t:List Int):Prop:=t.Pairwise (· < ·)/\∀ k ∈ t,0<=k/\k < n
theorem Trm.mono {n m:Nat}{t:List Int} (h:Trm n t) (hn:n<=m):Trm m t:=⟨h.1,λk hk=>⟨(h.2 k hk).1,by have:=(h.2 k hk).2;lia⟩⟩
theorem lu:∀ (n:Nat) {t:List Int},t ∈ lC n->Trm n t
 | 0,t,h=>by
  rw [lC,List.mem_singleton] at h
  subst h
  exact⟨List.Pairwise.nil,λk hk=>by cases hk⟩
 | n+1,t,h=>by
  rcases List.mem_append.mp h with h | h
  ·exact (lu n h).mono (Nat.le_succ n)
  ·obtain⟨u,hu,rfl⟩:=List.mem_map.mp h
   have:=lu n hu
   refine⟨List.pairwise_append.mpr ⟨this.1,List.pairwise_singleton _ _,λa ha b hb=>?_⟩,λk hk=>?_⟩
   ·rw [List.mem_singleton.mp hb];exact (this.2 a ha).2
   ·rcases List.mem_append.mp hk with hk | hk
    ·exact⟨(this.2 k hk).1,by have:=(this.2 k hk).2;lia⟩
    ·rw [List.mem_singleton.mp hk];lia
theorem nS {n:Nat}{t:List Int} (h:t ∈ cX n):Trm n t:=lu n ((bf _).mem_iff.mp h)
theorem jO {n:Nat}{t:List Int} (h:Trm n t):t.length<=n:=by
 have key:∀ (t:List Int) (a:Int),t.Pairwise (· < ·)->(∀ k ∈ t,a<=k/\k < n)->(t.length:Int)<=max 0 ((n:Int) - a):=by
  intro t
  induction t with
  | nil=>intro a _ _;simp;lia
  | cons x t ih=>
   intro a hp hm
   have h1:=hm x List.mem_cons_self
   have:=ih (x+1) (List.pairwise_cons.mp hp).2 λk hk=>⟨(List.pairwise_cons.mp hp).1 k hk,(hm k (List.mem_cons_of_mem _ hk)).2⟩
   rw [List.length_cons];push_cast;lia
 have:=key t 0 h.1 h.2
 lia
noncomputable def onI (row k:Int):Int:=row / 2 ^ k.toNat % 2
noncomputable def cf (row:Int):List Int->Int
 | []=>0
 | k::t=>onI row k+cf row t
theorem rN (row k:Int):onI row k=0\/onI row k=1:=by unfold onI;lia
theorem jk (row:Int):∀ t:List Int,((t.filter λk=>onI row k==1).length:Int)=cf row t
 | []=>rfl
 | k::t=>by
  rw [List.filter_cons]
  have ih:=jk row t
  rcases rN row k with e | e
  ·rw [e];simp only [cf,e];simpa using ih
  ·rw [e];simp only [cf,e,beq_self_eq_true,if_true,List.length_cons];push_cast;lia
theorem qZ (row:Int):∀ t:List Int,0<=cf row t/\cf row t<=t.length
 | []=>by simp [cf]
 | k::t=>by
  have ih:=qZ row t
  rcases rN row k with e | e<;>(simp only [cf,e,List.length_cons];push_cast;lia)
theorem qg:∀ (ls:List (List Int)),pF (ls.map ai)=some ((aS ls).map ai)
 | []=>rfl
 | t::r=>by
  have e:aH ((t::r).map ai)=none:=rfl
  unfold pF
  rw [e,gE];rfl
end L2
namespace L2
end L2
namespace L2
open PySem
abbrev Prt:=List Int×Int
noncomputable def al (p:Prt):D:=.tup [ai p.1,.int p.2]
noncomputable def ar (kd:Str) (ps:List Prt):D:=.tup [.str kd,.tup (ps.map al)]
theorem mE {ps:List Prt}{i:Nat}{d:D} (h:(ps.map al)[i]?=some d):∃ p,ps[i]?=some p/\d=.tup [ai p.1,.int p.2]:=by
 rw [List.getElem?_map,Option.map_eq_some_iff] at h
 obtain⟨p,hp,rfl⟩:=h
 exact⟨p,hp,rfl⟩
theorem fT {te:Ef}{env:Ev}{st:Sto} (F:Prt->D):∀ {ps:List Prt},(∀ p ∈ ps,∃ e1,d8 (.tp [0,1]) (.d (al p)) env=some e1/\te e1 st=some (.d (F p),st))->lcI (.tp [0,1]) dX te env (ps.map al) st=some (ps.map F,st)
 | [],_=>rfl
 | p::ps,h=>by
  obtain⟨e1,h1,h2⟩:=h p List.mem_cons_self
  have ih:=fT (te:=te) (env:=env) (st:=st) F (ps:=ps) λx hx=>h x (List.mem_cons_of_mem _ hx)
  rw [List.map_cons,List.map_cons]
  unfold lcI
  rw [h1,Option.bind_some,show dX e1 st=some (true,st) from rfl,Option.bind_some,if_pos rfl,h2,Option.bind_some,ih];rfl
end L2
namespace L2
open PySem
end L2
namespace L2
open PySem
theorem ax {g:Sto->W->W->Option D}{a b:Ef}{env:Ev}{st s1 s2:Sto}{x y:W}{d:D} (ha:a env st=some (x,s1)) (hb:b env s1=some (y,s2)) (hg:g s2 x y=some d):iOp g a b env st=some (.d d,s2):=by
 simp only [iOp,ha,hb,hg,Option.bind_some,Option.map_some]
theorem bH {g:Sto->W->W->Option D}{a b:Ef}{env:Ev}{st s1 s2:Sto}{x y:W}{k:Bool} (ha:a env st=some (x,s1)) (hb:b env s1=some (y,s2)) (hg:g s2 x y=some (.bl k)):bX g a b env st=some (k,s2):=by
 simp only [bX,ha,hb,hg,Option.bind_some,mY,Option.map_some]
theorem aC {a b:Sf}{env e:Ev}{st s:Sto}{r:Fl} (ha:a env st=some (.nx e s)) (hb:b e s=some r):aJ a b env st=some r:=by
 simp only [aJ,ha,hb,Option.bind_some]
theorem xJ {a b:Sf}{env:Ev}{st s:Sto}{w:W} (ha:a env st=some (.rt w s)):aJ a b env st=some (.rt w s):=by
 simp only [aJ,ha,Option.bind_some]
theorem bW {i:Nat}{f:Ef}{env:Ev}{st s:Sto}{w:W} (h:f env st=some (w,s)):bO (.nm i) f env st=some (.nx (env.set i (some w)) s):=by
 simp only [bO,h,Option.bind_some,d8,Option.map_some]
theorem av {m:Fn}{a:Af}{env:Ev}{st s:Sto}{ws:List W}{r:W×Sto} (ha:a env st=some (ws,s)) (hm:m ws s=some r):aZ m a env st=some r:=by
 simp only [aZ,ha,hm,Option.bind_some]
theorem bT {g:Sto->List W->Option D}{a:Af}{env:Ev}{st s:Sto}{ws:List W}{d:D} (ha:a env st=some (ws,s)) (hm:g s ws=some d):iCB g a env st=some (.d d,s):=by
 simp only [iCB,ha,hm,Option.bind_some,Option.map_some]
theorem ag {a:Ef}{b:Af}{env:Ev}{st s1 s2:Sto}{x:W}{y:List W} (ha:a env st=some (x,s1)) (hb:b env s1=some (y,s2)):ab a b env st=some (x::y,s2):=by
 simp only [ab,ha,hb,Option.bind_some,Option.map_some]
theorem ik {fi:Lf}{g:Tg}{b:Sf}{env:Ev}{st s:Sto}{ds:List D}{r:Fl} (h:fi env st=some (ds,s)) (hf:iS g b ds env s=some r):hX fi g b env st=some r:=by
 simp only [hX,h,hf,Option.bind_some]
theorem bK {f:Ef}{env:Ev}{st s:Sto}{w:W} (h:f env st=some (w,s)):cj f env st=some (.rt w s):=by
 simp only [cj,h,Option.map_some]
theorem ur {c:Tf}{a b:Sf}{env:Ev}{st s:Sto}{r:Option Fl} (h:c env st=some (true,s)) (ha:a env s=r):eY c a b env st=r:=by
 simp only [eY,h,Option.bind_some,if_true,ha]
theorem iB {c:Tf}{a b:Sf}{env:Ev}{st s:Sto}{r:Option Fl} (h:c env st=some (false,s)) (hb:b env s=r):eY c a b env st=r:=by
 simp only [eY,h,Option.bind_some,Bool.false_eq_true,if_false,hb]
theorem df {k:Nat}{js:List Nat}{fi:Lf}{g:Tg}{tt:Tf}{te:Ef}{env:Ev}{st s s2:Sto}{ds ys:List D} (h:fi env st=some (ds,s)) (hl:ds.length<=1000000) (hc:lcI g tt te (jG k js env) ds s=some (ys,s2)):iLc k js fi g tt te env st=some (ys,s2):=by
 simp only [iLc,h,hc,hl,Option.bind_some,if_true]
theorem aW {a:Lf}{env:Ev}{st s:Sto}{ds:List D} (h:a env st=some (ds,s)):aV a env st=some (.d (.lst ds),s):=by
 simp only [aV,h,Option.map_some]
theorem bR {n k:Nat}{b:Sf}{ws:List W}{st s:Sto}{w:W} (hl:ws.length=k) (h:b (ws.map some++List.replicate (n - k) none) st=some (.rt w s)):ce n k b ws st=some (w,s):=by
 simp only [ce,hl,if_true,h,Option.bind_some]
theorem ie {n k:Nat}{b:Sf}{ws:List W}{st s:Sto}{x:D} (hl:ws.length=k) (h:b (ws.map some++List.replicate (n - k) none) st=some (.rt (.d x) s)):jd n k b ws st=some (.d x,s.take st.length):=by
 simp only [jd,hl,if_true,h,Option.bind_some,wp]
structure Spo where
 xs:List Int
 s:Int
 c:Int
noncomputable def spo (p:Spo) (rest:Sto):Sto:=.l (p.xs.map D.int)::.n [.h 0,.d (.int p.s),.d (.int p.c)]::rest
noncomputable def okP (p:Spo) (Z:Int):Prop:=(∀ x ∈ p.xs,0<=x)/\p.xs.length<=63/\0<=p.c/\p.c<=Z
theorem okP.mono {p:Spo}{Z Z':Int} (h:okP p Z) (hz:Z<=Z'):okP p Z':=⟨h.1,h.2.1,h.2.2.1,Int.le_trans h.2.2.2 hz⟩
theorem xL (p:Spo) (rest:Sto):(spo p rest).length=rest.length+2:=rfl
theorem nY (p:Spo) (rest:Sto):(spo p rest)[0]?=some (.l (p.xs.map D.int)):=rfl
theorem nT (p:Spo) (rest:Sto):(spo p rest)[1]?=some (.n [.h 0,.d (.int p.s),.d (.int p.c)]):=rfl
theorem pR (p:Spo) (rest:Sto) (ys:List Int):(spo p rest).set 0 (.l (ys.map D.int))=spo { p with xs:=ys } rest:=rfl
theorem vJ (p:Spo) (rest:Sto) (a b:Int):(spo p rest).set 1 (.n [.h 0,.d (.int a),.d (.int b)])=spo { p with s:=a,c:=b } rest:=rfl
theorem uM (p:Spo) (rest u:Sto):(spo p (rest++u)).take (rest.length+2)=spo p rest:=by
 unfold spo
 rw [List.take_succ_cons,List.take_succ_cons,List.take_left]
theorem yF (p:Spo) (rest:Sto) (c:C):(spo p (rest++[c]))[rest.length+2]?=some c:=by
 unfold spo
 simp
theorem uC (p:Spo) (rest:Sto) (ds:List D):lg (spo p (rest++[.l ds])) (rest.length+2)=some ds:=by
 unfold lg;rw [yF]
theorem xt (p:Spo) (rest:Sto) (c c':C):(spo p (rest++[c])).set (rest.length+2) c'=spo p (rest++[c']):=by
 unfold spo
 simp
end L2
section
set_option maxHeartbeats 1000000
namespace Own
open PySem L2
theorem Bm:nP 10 18:=p18
theorem ym {many:Int}:∀ (xs:List Int) (p:Spo) (rest:Sto) (f:Nat),p.xs=xs->xs.length < f->(∀ x ∈ xs,0<=x)->
  ∃ ys:List Int,ys.length<=xs.length/\(∀ x ∈ ys,0<=x)/\(∀ x l,ys=x::l->x≠0)/\
   ∀ rest:Sto,dU b7 d5 f [some (.h 1),some (.d (.int many)),none,none,none] (spo p rest)=some (.nx [some (.h 1),some (.d (.int many)),none,none,none] (spo { p with xs:=ys } rest))
 | [],p,_,f+1,h,_,_=>by
  refine⟨[],Nat.le_refl _,(λx hx=>nomatch hx),(λx l e=>nomatch e),λrest=>?_⟩
  obtain⟨pxs,ps,pc⟩:=p
  dsimp only at h;subst h
  unfold dU
  simp only [b7,iV,iC,iOp,bX,mB,am,dZ,aV,iE,mY,el,dIx,dEq,dNe,gy,eqK,dg,Option.bind_some,Option.map_some,List.getD_cons_zero,List.map_nil,List.length_nil,if_true,if_false,Bool.false_eq_true,Bool.not_true,qo,List.all_nil,and_self,eI,lg,Nat.zero_le,nY,nT,List.map_nil,Bool.not_true]
 | x::xs,p,rest0,f+1,h,hf,h0=>by
  obtain⟨pxs,ps,pc⟩:=p
  dsimp only at h;subst h
  by_cases hx:x=0
  ·subst hx
   obtain⟨ys,a1,a2,a3,a4⟩:=ym (many:=many) xs ⟨xs,ps,pc⟩ rest0 f rfl (by simp at hf;lia) λy hy=>h0 y (List.mem_cons_of_mem _ hy)
   refine⟨ys,by simp;lia,a2,a3,λrest=>?_⟩
   have a5:=a4 rest
   unfold dU
   have e:=pR ⟨0::xs,ps,pc⟩ rest xs
   simp only [b7,d5,iV,iC,iOp,bX,mB,am,ab,dZ,aV,gv,eD,iE,mY,el,dIx,dEq,dNe,gy,eqK,eqD,dg,b8,Option.bind_some,Option.map_some,List.getD_cons_zero,List.map_cons,List.length_cons,List.length_nil,if_true,if_false,Bool.not_false,qo,Bl,List.getElem?_cons_zero,List.all_cons,List.all_nil,and_self,eI,vH,lg,Nat.zero_le,Nat.add_one_ne_zero,nY,nT,show ((0:Int)==0)=true from rfl,List.eraseIdx_cons_zero,show ((-(2 ^ 62):Int)<=0) by decide,show ((0:Int) < 2 ^ 62) by decide,e]
   exact a5
  ·refine⟨x::xs,Nat.le_refl _,h0,λy l e=>by cases e;exact hx,λrest=>?_⟩
   unfold dU
   have hb:(x==0)=false:=by rw [beq_eq_false_iff_ne];exact hx
   simp only [b7,iV,iC,iOp,bX,mB,am,dZ,aV,iE,mY,el,dIx,dEq,dNe,gy,eqK,eqD,dg,Option.bind_some,Option.map_some,List.getD_cons_zero,List.map_cons,List.length_cons,List.length_nil,if_true,if_false,Bool.false_eq_true,Bool.not_false,qo,List.all_cons,List.all_nil,eI,lg,Nat.zero_le,Nat.add_one_ne_zero,nY,nT,hb]
theorem dL {p:Spo}{m Z:Int} (h:okP p Z) (hZ:Z < 1000000000) (m0:0 < m) (m1:m < 1073741824):∃ r p',0<=r/\r < m/\okP p' (Z+1)/\∀ rest,m__law_take [.h 1,.d (.int m)] (spo p rest)=some (.d (.int r),spo p' rest):=by
 obtain⟨h0,h63,c0,c1⟩:=h
 obtain⟨ys,y1,y2,y3,y4⟩:=ym (many:=m) p.xs p [] 1000000000000000000000000000000 rfl (by lia) h0
 obtain⟨pxs,ps,pc⟩:=p
 dsimp only at h0 h63 c0 c1 y1 y4
 cases ys with
 | cons x l=>
  refine⟨x % m,⟨x / m::l,ps,pc⟩,Int.emod_nonneg _ (by lia),Int.emod_lt_of_pos _ m0,⟨λz hz=>?_,by simp at y1 ⊢;lia,c0,by dsimp only;lia⟩,λrest=>?_⟩
  ·rcases List.mem_cons.mp hz with hz | hz
   ·subst hz;exact Int.ediv_nonneg (y2 x List.mem_cons_self) (by lia)
   ·exact y2 z (List.mem_cons_of_mem _ hz)
  ·have e:=pR ⟨x::l,ps,pc⟩ rest (x / m::l)
   have y5:=y4 rest
   simp only [List.map_cons] at e
   simp only [m__law_take,b__law_take,ny,iV,iC,iOp,bX,am,dZ,aV,er,aJ,bO,pH,ka,cj,eY,ce,d8,iE,mY,el,lsD,dIx,fG,gi,mf,jc,dNe,gy,eqK,dg,Option.bind_some,Option.map_some,List.getD_cons_zero,List.getD_cons_succ,List.set_cons_zero,List.set_cons_succ,List.map_cons,List.map_nil,List.length_cons,List.length_nil,List.replicate_succ,List.replicate_zero,List.cons_append,List.nil_append,Nat.reduceAdd,Nat.reduceSub,if_true,if_false,Bool.not_false,qo,Bl,Nat.zero_add,List.all_cons,List.all_nil,and_self,eI,hW,lg,Nat.zero_le,Nat.add_one_ne_zero,Int.reduceNeg,y5,nY,nT,m0,m1,e]
 | nil=>
  obtain⟨u,hu⟩:∃ u,(ps+104729*(pc+1))*48271 % 2305843009213693951=u:=⟨_,rfl⟩
  have u0:0<=u:=by rw [<-hu];exact Int.emod_nonneg _ (by decide)
  have u1:u < 2305843009213693951:=by rw [<-hu];exact Int.emod_lt_of_pos _ (by decide)
  have k1:∀ q,PySem.IntMulOk 104729 q:=λq=>g7 (by decide)
  have k2:∀ q,PySem.IntMulOk q 48271:=λq=>jV (by decide)
  have k3:PySem.IntMulOk (pc+1) (pc+1):=jV ⟨by lia,by lia⟩
  have k4:∀ q,PySem.IntMulOk u q:=λq=>g7 ⟨by lia,by lia⟩
  refine⟨u*(u / 1000003+(pc+1)*(pc+1)+7) % 2305843009213693921 / 8191 % m,⟨[],ps,pc+1⟩,Int.emod_nonneg _ (by lia),Int.emod_lt_of_pos _ m0,⟨λz hz=>(nomatch hz),by simp,by dsimp only;lia,by dsimp only;lia⟩,λrest=>?_⟩
  have y5:=y4 rest
  have e:=vJ ⟨[],ps,pc⟩ rest ps (pc+1)
  simp only [m__law_take,b__law_take,ny,iV,iC,iOp,bX,am,dZ,aV,er,aJ,bO,pH,ka,cj,eY,ce,d8,iE,mY,el,lsD,dIx,fG,gi,mf,jc,dNe,gy,eqK,dg,Option.bind_some,Option.map_some,List.getD_cons_zero,List.getD_cons_succ,List.set_cons_zero,List.set_cons_succ,List.map_cons,List.map_nil,List.length_cons,List.length_nil,List.replicate_succ,List.replicate_zero,List.cons_append,List.nil_append,Nat.reduceAdd,Nat.reduceSub,if_true,if_false,Bool.false_eq_true,Bool.not_true,qo,zJ,BC,BQ,Nat.zero_add,List.all_nil,and_self,eI,hW,lg,Nat.zero_le,Int.reduceNeg,y5,nY,nT,m0,e,k1,k2,k3,k4,hu,show (0:Int) < 2305843009213693921 by decide,show (0:Int) < 2305843009213693951 by decide,show (0:Int) < 1000003 by decide,show (1000003:Int) < 1073741824 by decide,show (0:Int) < 8191 by decide,show (8191:Int) < 1073741824 by decide]
theorem vO (ns:List Int) (hn:ns.length<=63):∃ p,okP p 0/\m__law_spool [.d (.scr ns)] []=some (.h 1,spo p []):=by
 have ec:lr (ns.map D.int) none (some 63)=ns.map D.int:=by
  unfold lr
  have e1:HT.sIx (ns.map D.int).length 0 none=0:=rfl
  have e2:HT.sIx (ns.map D.int).length (ns.map D.int).length (some 63)=(ns.map D.int).length:=by
   unfold HT.sIx;simp;lia
  rw [e1,e2,List.drop_zero,Nat.sub_zero,List.take_length]
 have k1:∀ q,PySem.IntMulOk q 1000003:=λq=>jV (by decide)
 have hF:∀ (l:List Int) (sd:Int) (last:Option W) ,∃ sd' last',iS (.nm 2) dE (l.map D.int) [some (.d (.scr ns)),some (.d (.int sd)),last] []=some (.nx [some (.d (.scr ns)),some (.d (.int sd')),last'] []):=by
  intro l
  induction l with
  | nil=>exact λsd last=>⟨sd,last,rfl⟩
  | cons x l ih=>
   intro sd last
   obtain⟨a,b,e⟩:=ih ((sd*1000003+x) % 2305843009213693951) (some (.d (.int x)))
   refine⟨a,b,?_⟩
   rw [List.map_cons]
   unfold iS
   simp only [dE,iV,iC,iOp,bO,d8,lsD,fG,gi,jc,Option.bind_some,Option.map_some,List.getD_cons_zero,List.getD_cons_succ,List.set_cons_zero,List.set_cons_succ,if_true,lg,Int.reduceNeg,k1,show (0:Int) < 2305843009213693951 by decide]
   exact e
 have hL:lcI (.nm 0) cy cA [none] (ns.map D.int) []=some (((ns.filter λx=>decide (x.natAbs>=10 ^ 18)).map λx:Int=>(x.natAbs:Int)).map D.int,[]):=by
  have:=eu (g:=.nm 0) (tt:=cy) (te:=cA) (env:=[none]) (st:=[]) (λd=>match d with | .int x=>decide (x.natAbs>=10 ^ 18) | _=>false) (λd=>match d with | .int x=>.int (x.natAbs:Int) | d=>d) (ds:=ns.map D.int) λd hd=>by
   obtain⟨x,_,rfl⟩:=List.mem_map.mp hd
   have ea:(if x < 0 then -x else x)=(x.natAbs:Int):=by split<;>lia
   refine⟨[some (.d (.int x))],rfl,?_,λ_=>?_⟩
   ·have eb:decide ((x.natAbs:Int)>=10 ^ Int.toNat 18)=decide (x.natAbs>=10 ^ 18):=by
     rw [show Int.toNat 18=18 from rfl]
     rw [Bool.eq_iff_iff];simp;lia
    simp only [cy,iV,iC,iOp,bX,am,ab,iCB,mY,sO,dGe,uS,Option.bind_some,Option.map_some,List.getD_cons_zero,if_true,ea,Bm,eb]
   ·simp only [cA,iV,am,ab,iCB,uS,Option.bind_some,Option.map_some,List.getD_cons_zero,ea]
  rw [this]
  rw [List.filter_map,List.map_map,List.map_map]
  rfl
 obtain⟨sd',last',e1⟩:=hF ns ((ns.length:Int)+11) none
 refine⟨⟨(ns.filter λx=>decide (x.natAbs>=10 ^ 18)).map λx:Int=>(x.natAbs:Int),sd',0⟩,⟨λx hx=>?_,?_,Int.le_refl 0,Int.le_refl 0⟩,?_⟩
 ·obtain⟨y,_,rfl⟩:=List.mem_map.mp hx;lia
 ·rw [List.length_map];exact Nat.le_trans (List.length_filter_le _ _) hn
 ·have hlen:ns.length<=1000000:=by lia
  simp only [m__law_spool,b__law_spool,iV,iC,iOp,am,ab,iCB,nL,aJ,bO,cj,hX,iLc,aR,iSl,iPn,iPs,ce,d8,z7,jG,el,lsD,fG,ir,dSl,Option.bind_some,Option.map_some,List.getD_cons_zero,List.getD_cons_succ,List.set_cons_zero,List.set_cons_succ,List.map_cons,List.map_nil,List.length_cons,List.length_nil,List.replicate_succ,List.replicate_zero,List.cons_append,List.nil_append,Nat.reduceAdd,Nat.reduceSub,if_true,Nat.zero_add,re,lg,ec,List.length_map,e1,hlen,hL,show (3:Nat)<=1000 by decide]
  rfl
end Own
end
section
set_option maxHeartbeats 1000000
namespace Own
open PySem L2
theorem dO {a:Af}{env:Ev}{st s:Sto}{ws:List W}{ds:List D} (h:a env st=some (ws,s)) (hd:iE ws=some ds) (hl:ds.length<=1000:=by decide):en a env st=some (.d (.tup ds),s):=by
 simp only [en,h,hd,hl,Option.bind_some,if_true]
theorem jP {a:Af}{env:Ev}{st s:Sto}{ws:List W}{ds:List D} (h:a env st=some (ws,s)) (hd:iE ws=some ds) (hl:ds.length<=1000:=by decide):dZ a env st=some (ds,s):=by
 simp only [dZ,h,hd,hl,Option.bind_some,if_true]
theorem et {f:Ef}{env:Ev}{st s:Sto}{ds:List D} (h:f env st=some (.d (.tup ds),s)):aR f env st=some (ds,s):=by
 simp only [aR,h,Option.bind_some]
theorem mS {e:Ef}{z:Int}{m:Nat}{env:Ev}{st s:Sto} (he:e env st=some (.d (.int z),s)) (h0:0<=z) (h1:z<=1000) (hm:z.toNat=m):fS (ab e am) env st=some (gD 0 m,s):=by
 have hb:-(2 ^ 62)<=z/\z < 2 ^ 62:=⟨Int.le_trans (by decide) h0,Int.lt_of_le_of_lt h1 (by decide)⟩
 have h2:=ag (b:=am) he rfl
 simp only [fS,h2,Option.bind_some,hb,and_self,if_true,hm]
theorem iT {f:Ef}{env:Ev}{st s:Sto}{ds:List D} (h:f env st=some (.d (.lst ds),s)):aR f env st=some (ds,s):=by
 simp only [aR,h,Option.bind_some]
theorem i4 {f:Ef}{env:Ev}{st s:Sto}{ds:List D} (h:f env st=some (.d (.tup ds),s)):aR f env st=some (ds,s):=by
 simp only [aR,h,Option.bind_some]
theorem yw {c:Tf}{a b:Ef}{env:Ev}{st s:Sto}{r:Option (W×Sto)} (h:c env st=some (true,s)) (ha:a env s=r):qf c a b env st=r:=by
 simp only [qf,h,Option.bind_some,if_true,ha]
theorem zt {c:Tf}{a b:Ef}{env:Ev}{st s:Sto}{r:Option (W×Sto)} (h:c env st=some (false,s)) (hb:b env s=r):qf c a b env st=r:=by
 simp only [qf,h,Option.bind_some,Bool.false_eq_true,if_false,hb]
theorem yr (s:Sto) {a b:Int} (h:0<=b):ng s (.d (.int a)) (.d (.int b))=some (.int (a / 2 ^ b.toNat)):=if_pos h
theorem rV (s:Sto) (a b:Int):dEq s (.d (.int a)) (.d (.int b))=some (.bl (a==b)):=by
 show ((eqK (.fl (.int a)) (.fl (.int b))).map λk=>D.bl k)=_
 rfl
theorem uo (s:Sto) (a b:Str):dEq s (.d (.str a)) (.d (.str b))=some (.bl (a==b)):=by
 show ((eqK (.fl (.str a)) (.fl (.str b))).map λk=>D.bl k)=_
 rfl
noncomputable def cg (b:Bool) (t:List Int) (row:Int):Int:=if b=true then (if cf row t=(t.length:Int) then 1 else 0) else (if cf row t % 2=1 then -1 else 1)
noncomputable def ak (b:Bool):Str:=if b=true then "both" else "odd"
theorem me (b:Bool):(ak b==("both" : Str))=b:=by cases b<;>decide
theorem ix0 (s:Sto) (a:D) (l:List D):dIx s (.d (.tup (a::l))) (.d (.int 0))=some a:=by simp only [dIx,el,Option.bind_some,qo]
theorem ix1 (s:Sto) (a b:D) (l:List D):dIx s (.d (.tup (a::b::l))) (.d (.int 1))=some b:=by simp only [dIx,el,Option.bind_some,zJ]
theorem qR {f:Ef}{env:Ev}{st s:Sto}{k:Bool} (h:f env st=some (.d (.bl k),s)):kj kK f env st=some (k,s):=by
 simp only [kj,h,Option.bind_some,kK,Option.map_some]
theorem lU {f:Tf}{env:Ev}{st s:Sto}{k:Bool} (h:f env st=some (k,s)):gj f env st=some (!k,s):=by
 simp only [gj,h,Option.map_some]
theorem jh {a b:Tf}{env:Ev}{st s s':Sto}{k:Bool} (ha:a env st=some (false,s)) (hb:b env s=some (k,s')):jA a b env st=some (k,s'):=by
 simp only [jA,ha,hb,Option.bind_some,Bool.false_eq_true,if_false]
theorem vQ (s:Sto) (a b:Str):dEq s (.d (.str a)) (.d (.str b))=some (.bl (a==b)):=uo s a b
theorem zv (s:Sto) (a b:Int):dEq s (.d (.int a)) (.d (.int b))=some (.bl (a==b)):=rV s a b
theorem qF (s:Sto) (a b:Int):dNe s (.d (.int a)) (.d (.int b))=some (.bl (!(a==b))):=by
 show ((eqK (.fl (.int a)) (.fl (.int b))).map λk=>D.bl (!k))=_
 rfl
theorem uY {n:Int} (n0:0<=n) (n1:n<=6):∃ q:Int,(∀ s,sI s (.d (.int 1)) (.d (.int n))=some (.int q))/\q.toNat=2 ^ n.toNat/\(-(2 ^ 62)<=q/\q < 2 ^ 62)/\2 ^ n.toNat<=64:=by
 have h:n=0\/n=1\/n=2\/n=3\/n=4\/n=5\/n=6:=by lia
 rcases h with rfl | rfl | rfl | rfl | rfl | rfl | rfl
 ·exact⟨1,λs=>rfl,by decide,by decide,by decide⟩
 ·exact⟨2,λs=>rfl,by decide,by decide,by decide⟩
 ·exact⟨4,λs=>rfl,by decide,by decide,by decide⟩
 ·exact⟨8,λs=>rfl,by decide,by decide,by decide⟩
 ·exact⟨16,λs=>rfl,by decide,by decide,by decide⟩
 ·exact⟨32,λs=>rfl,by decide,by decide,by decide⟩
 ·exact⟨64,λs=>rfl,by decide,by decide,by decide⟩
theorem n6 (b:Bool) (t:List Int) (row:Int):-1<=cg b t row/\cg b t row<=1:=by
 unfold cg
 split<;>split<;>lia
noncomputable def bv (b:Bool) (ps:List Prt) (row:Int):Int:=(ps.map λp=>p.2*cg b p.1 row).sum
noncomputable def uy (p:Prt):Prop:=Trm 6 p.1
theorem A2 {n:Nat}{t:List Int} (h:Trm n t) (hn:n<=6):∀ k ∈ t,0<=k/\k<=20:=λk hk=>⟨(h.2 k hk).1,by have:=(h.2 k hk).2;lia⟩
theorem Ak {p:Prt} (h:uy p):∀ k ∈ p.1,0<=k/\k<=20:=A2 h (Nat.le_refl 6)
theorem Bu (b:Bool) (t:List Int) (row c:Int):PySem.IntMulOk c (cg b t row):=jV (by have:=n6 b t row;lia)
theorem ui (s:Sto) {a b:Int} (h:PySem.IntMulOk a b):gi s (.d (.int a)) (.d (.int b))=some (.int (a*b)):=if_pos h
theorem yj (s:Sto) {a b:Int} (h:0 < b):jc s (.d (.int a)) (.d (.int b))=some (.int (a % b)):=if_pos h
theorem AO (s:Sto) {a b:Int}{k:Bool} (h:decide (a > b)=k):dGt s (.d (.int a)) (.d (.int b))=some (.bl k):=by rw [<-h];rfl
theorem BD (s:Sto) {a b:Int}{k:Bool} (h:decide (a<=b)=k):dLe s (.d (.int a)) (.d (.int b))=some (.bl k):=by rw [<-h];rfl
theorem BA {x:Int} (h:0<=x):Builtin.bitAnd x 1=x % 2:=by
 unfold Builtin.bitAnd
 have h1:decide (0<=x)=true:=decide_eq_true h
 rw [h1,show decide ((0:Int)<=1)=true from rfl]
 show ((x.toNat &&& (1:Int).toNat:Nat):Int)=_
 rw [show (1:Int).toNat=1 from rfl,Nat.and_one_is_mod];lia
theorem zd {row k:Int} (h:0<=row):Builtin.bitAnd (row / 2 ^ k.toNat) 1=onI row k:=BA (Int.ediv_nonneg h (Int.le_of_lt (Int.pow_pos (by decide))))
theorem Bg {st:Sto}{row k:Int} (r0:0<=row) (k0:0<=k):bX dEq (iOp sS (iOp ng (iV 1) (iV 0)) (iC (.int 1))) (iC (.int 1)) [some (.d (.int k)),some (.d (.int row))] st=some (onI row k==1,st):=
 bH (x:=.d (.int (onI row k))) (ax (ax rfl rfl (yr _ k0)) rfl (by rw [<-zd r0];rfl)) rfl (rV _ _ _)
theorem vY {tt:Tf}{te:Ef}{st:Sto}{row:Int} (r0:0<=row) (ht:tt=bX dEq (iOp sS (iOp ng (iV 1) (iV 0)) (iC (.int 1))) (iC (.int 1))) (he:te=iV 0) {t:List Int} (h0:∀ k ∈ t,0<=k) :
  lcI (.nm 0) tt te [none,some (.d (.int row))] (t.map D.int) st=some ((t.filter λk=>onI row k==1).map D.int,st):=by
 subst ht;subst he
 have:=eu (g:=.nm 0) (tt:=bX dEq (iOp sS (iOp ng (iV 1) (iV 0)) (iC (.int 1))) (iC (.int 1))) (te:=iV 0) (env:=[none,some (.d (.int row))]) (st:=st) (λd=>match d with | .int k=>onI row k==1 | _=>false) id (ds:=t.map D.int) λd hd=>by
  obtain⟨k,hk,rfl⟩:=List.mem_map.mp hd
  exact⟨_,rfl,Bg r0 (h0 k hk),λ_=>rfl⟩
 rw [this,List.filter_map,List.map_map]
 rfl
theorem qx {st:Sto}{b:Bool}{t:List Int}{row:Int} (r0:0<=row) (h0:∀ k ∈ t,0<=k) (hl:t.length<=1000):m__law_term [.d (.str (ak b)),.d (ai t),.d (.int row)] st=some (.d (.int (cg b t row)),st):=by
 have key:=vY (tt:=d6) (te:=d4) (st:=st) r0 rfl rfl h0
 have hz:(t.map D.int).length<=1000000:=by rw [List.length_map];lia
 have hln:ir st [.d (.lst ((t.filter λk=>onI row k==1).map D.int))]=some (.int (cf row t)):=by
  show some (D.int (((t.filter λk=>onI row k==1).map D.int).length:Nat))=_
  rw [List.length_map,jk]
 have hln2:ir st [.d (ai t)]=some (.int (t.length:Int)):=by
  show some (D.int ((t.map D.int).length:Nat))=_
  rw [List.length_map]
 have kb:=me b
 generalize (t.filter λk=>onI row k==1).map D.int=L at key hln
 have s1:bO (.nm 3) (iCB ir (ab (aV (iLc 1 [2] (aR (iV 1)) (.nm 0) d6 d4)) am)) [some (.d (.str (ak b))),some (.d (ai t)),some (.d (.int row)),none] st=some (.nx [some (.d (.str (ak b))),some (.d (ai t)),some (.d (.int row)),some (.d (.int (cf row t)))] st):=
  bW (bT (ag (aW (df (i4 rfl) hz key)) rfl) hln)
 refine bR (n:=4) (k:=3) (b:=b__law_term) rfl (aC s1 (bK ?_))
 cases b with
 | true=>
  refine yw (bH (x:=.d (.str (ak true))) rfl rfl (by rw [uo,kb])) (bT (ag (ax rfl (bT (ag rfl rfl) hln2) (rV _ _ _)) rfl) ?_)
  show some (D.int (if (cf row t==(t.length:Int))=true then 1 else 0))=_
  simp only [cg,if_true,beq_iff_eq]
 | false=>
  refine zt (bH (x:=.d (.str (ak false))) rfl rfl (by rw [uo,kb])) (ax (x:=.d (.int 1)) (y:=.d (.int (2*(cf row t % 2)))) rfl (ax rfl (ax rfl rfl (yj _ (by decide))) (ui _ (g7 (by decide)))) ?_)
  show some (D.int (1 - 2*(cf row t % 2)))=_
  simp only [cg,Bool.false_eq_true,if_false]
  congr 2
  split<;>lia
theorem fL {st:Sto}{b:Bool}{ps:List Prt}{row:Int} (r0:0<=row) (hp:∀ p ∈ ps,uy p) (hl:ps.length<=1000):m__law_value [.d (ar (ak b) ps),.d (.int row)] st=some (.d (.int (bv b ps row)),st):=by
 have key:lcI (.tp [0,1]) dX fP [none,none,some (.d (ar (ak b) ps)),some (.d (.int row))] (ps.map al) st=some (ps.map λp=>.int (p.2*cg b p.1 row),st):=fT _ λp hm=>by
  refine⟨_,rfl,?_⟩
  have e:=qx (st:=st) (b:=b) r0 (λk hk=>(Ak (hp p hm) k hk).1) (Nat.le_trans (jO (hp p hm)) (by decide))
  have km:=Bu b p.1 row p.2
  unfold ar
  generalize ps.map al=PP
  generalize ak b=kd at e ⊢
  generalize ai p.1=tt at e ⊢
  exact ax rfl (av (ag (ax rfl rfl (show atI [D.str kd,.tup PP] 0=_ from qo _ _)) (ag rfl (ag rfl rfl))) e) (ui _ km)
 have hs:aH (ps.map λp=>.int (p.2*cg b p.1 row))=some (ps.map λp=>p.2*cg b p.1 row):=by
  have:=bN (ps.map λp=>p.2*cg b p.1 row)
  rw [List.map_map] at this;exact this
 have hz:(ps.map al).length<=1000000:=by rw [List.length_map];lia
 unfold bv
 generalize ps.map (λp=>p.2*cg b p.1 row)=L at hs ⊢
 generalize (ps.map λp=>D.int (p.2*cg b p.1 row))=LD at key hs
 unfold ar at key ⊢
 generalize ps.map al=PP at key hz ⊢
 generalize ak b=kd at key ⊢
 have hsm:xl st [.d (.lst LD)]=some (.int L.sum):=by
  show (aH LD).map (λns=>D.int ns.sum)=_
  rw [hs];rfl
 exact bR (n:=2) (k:=2) (b:=b__law_value) rfl (bK (bT (ag (aW (df (i4 (ax rfl rfl (show atI [D.str kd,.tup PP] 1=_ from zJ _ _ _))) hz key)) rfl) hsm))
noncomputable def bt (n a:Nat):List Int:=((List.range n).map λk:Nat=>(k:Int)).filter λk=>onI (a:Int) k==1
theorem zz:((List.range 7).all λn=>aS ((List.range (2 ^ n)).map (bt n))==cX n)=true:=by decide +kernel
theorem yL {n:Nat} (hn:n<=6):aS ((List.range (2 ^ n)).map (bt n))=cX n:=eq_of_beq (List.all_eq_true.mp zz n (List.mem_range.mpr (by lia)))
theorem sh (n:Nat):gD 0 n=((List.range n).map λk:Nat=>(k:Int)).map D.int:=by
 unfold gD
 rw [List.map_map]
 exact List.map_congr_left λk _=>by show D.int (0+(k:Int))=D.int k;rw [Int.zero_add]
theorem yA {n a:Nat}:(bt n a).length<=n:=by
 unfold bt
 refine Nat.le_trans (List.length_filter_le _ _) ?_
 rw [List.length_map,List.length_range];exact Nat.le_refl _
theorem oM {st:Sto}{n:Nat} (hn:n<=6):m__law_terms [.d (.int n),.d (.int n)] st=some (.d (.lst ((cX n).map ai)),st):=by
 obtain⟨q,hq,q1,_,q2⟩:=uY (n:=(n:Int)) (by lia) (by lia)
 rw [Int.toNat_natCast] at q1 q2
 have hq0:0<=q:=by have:0 < 2 ^ n:=Nat.pow_pos (by decide);lia
 have k1:lcI (.nm 0) dX dG [none,some (.d (.int n))] (gD 0 (2 ^ n)) st=some (((List.range (2 ^ n)).map (bt n)).map ai,st):=by
  have:=jS (g:=.nm 0) (te:=dG) (env:=[none,some (.d (.int n))]) (st:=st) (λd=>match d with | .int a=>ai (bt n a.toNat) | d=>d) (ds:=gD 0 (2 ^ n)) λd hd=>by
   obtain⟨i,hi⟩:=List.getElem?_of_mem hd
   obtain⟨rfl,_⟩:=m7 hi
   refine⟨_,rfl,?_⟩
   have kk:=vY (tt:=ft) (te:=fN) (st:=st) (row:=(i:Int)) (by lia) rfl rfl (t:=(List.range n).map λk:Nat=>(k:Int)) (λk hk=>by
    obtain⟨j,_,rfl⟩:=List.mem_map.mp hk;lia)
   rw [<-sh] at kk
   exact bT (ag (aW (df (mS rfl (by lia) (by lia) (Int.toNat_natCast n)) (by rw [kz];lia) kk)) rfl) rfl
  rw [this,sh,List.map_map,List.map_map,List.map_map]
  rfl
 have hlen:(((List.range (2 ^ n)).map (bt n)).map ai).length<=64:=by rw [List.length_map,List.length_map,List.length_range];exact q2
 have k2:lcI (.nm 0) cG cE [none,some (.d (.int n))] (((List.range (2 ^ n)).map (bt n)).map ai) st=some (((List.range (2 ^ n)).map (bt n)).map ai,st):=by
  have:=eu (g:=.nm 0) (tt:=cG) (te:=cE) (env:=[none,some (.d (.int n))]) (st:=st) (λ_=>true) id (ds:=((List.range (2 ^ n)).map (bt n)).map ai) λd hd=>by
   obtain⟨t,ht,rfl⟩:=List.mem_map.mp hd
   obtain⟨a,_,rfl⟩:=List.mem_map.mp ht
   refine⟨_,rfl,?_,λ_=>rfl⟩
   have hb:=yA (n:=n) (a:=a)
   refine bH (x:=.d (.int ((bt n a).length:Int))) (bT (ag rfl rfl) (by show some (D.int (((bt n a).map D.int).length:Nat))=_;rw [List.length_map])) rfl (BD _ (decide_eq_true (by lia)))
  rw [this,List.filter_eq_self.mpr (λ_ _=>rfl),List.map_id]
 have hs:j9 st [.d (.lst (((List.range (2 ^ n)).map (bt n)).map ai))]=some ((cX n).map ai):=by
  show (if (((List.range (2 ^ n)).map (bt n)).map ai).length<=64 then pF (((List.range (2 ^ n)).map (bt n)).map ai) else none)=_
  rw [if_pos hlen,qg,yL hn]
 generalize ((List.range (2 ^ n)).map (bt n)).map ai=LL at k1 k2 hlen hs
 generalize (cX n).map ai=AA at hs ⊢
 have hcl:iCL j9 (ab (aV (iLc 1 [1] (aR (iV 2)) (.nm 0) cG cE)) am) [some (.d (.int n)),some (.d (.int n)),some (.d (.lst LL))] st=some (AA,st):=by
  have q:=ag (b:=am) (aW (df (k:=1) (js:=[1]) (env:=[some (.d (.int n)),some (.d (.int n)),some (.d (.lst LL))]) (iT (f:=iV 2) (st:=st) rfl) (by lia) k2)) rfl
  simp only [iCL,q,Option.bind_some,hs,Option.map_some]
 exact bR (n:=3) (k:=2) (b:=b__law_terms) rfl (aC (bW (i:=2) (aW (df (mS (ax rfl rfl (hq _)) hq0 (by lia) q1) (by rw [kz];lia) k1))) (bK (aW hcl)))
end Own
end
section
set_option maxHeartbeats 1000000
namespace Own
open PySem L2
theorem eT (k:List Int) (d:D) (r:List (List Int×D)) (t:List Int):vM ((k,d)::r) t=if k=t then some d else vM r t:=by
 unfold vM
 by_cases e:k=t
 ·rw [List.find?_cons_of_pos (by simpa using e),if_pos e];rfl
 ·rw [List.find?_cons_of_neg (by simpa using e),if_neg e]
theorem rR (kvs:List (List Int×D)) (k:List Int):(kvs.any λp=>decide (p.1=k))=decide (k ∈ kvs.map Prod.fst):=by
 induction kvs with
 | nil=>rfl
 | cons p r ih=>
  rw [List.any_cons,ih,List.map_cons]
  by_cases e:p.1=k
  ·simp [e]
  ·have:¬ k=p.1:=λz=>e z.symm
   simp [e,this]
theorem oj (kvs:List (List Int×D)) (k:List Int) (d:D):(jB kvs k d).map Prod.fst=if k ∈ kvs.map Prod.fst then kvs.map Prod.fst else kvs.map Prod.fst++[k]:=by
 unfold jB
 rw [rR]
 by_cases h:k ∈ kvs.map Prod.fst
 ·rw [if_pos (decide_eq_true h),if_pos h,List.map_map]
  refine List.map_congr_left λp _=>?_
  show (if p.1=k then (p.1,d) else p).1=p.1
  split<;>rfl
 ·rw [if_neg (by simpa using h),if_neg h,List.map_append];rfl
theorem nA (k:List Int) (d:D) (j:List Int):∀ kvs:List (List Int×D),k ∈ kvs.map Prod.fst->vM (kvs.map λp=>if p.1=k then (p.1,d) else p) j=if j=k then some d else vM kvs j
 | [],h=>by cases h
 | (k',d')::r,h=>by
  rw [List.map_cons]
  by_cases e:k'=k
  ·rw [if_pos e,eT,eT]
   subst e
   by_cases ej:k'=j
   ·rw [if_pos ej,if_pos ej.symm]
   ·rw [if_neg ej,if_neg (λz=>ej z.symm),if_neg ej]
    by_cases hm:k' ∈ r.map Prod.fst
    ·rw [nA k' d j r hm,if_neg (λz=>ej z.symm)]
    ·have:(r.map λp=>if p.1=k' then (p.1,d) else p)=r:=by
      conv=>rhs;rw [<-List.map_id r]
      refine List.map_congr_left λp hp=>?_
      rw [if_neg (λz=>hm (by rw [<-z];exact List.mem_map_of_mem hp))];rfl
     rw [this]
  ·rw [if_neg e,eT,eT]
   rw [List.map_cons,List.mem_cons] at h
   have hm:k ∈ r.map Prod.fst:=h.resolve_left λz=>e z.symm
   rw [nA k d j r hm]
   by_cases ej:k'=j
   ·rw [if_pos ej,if_pos ej,if_neg (λz=>e (ej.trans z))]
   ·rw [if_neg ej,if_neg ej]
theorem t8 (k:List Int) (d:D) (j:List Int):∀ kvs:List (List Int×D),k ∉ kvs.map Prod.fst->vM (kvs++[(k,d)]) j=if j=k then some d else vM kvs j
 | [],_=>by
  show vM [(k,d)] j=_
  rw [eT]
  by_cases e:k=j
  ·rw [if_pos e,if_pos e.symm]
  ·rw [if_neg e,if_neg (λz=>e z.symm)]
 | (k',d')::r,h=>by
  rw [List.map_cons,List.mem_cons,not_or] at h
  rw [List.cons_append,eT,eT,t8 k d j r h.2]
  by_cases ej:k'=j
  ·rw [if_pos ej,if_pos ej,if_neg (λz=>h.1 (z.symm.trans ej.symm))]
  ·rw [if_neg ej,if_neg ej]
theorem yS (kvs:List (List Int×D)) (k:List Int) (d:D) (j:List Int):vM (jB kvs k d) j=if j=k then some d else vM kvs j:=by
 unfold jB
 rw [rR]
 by_cases h:k ∈ kvs.map Prod.fst
 ·rw [if_pos (decide_eq_true h)];exact nA k d j kvs h
 ·rw [if_neg (by simpa using h)];exact t8 k d j kvs h
noncomputable def ba (L:List Prt) (t:List Int):Int:=((L.filter λp=>decide (p.1=t)).map Prod.snd).sum
theorem qr (L:List Prt) (p:Prt) (t:List Int):ba (L++[p]) t=ba L t+if p.1=t then p.2 else 0:=by
 unfold ba
 rw [List.filter_append,List.map_append,List.sum_append]
 congr 1
 by_cases e:p.1=t<;>simp [e]
theorem qh {L:List Prt}{t:List Int} (h:t ∉ L.map Prod.fst):ba L t=0:=by
 unfold ba
 rw [List.filter_eq_nil_iff.mpr]
 ·rfl
 ·intro p hp e
  exact h (by rw [<-of_decide_eq_true e];exact List.mem_map_of_mem hp)
structure GK (kvs:List (List Int×D)) (L:List Prt):Prop where
 nd:(kvs.map Prod.fst).Nodup
 mem:∀ t,t ∈ kvs.map Prod.fst↔t ∈ L.map Prod.fst
 val:∀ t,vM kvs t=if t ∈ L.map Prod.fst then some (.int (ba L t)) else none
theorem GK.nil:GK [] []:=⟨List.nodup_nil,λt=>Iff.rfl,λt=>by simp [vM]⟩
theorem GK.getD {kvs:List (List Int×D)}{L:List Prt} (G:GK kvs L) (t:List Int):(vM kvs t).getD (.int 0)=.int (ba L t):=by
 rw [G.val t]
 by_cases h:t ∈ L.map Prod.fst
 ·rw [if_pos h];rfl
 ·rw [if_neg h,qh h];rfl
theorem GK.put {kvs:List (List Int×D)}{L:List Prt} (G:GK kvs L) (p:Prt):GK (jB kvs p.1 (.int (ba L p.1+p.2))) (L++[p]):=by
 refine⟨?_,λt=>?_,λt=>?_⟩
 ·rw [oj]
  split
  ·exact G.nd
  ·rename_i h
   rw [List.nodup_append]
   exact⟨G.nd,by simp,λa ha b hb e=>h (by rw [List.mem_singleton] at hb;rw [<-hb,<-e];exact ha)⟩
 ·rw [oj,List.map_append,List.mem_append]
  split
  ·rename_i h
   rw [G.mem t]
   refine⟨.inl,λz=>z.elim id λz=>?_⟩
   have:t=p.1:=by simpa using z
   rw [this];exact (G.mem p.1).mp h
  ·rw [List.mem_append,G.mem t];rfl
 ·rw [yS,qr,G.val t,List.map_append]
  by_cases e:t=p.1
  ·subst e
   rw [if_pos rfl,if_pos rfl,if_pos (List.mem_append_right _ (by simp))]
  ·have hs:(ba L t+if p.1=t then p.2 else 0)=ba L t:=by rw [if_neg (λz=>e z.symm),Int.add_zero]
   rw [if_neg e,hs]
   have:(t ∈ List.map Prod.fst L++List.map Prod.fst [p])↔t ∈ L.map Prod.fst:=by simp [e]
   by_cases h:t ∈ L.map Prod.fst
   ·rw [if_pos h,if_pos (this.mpr h)]
   ·rw [if_neg h,if_neg (λz=>h (this.mp z))]
theorem rG {α:Type} [DecidableEq α]:∀ {l m:List α},l.Nodup->(∀ x ∈ l,x ∈ m)->l.length<=m.length
 | [],m,_,_=>Nat.zero_le _
 | x::l,m,hn,hs=>by
  have hn':=List.nodup_cons.mp hn
  have hx:=hs x List.mem_cons_self
  have:=rG (l:=l) (m:=m.erase x) hn'.2 λy hy=>(List.mem_erase_of_ne (λe=>hn'.1 (by rw [<-e];exact hy))).mpr (hs y (List.mem_cons_of_mem _ hy))
  rw [List.length_erase_of_mem hx] at this
  have hp:0 < m.length:=List.length_pos_of_mem hx
  rw [List.length_cons];lia
noncomputable def ksI (m:Nat):List Int:=(ao m).map λk=>((k:Nat):Int)
theorem yh (m:Nat):(ao m).map (λk=>D.int ((k:Nat):Int))=(ksI m).map D.int:=by unfold ksI;rw [List.map_map];rfl
theorem gX {m:Nat}{z:Int}:z ∈ ksI m↔∃ k:Nat,z=k/\k < 6/\m.testBit k=true:=by
 unfold ksI
 rw [List.mem_map]
 exact⟨λ⟨k,h,e⟩=>⟨k,e.symm,(kc.mp h).1,(kc.mp h).2⟩,λ⟨k,e,h1,h2⟩=>⟨k,kc.mpr ⟨h1,h2⟩,e.symm⟩⟩
theorem nq (m:Nat):Trm 6 (ksI m):=by
 refine⟨?_,λk hk=>?_⟩
 ·unfold ksI ao
  rw [List.pairwise_map]
  have:(List.range 6).Pairwise (· < ·):=List.pairwise_lt_range
  exact (this.filter _).imp λ{a b} h=>by lia
 ·obtain⟨j,rfl,h,_⟩:=gX.mp hk
  lia
theorem vk (l:List Int):au l=dz (l.map Int.toNat):=by unfold au dz;rw [List.foldl_map]
theorem bB {t:List Int} (h:Trm 6 t) (j:Nat):(au t).testBit j=decide ((j:Int) ∈ t):=by
 rw [vk,dD]
 apply decide_eq_decide.mpr
 rw [List.mem_map]
 constructor
 ·rintro⟨z,hz,e⟩
  have:=(h.2 z hz).1
  have:(j:Int)=z:=by lia
  rw [this];exact hz
 ·intro hj
  exact⟨j,hj,by simp⟩
theorem t4 {t:List Int} (h:Trm 6 t):au t < 64:=by
 refine Nat.lt_pow_two_of_testBit (n:=6) _ λj hj=>?_
 rw [bB h,decide_eq_false_iff_not]
 intro z
 have:=(h.2 _ z).2
 lia
theorem db {t:List Int} (h:Trm 6 t):ksI (au t)=t:=by
 have hm:∀ z,z ∈ ksI (au t)↔z ∈ t:=λz=>by
  rw [gX]
  constructor
  ·rintro⟨k,rfl,_,hk⟩
   rw [bB h] at hk
   exact of_decide_eq_true hk
  ·intro hz
   have h1:=h.2 z hz
   obtain⟨k,rfl⟩:=Int.eq_ofNat_of_zero_le h1.1
   exact⟨k,rfl,by lia,by rw [bB h];exact decide_eq_true hz⟩
 have hn:∀ {l:List Int},l.Pairwise (· < ·)->l.Nodup:=λhl=>hl.imp λ{a b} hab e=>by lia
 refine List.Perm.eq_of_pairwise (le:=(· < ·)) (λa b _ _ h1 h2=>by lia) (nq _).1 h.1 ?_
 exact (List.perm_ext_iff_of_nodup (hn (nq _).1) (hn h.1)).mpr hm
theorem io {l:List (List Int)} (hn:l.Nodup) (h:∀ t ∈ l,Trm 6 t):l.length<=64:=by
 have:=rG (m:=(List.range 64).map ksI) hn λt ht=>List.mem_map.mpr ⟨au t,List.mem_range.mpr (t4 (h t ht)),db (h t ht)⟩
 rw [List.length_map,List.length_range] at this
 exact this
noncomputable def ltL (a b:List Int):Prop:=bD a b=true
theorem zk {a b:List Int} (h:leL a b) (hne:a≠b):ltL a b:=by
 unfold ltL
 cases e:bD a b with
 | true=>rfl
 | false=>exact absurd (fC a b e h) hne
theorem iO {l:List (List Int)} (hn:l.Nodup):(aS l).Pairwise ltL:=by
 have h2:(aS l).Nodup:=(bf l).nodup_iff.mpr hn
 exact (bZ l).imp₂ (λa b h1 h2=>zk h1 h2) h2
noncomputable def ef (ks:List (List Int)) (L:List Prt):List Prt:=(ks.filter λt=>decide (ba L t≠0)).map λt=>(t,ba L t)
theorem xP (s:Sto) (a:Int):dNe s (.d (.int a)) (.d (.int 0))=some (.bl (decide (a≠0))):=by
 show some (D.bl (!(a==0)))=_
 by_cases h:a=0<;>simp [h]
theorem xQ {st:Sto}{kd:Str}{n:Nat}{kvs:List (List Int×D)}{L:List Prt} (hm:mgt st n=some kvs) (G:GK kvs L) (h6:∀ p ∈ L,Trm 6 p.1) :
  m_poly_from [.d (.str kd),.h n] st=some (.d (ar kd (ef (aS (kvs.map Prod.fst)) L)),st):=by
 have htr:∀ t ∈ kvs.map Prod.fst,Trm 6 t:=λt ht=>by
  obtain⟨p,hp,rfl⟩:=List.mem_map.mp ((G.mem t).mp ht)
  exact h6 p hp
 have hlen:kvs.length<=64:=by
  have:=io G.nd htr
  rw [List.length_map] at this;exact this
 have hsl:(aS (kvs.map Prod.fst)).length<=64:=by rw [(bf _).length_eq,List.length_map];exact hlen
 have hmem:∀ t ∈ aS (kvs.map Prod.fst),vM kvs t=some (.int (ba L t)):=λt ht=>by
  rw [G.val t,if_pos ((G.mem t).mp ((bf _).mem_iff.mp ht))]
 have mix:∀ t ∈ aS (kvs.map Prod.fst),sG (iV 1) (iV 0) [some (.d (ai t)),some (.h n)] st=some (.d (.int (ba L t)),st):=λt ht=>by
  have e1:aH (t.map D.int)=some t:=bN t
  have e2:=hmem t ht
  simp only [sG,iV,ai,List.getD_cons_zero,List.getD_cons_succ,Option.map_some,Option.bind_some,hm,e1,e2]
 have key:=eu (g:=.nm 0) (tt:=gx) (te:=gn) (env:=[none,some (.h n)]) (st:=st) (λd=>match d with | .tup ds=>(match aH ds with | some t=>decide (ba L t≠0) | none=>false) | _=>false) (λd=>match d with | .tup ds=>(match aH ds with | some t=>al (t,ba L t) | none=>d) | d=>d) (ds:=(aS (kvs.map Prod.fst)).map ai) λd hd=>by
  obtain⟨t,ht,rfl⟩:=List.mem_map.mp hd
  have e1:aH (t.map D.int)=some t:=bN t
  refine⟨_,rfl,?_,λ_=>?_⟩
  ·show _=some ((match aH (t.map D.int) with | some t=>decide (ba L t≠0) | none=>false),st)
   rw [e1]
   exact bH (mix t ht) rfl (xP _ _)
  ·show _=some (W.d (match aH (t.map D.int) with | some t=>al (t,ba L t) | none=>ai t),st)
   rw [e1]
   exact dO (ag rfl (ag (mix t ht) rfl)) rfl (by show 2<=1000;decide)
 have e:((((aS (kvs.map Prod.fst)).map ai).filter (λd=>match d with | .tup ds=>(match aH ds with | some t=>decide (ba L t≠0) | none=>false) | _=>false)).map (λd=>match d with | .tup ds=>(match aH ds with | some t=>al (t,ba L t) | none=>d) | d=>d))=(ef (aS (kvs.map Prod.fst)) L).map al:=by
  unfold ef
  rw [List.filter_map,List.map_map,List.map_map]
  have e1:∀ t:List Int,aH (t.map D.int)=some t:=bN
  congr 1
  ·funext t
   show (match aH (t.map D.int) with | some t=>al (t,ba L t) | none=>ai t)=al (t,ba L t)
   rw [e1]
  ·refine List.filter_congr λt _=>?_
   show (match aH (t.map D.int) with | some t=>decide (ba L t≠0) | none=>false)=_
   rw [e1]
 rw [e] at key
 have hso:iQ (iV 1) [some (.d (.str kd)),some (.h n)] st=some ((aS (kvs.map Prod.fst)).map ai,st):=by
  simp only [iQ,iV,List.getD_cons_zero,List.getD_cons_succ,Option.map_some,Option.bind_some,hm,hlen,if_true]
 have hit:aR (aV (iQ (iV 1))) [some (.d (.str kd)),some (.h n)] st=some ((aS (kvs.map Prod.fst)).map ai,st):=by
  simp only [aR,aV,hso,Option.map_some,Option.bind_some]
 have hz:((aS (kvs.map Prod.fst)).map ai).length<=1000000:=by rw [List.length_map];lia
 unfold ar
 exact bR (n:=2) (k:=2) (b:=b_poly_from) rfl (bK (dO (ag rfl (ag (bT (ag (aW (df hit hz key)) rfl) rfl) rfl)) rfl (by show 2<=1000;decide)))
theorem pr (st:Sto) (kvs:List (List Int×D)):mgt (st++[.m kvs]) st.length=some kvs:=by
 unfold mgt
 rw [List.getElem?_append_right (Nat.le_refl _),Nat.sub_self];rfl
theorem vj {st:Sto}{n:Nat}{ds:List D} (h:lg st n=some ds) (u:Sto):lg (st++u) n=some ds:=by
 have hn:st[n]?=some (.l ds):=qW h
 have hlt:=(List.getElem?_eq_some_iff.mp hn).1
 unfold lg
 rw [List.getElem?_append_left hlt,hn]
theorem uW {st:Sto}{kvs:List (List Int×D)}{L:List Prt}{a0 a1:Option W}{p:Prt} (G:GK kvs L) (hl:kvs.length < 1000) :
  bx [a0,a1,some (.h st.length),some (.d (ai p.1)),some (.d (.int p.2))] (st++[.m kvs])=some (.nx [a0,a1,some (.h st.length),some (.d (ai p.1)),some (.d (.int p.2))] (st++[.m (jB kvs p.1 (.int (ba L p.1+p.2)))])):=by
 have e1:aH (p.1.map D.int)=some p.1:=bN p.1
 have e2:=pr st kvs
 have e3:=G.getD p.1
 have e4:(st++[C.m kvs]).set st.length (.m (jB kvs p.1 (.int (ba L p.1+p.2))))=st++[.m (jB kvs p.1 (.int (ba L p.1+p.2)))]:=by
  rw [List.set_append_right _ _ (Nat.le_refl _),Nat.sub_self];rfl
 have g:oi (iV 2) (iV 3) (iC (.int 0)) [a0,a1,some (.h st.length),some (.d (ai p.1)),some (.d (.int p.2))] (st++[.m kvs])=some (.d (.int (ba L p.1)),st++[.m kvs]):=by
  simp only [oi,iV,iC,ai,List.getD_cons_zero,List.getD_cons_succ,Option.map_some,Option.bind_some,e1,e2,e3]
 have g2:=ax (g:=fG) (b:=iV 4) (y:=.d (.int p.2)) (d:=.int (ba L p.1+p.2)) g rfl rfl
 simp only [ai] at g2 ⊢
 simp only [bx,rJ,g2,iV,List.getD_cons_zero,List.getD_cons_succ,Option.map_some,Option.bind_some,e1,e2,hl,if_true,e4]
noncomputable def nG (st:Sto) (w:W) (L:List Prt):Prop:=w=.d (.tup (L.map al))\/w=.d (.lst (L.map al))\/∃ n,w=.h n/\lg st n=some (L.map al)
theorem y8 {kvs:List (List Int×D)}{L:List Prt} (G:GK kvs L) (h6:∀ p ∈ L,Trm 6 p.1):kvs.length<=64:=by
 have:=io G.nd λt ht=>by
  obtain⟨p,hp,rfl⟩:=List.mem_map.mp ((G.mem t).mp ht)
  exact h6 p hp
 rw [List.length_map] at this;exact this
theorem wM {st:Sto}{kd:Str}{w:W}{L:List Prt} (hw:nG st w L) (h6:∀ p ∈ L,Trm 6 p.1) :
  ∃ ks:List (List Int),ks.Pairwise ltL/\ks.Nodup/\(∀ t,t ∈ ks↔t ∈ L.map Prod.fst)/\m_gathered [.d (.str kd),w] st=some (.d (ar kd (ef ks L)),st):=by
 have step:∀ (i:Nat) (d:D) (env:Ev) (s:Sto),(L.map al)[i]?=some d->(∃ o3 o4 kvs,env=[some (.d (.str kd)),some w,some (.h st.length),o3,o4]/\s=st++[.m kvs]/\GK kvs (L.take i))->
   ∃ e1 e2 s2,d8 (.tp [3,4]) (.d d) env=some e1/\(bx e1 s=some (.nx e2 s2)\/bx e1 s=some (.ct e2 s2))/\∃ o3 o4 kvs,e2=[some (.d (.str kd)),some w,some (.h st.length),o3,o4]/\s2=st++[.m kvs]/\GK kvs (L.take (i+1)):=by
  rintro i d env s hd ⟨o3,o4,kvs,rfl,rfl,G⟩
  obtain⟨p,hp,rfl⟩:=mE hd
  have hlen:=y8 G λq hq=>h6 q (List.mem_of_mem_take hq)
  have htk:L.take (i+1)=L.take i++[p]:=by rw [List.take_add_one,hp];rfl
  exact⟨_,_,_,rfl,.inl (uW G (by lia)),_,_,_,rfl,rfl,by rw [htk];exact G.put p⟩
 have fin:∀ (kvs:List (List Int×D)) (o3 o4:Option W),GK kvs L->oB (iV 1) (.tp [3,4]) bx [some (.d (.str kd)),some w,some (.h st.length),none,none] (st++[.m []])=some (.nx [some (.d (.str kd)),some w,some (.h st.length),o3,o4] (st++[.m kvs]))->
   ∃ ks:List (List Int),ks.Pairwise ltL/\ks.Nodup/\(∀ t,t ∈ ks↔t ∈ L.map Prod.fst)/\m_gathered [.d (.str kd),w] st=some (.d (ar kd (ef ks L)),st):=by
  intro kvs o3 o4 G hF
  refine⟨aS (kvs.map Prod.fst),iO G.nd,(bf _).nodup_iff.mpr G.nd,λt=>((bf _).mem_iff).trans (G.mem t),?_⟩
  have hf:=xQ (st:=st++[.m kvs]) (kd:=kd) (pr st kvs) G h6
  have hq:=ie (n:=5) (k:=2) (b:=b_gathered) (ws:=[.d (.str kd),w]) (st:=st) (s:=st++[.m kvs]) (x:=ar kd (ef (aS (kvs.map Prod.fst)) L)) rfl
   (aC (bW (w:=.h st.length) (s:=st++[C.m []]) rfl) (aC hF (bK (av rfl hf))))
  have ht:(st++[C.m kvs]).take st.length=st:=by rw [List.take_left'];rfl
  rw [ht] at hq
  exact hq
 rcases hw with rfl | rfl | ⟨n,rfl,hn⟩
 ·obtain⟨e',s',hF,o3,o4,kvs,rfl,rfl,G⟩:=da (g:=.tp [3,4]) (body:=bx) (ds:=L.map al) (λi env s=>∃ o3 o4 kvs,env=[some (.d (.str kd)),some (.d (.tup (L.map al))),some (.h st.length),o3,o4]/\s=st++[.m kvs]/\GK kvs (L.take i)) (env:=[some (.d (.str kd)),some (.d (.tup (L.map al))),some (.h st.length),none,none]) (st:=st++[.m []]) ⟨none,none,[],rfl,rfl,GK.nil⟩ step
  rw [List.length_map,List.take_length] at G
  exact fin kvs o3 o4 G hF
 ·obtain⟨e',s',hF,o3,o4,kvs,rfl,rfl,G⟩:=da (g:=.tp [3,4]) (body:=bx) (ds:=L.map al) (λi env s=>∃ o3 o4 kvs,env=[some (.d (.str kd)),some (.d (.lst (L.map al))),some (.h st.length),o3,o4]/\s=st++[.m kvs]/\GK kvs (L.take i)) (env:=[some (.d (.str kd)),some (.d (.lst (L.map al))),some (.h st.length),none,none]) (st:=st++[.m []]) ⟨none,none,[],rfl,rfl,GK.nil⟩ step
  rw [List.length_map,List.take_length] at G
  exact fin kvs o3 o4 G hF
 ·obtain⟨e',s',hF,o3,o4,kvs,rfl,rfl,G⟩:=oE (n:=n) (all:=L.map al) (g:=.tp [3,4]) (body:=bx) (ds:=L.map al) (λi env s=>∃ o3 o4 kvs,env=[some (.d (.str kd)),some (.h n),some (.h st.length),o3,o4]/\s=st++[.m kvs]/\GK kvs (L.take i)) (env:=[some (.d (.str kd)),some (.h n),some (.h st.length),none,none]) (st:=st++[.m []]) ⟨none,none,[],rfl,rfl,GK.nil⟩ (by
   rintro i env s ⟨o3,o4,kvs,rfl,rfl,G⟩
   exact vj hn _) step
  rw [List.length_map,List.take_length] at G
  refine fin kvs o3 o4 G ?_
  have:=vj hn [C.m []]
  simp only [oB,iV,List.getD_cons_zero,List.getD_cons_succ,Option.map_some,Option.bind_some,this]
  exact hF
theorem ki {α:Type}:∀ l:List α,(l.map λ_=>(0:Int)).sum=0
 | []=>rfl
 | x::l=>by rw [List.map_cons,List.sum_cons,ki l];rfl
theorem qK (p:Prt) (L:List Prt) (t:List Int):ba (p::L) t=(if p.1=t then p.2 else 0)+ba L t:=by
 unfold ba
 rw [List.filter_cons]
 by_cases e:p.1=t
 ·rw [if_pos (decide_eq_true e),if_pos e,List.map_cons,List.sum_cons]
 ·rw [if_neg (by simpa using e),if_neg e,Int.zero_add]
theorem oI (f:List Int->Int) (c:Int) (t:List Int):∀ ks:List (List Int),ks.Nodup->t ∈ ks->(ks.map λk=>(if t=k then c else 0)*f k).sum=c*f t
 | [],_,h=>by cases h
 | k::ks,hn,h=>by
  have hn':=List.nodup_cons.mp hn
  rw [List.map_cons,List.sum_cons]
  by_cases e:t=k
  ·subst e
   rw [if_pos rfl]
   have:(ks.map λk=>(if t=k then c else 0)*f k).sum=0:=by
    have:(ks.map λk=>(if t=k then c else 0)*f k)=ks.map λ_=>(0:Int):=List.map_congr_left λk hk=>by
     rw [if_neg (λz=>hn'.1 (by rw [z];exact hk)),Int.zero_mul]
    rw [this,ki]
   rw [this,Int.add_zero]
  ·rw [if_neg e,Int.zero_mul,Int.zero_add]
   exact oI f c t ks hn'.2 ((List.mem_cons.mp h).resolve_left e)
theorem sn {α:Type} (f g:α->Int):∀ l:List α,(l.map λx=>f x+g x).sum=(l.map f).sum+(l.map g).sum
 | []=>rfl
 | x::l=>by rw [List.map_cons,List.map_cons,List.map_cons,List.sum_cons,List.sum_cons,List.sum_cons,sn f g l];lia
theorem n8 (f:List Int->Int) {ks:List (List Int)} (hn:ks.Nodup):∀ L:List Prt,(∀ p ∈ L,p.1 ∈ ks)->(ks.map λt=>ba L t*f t).sum=(L.map λp=>p.2*f p.1).sum
 | [],_=>by
  have:(ks.map λt=>ba [] t*f t)=ks.map λ_=>(0:Int):=List.map_congr_left λt _=>by show (0:Int)*_=0;rw [Int.zero_mul]
  rw [this,ki];rfl
 | p::L,h=>by
  rw [List.map_cons,List.sum_cons,<-n8 f hn L λq hq=>h q (List.mem_cons_of_mem _ hq)]
  have e:(ks.map λt=>ba (p::L) t*f t)=ks.map λt=>(if p.1=t then p.2 else 0)*f t+ba L t*f t:=List.map_congr_left λt _=>by
   rw [qK,Int.add_mul]
  rw [e,sn,oI f p.2 p.1 ks hn (h p List.mem_cons_self)]
theorem tL (f:List Int->Int) (ks:List (List Int)) (L:List Prt):((ef ks L).map λp=>p.2*f p.1).sum=(ks.map λt=>ba L t*f t).sum:=by
 unfold ef
 rw [List.map_map]
 induction ks with
 | nil=>rfl
 | cons t ks ih=>
  rw [List.filter_cons]
  by_cases h:ba L t=0
  ·rw [if_neg (by simp [h]),List.map_cons,List.sum_cons,h,Int.zero_mul,Int.zero_add];exact ih
  ·rw [if_pos (by simp [h]),List.map_cons,List.map_cons,List.sum_cons,List.sum_cons,ih];rfl
theorem uK {b:Bool}{row:Int}{ks:List (List Int)}{L:List Prt} (hn:ks.Nodup) (hm:∀ t,t ∈ ks↔t ∈ L.map Prod.fst):bv b (ef ks L) row=bv b L row:=by
 unfold bv
 rw [tL (λt=>cg b t row),n8 (λt=>cg b t row) hn L λp hp=>(hm p.1).mpr (List.mem_map_of_mem hp)]
end Own
end
section
set_option maxHeartbeats 1000000
namespace Own
open PySem L2
theorem vD (s:Sto) (a b:Str):dNe s (.d (.str a)) (.d (.str b))=some (.bl (!(a==b))):=by
 show ((eqK (.fl (.str a)) (.fl (.str b))).map λk=>D.bl (!k))=_
 rfl
theorem mC {i:Int} (h:i.natAbs < 2 ^ 200):decide (i.natAbs.log2 < 1920)=true:=by
 refine decide_eq_true ?_
 rcases Nat.eq_zero_or_pos i.natAbs with h0 | hp
 ·rw [h0];decide
 ·exact Nat.lt_trans ((Nat.log2_lt (Nat.ne_of_gt hp)).mpr h) (by decide)
theorem nE:∀ {t:List Int},(∀ k ∈ t,k.natAbs < 2 ^ 200)->dY (t.map D.int)=true/\eV (t.map D.int)<=2002*t.length/\e8 (t.map D.int)<=1
 | [],_=>by rw [List.map_nil,dY,eV,e8];exact⟨rfl,Nat.zero_le _,Nat.zero_le _⟩
 | k::t,h=>by
  obtain⟨a,b,c⟩:=nE (t:=t) λx hx=>h x (List.mem_cons_of_mem _ hx)
  rw [List.map_cons,dY,eV,e8,rpD,wtD,dpD,mC (h k List.mem_cons_self),a,List.length_cons]
  ·exact⟨rfl,by lia,by lia⟩
  all_goals (intro _ e;cases e)
theorem oY:∀ {ps:List Prt},(∀ p ∈ ps,Trm 6 p.1/\p.2.natAbs < 2 ^ 200)->dY (ps.map al)=true/\eV (ps.map al)<=20000*ps.length/\e8 (ps.map al)<=3
 | [],_=>by rw [List.map_nil,dY,eV,e8];exact⟨rfl,Nat.zero_le _,Nat.zero_le _⟩
 | p::ps,h=>by
  obtain⟨a,b,c⟩:=oY (ps:=ps) λx hx=>h x (List.mem_cons_of_mem _ hx)
  obtain⟨h1,h2⟩:=h p List.mem_cons_self
  have hl:=jO h1
  obtain⟨a1,b1,c1⟩:=nE (t:=p.1) λk hk=>by
   have:=h1.2 k hk
   exact Nat.lt_of_lt_of_le (show k.natAbs < 6 by lia) (by decide)
  have r1:rpD (al p)=true:=by
   unfold al ai
   rw [rpD,dY,rpD,dY,dY,rpD,mC h2,a1];rfl
  have w1:wtD (al p)<=19998:=by
   unfold al ai
   rw [wtD,eV,wtD,eV,eV,wtD];lia
  have d1:dpD (al p)<=3:=by
   unfold al ai
   rw [dpD,e8,dpD,e8,e8,dpD]
   ·lia
   all_goals (intro _ e;cases e)
  rw [List.map_cons,dY,eV,e8,r1,a,List.length_cons]
  exact⟨rfl,by lia,by lia⟩
theorem wI {b:Bool}{ps:List Prt} (h:∀ p ∈ ps,Trm 6 p.1/\p.2.natAbs < 2 ^ 200) (lp:ps.length<=64):rpD (ar (ak b) ps)=true/\wtD (ar (ak b) ps)<=2000000/\dpD (ar (ak b) ps)<=5:=by
 obtain⟨a,w,d⟩:=oY h
 have hk:(reprText (ak b)).length<=100:=by cases b<;>decide +kernel
 unfold ar
 refine⟨?_,?_,?_⟩
 ·rw [rpD,dY,rpD,dY,rpD,dY,a];rfl
 ·rw [wtD,eV,wtD,eV,wtD,eV];lia
 ·rw [dpD,e8,dpD,e8,dpD,e8]
  ·lia
  all_goals (intro _ e;cases e)
theorem qy {n:Nat}{t:List Int} (hn:n<=6) (h:Trm n t):au t < 2 ^ n:=by
 apply Nat.lt_pow_two_of_testBit
 intro i hi
 rw [bB (h.mono hn)]
 exact decide_eq_false λhm=>by have:=(h.2 _ hm).2;lia
theorem vP:((List.range 7).all λn=>(List.range (2 ^ n)).all λm=>(cX n).contains (ksI m))=true:=by decide +kernel
theorem pM {n:Nat}{t:List Int} (hn:n<=6) (h:Trm n t):t ∈ cX n:=by
 have:=List.all_eq_true.mp (List.all_eq_true.mp vP n (List.mem_range.mpr (by lia))) (au t) (List.mem_range.mpr (qy hn h))
 rw [db (h.mono hn)] at this
 simpa using this
theorem yN:((List.range 64).all λa=>(List.range 64).all λb=>a==b || !(hT (ksI a)==hT (ksI b)))=true:=by decide +kernel
theorem yU {t u:List Int} (ht:Trm 6 t) (hu:Trm 6 u) (h:hT t=hT u):t=u:=by
 have:=List.all_eq_true.mp (List.all_eq_true.mp yN (au t) (List.mem_range.mpr (qy (Nat.le_refl 6) ht))) (au u) (List.mem_range.mpr (qy (Nat.le_refl 6) hu))
 rw [db ht,db hu,h,beq_self_eq_true,Bool.not_true,Bool.or_false] at this
 rw [<-db ht,<-db hu,eq_of_beq this]
theorem oG:∀ {ls:List (List Int)},(∀ t ∈ ls,Trm 6 t)->ls.Nodup->(ls.map hT).Nodup
 | [],_,_=>List.nodup_nil
 | t::ls,h,hn=>by
  have hn':=List.nodup_cons.mp hn
  rw [List.map_cons]
  refine List.nodup_cons.mpr ⟨λhm=>?_,oG (λu hu=>h u (List.mem_cons_of_mem _ hu)) hn'.2⟩
  obtain⟨u,hu,e⟩:=List.mem_map.mp hm
  exact hn'.1 (yU (h u (List.mem_cons_of_mem _ hu)) (h t List.mem_cons_self) e ▸ hu)
theorem qA {a b:List Int} (h:ltL a b):leL a b:=by
 unfold leL
 cases e:bD b a with
 | false=>rfl
 | true=>
  have:=jR a b a h e
  rw [gU] at this;cases this
theorem eh {ls:List (List Int)} (h:ls.Pairwise ltL):ls.Nodup:=h.imp λ{a b} hab e=>by
 subst e
 have:bD a a=true:=hab
 rw [gU] at this;cases this
theorem nW {ls:List (List Int)} (h:ls.Pairwise ltL):aS ls=ls:=cF (bf ls) (bZ ls) (h.imp λ{a b} hab=>qA hab)
theorem vB {f:Ef}{env:Ev}{st s:Sto}{ls:List (List Int)} (hf:f env st=some (.d (.lst (ls.map ai)),s)) (hs:ls.Pairwise ltL) (h6:∀ t ∈ ls,Trm 6 t):iZ f env st=some (ls.map ai,s):=by
 have hn:=eh hs
 have hl:=io hn h6
 simp only [iZ,hf,Option.bind_some,lsD,gE,hl,oG h6 hn,and_self,if_true,nW hs]
theorem mt:∀ L:List Int,dg (L.map D.int) (L.map D.int)=true
 | []=>rfl
 | x::L=>by rw [List.map_cons,dg,mt L];simp [eqD]
theorem lR:∀ L:List (List Int),dg (L.map ai) (L.map ai)=true
 | []=>rfl
 | x::L=>by
  have e:eqD (ai x) (ai x)=true:=by
   unfold ai
   rw [eqD];exact mt x
  rw [List.map_cons,dg,lR L,e];rfl
theorem rF (n:Nat):∀ L:List Int,(L.map D.int).all (okD n)=true
 | []=>rfl
 | x::L=>by
  rw [List.map_cons,List.all_cons,rF n L]
  cases n<;>rfl
theorem mT:∀ L:List (List Int),(L.map ai).all (okD 60)=true
 | []=>rfl
 | x::L=>by
  rw [List.map_cons,List.all_cons,mT L]
  show ((x.map D.int).all (okD 59) && true)=true
  rw [rF];rfl
theorem xW (s:Sto) (L:List (List Int)):dEq s (.d (.lst (L.map ai))) (.d (.lst (L.map ai)))=some (.bl true):=by
 show (eqK (.ls (L.map ai)) (.ls (L.map ai))).map (λk=>D.bl k)=_
 rw [eqK,if_pos rfl,if_pos ⟨mT _,mT _⟩,lR];rfl
noncomputable def shT (t:List Int):Str:=(toP (ai t)).shown
theorem ye {t:List Int} (s:Sto) (h:Trm 6 t):fB s [.d (ai t)]=some (.str (shT t)):=by
 have hl:=jO h
 obtain⟨a1,b1,c1⟩:=nE (t:=t) λk hk=>by
  have:=h.2 k hk
  exact Nat.lt_of_lt_of_le (show k.natAbs < 6 by lia) (by decide)
 have r1:rpD (ai t)=true:=by unfold ai;rw [rpD];exact a1
 have w1:wtD (ai t)<=16000000:=by unfold ai;rw [wtD];lia
 have d1:dpD (ai t)<=50:=by unfold ai;rw [dpD];lia
 show (if rpD (ai t)=true/\wtD (ai t)<=16000000/\dpD (ai t)<=50 then some (D.str (shT t)) else none)=_
 rw [if_pos ⟨r1,w1,d1⟩]
noncomputable def gK (n:Nat) (ps:List Prt):Prop:=(∀ p ∈ ps,Trm n p.1/\p.2≠0)/\(ps.map Prod.fst).Pairwise ltL
theorem gK.len {n:Nat}{ps:List Prt} (h:gK n ps) (hn:n<=6):ps.length<=64:=by
 have:=io (eh h.2) λt ht=>by
  obtain⟨p,hp,rfl⟩:=List.mem_map.mp ht
  exact (h.1 p hp).1.mono hn
 rw [List.length_map] at this;exact this
theorem wZ {x:Str}:∀ {l:List Str},x ∈ l->inD (.str x) (l.map D.str)=true:=λh=>by
 unfold inD
 rw [List.any_eq_true]
 exact⟨_,List.mem_map_of_mem h,by simp [eqD]⟩
theorem rZ:∀ l:List Str,(l.map D.str).all b8=true
 | []=>rfl
 | x::l=>by rw [List.map_cons,List.all_cons,rZ l];rfl
theorem t6 (s:Sto) {x:Str}{l:List Str} (h:x ∈ l):kq s (.d (.str x)) (.d (.lst (l.map D.str)))=some (.bl false):=by
 show (if b8 (.str x)=true/\(l.map D.str).all b8=true then some (D.bl (!inD (.str x) (l.map D.str))) else none)=_
 rw [if_pos ⟨rfl,rZ l⟩,wZ h];rfl
theorem tB {st:Sto}{a0 a1 a2 a5:Option W}{l:List Str}{p:Prt} (h:Trm 6 p.1) (hm:shT p.1 ∈ l) (h0:p.2≠0):cO [a0,a1,a2,some (.d (.lst (l.map D.str))),some (.d (al p)),a5] st=some (.nx [a0,a1,a2,some (.d (.lst (l.map D.str))),some (.d (al p)),a5] st):=by
 have f0:(p.2==(0:Int))=false:=by simp [h0]
 have e1:=ye st h
 have e2:=t6 st hm
 unfold al
 generalize ai p.1=tt at e1 ⊢
 generalize l.map D.str=LL at e2 ⊢
 have i1:iCB jx (ab (iV 4) (ab (iC (.ty "tuple")) am)) [a0,a1,a2,some (.d (.lst LL)),some (.d (.tup [tt,.int p.2])),a5] st=some (.d (.bl true),st):=rfl
 have n2:bX dNe (iCB ir (ab (iV 4) am)) (iC (.int 2)) [a0,a1,a2,some (.d (.lst LL)),some (.d (.tup [tt,.int p.2])),a5] st=some (false,st):=bH (x:=.d (.int 2)) (y:=.d (.int 2)) rfl rfl (by rw [qF];rfl)
 have n3:bX kq (iCB fB (ab (iOp dIx (iV 4) (iC (.int 0))) am)) (iV 3) [a0,a1,a2,some (.d (.lst LL)),some (.d (.tup [tt,.int p.2])),a5] st=some (false,st):=bH (bT (ag (ax rfl rfl (ix0 _ _ _)) rfl) e1) rfl e2
 have j1:iCB jx (ab (iOp dIx (iV 4) (iC (.int 1))) (ab (iC (.ty "int")) am)) [a0,a1,a2,some (.d (.lst LL)),some (.d (.tup [tt,.int p.2])),a5] st=some (.d (.bl true),st):=bT (ag (ax rfl rfl (ix1 _ _ _ _)) rfl) rfl
 have j2:iCB jx (ab (iOp dIx (iV 4) (iC (.int 1))) (ab (iC (.ty "bool")) am)) [a0,a1,a2,some (.d (.lst LL)),some (.d (.tup [tt,.int p.2])),a5] st=some (.d (.bl false),st):=bT (ag (ax rfl rfl (ix1 _ _ _ _)) rfl) rfl
 have j3:bX dEq (iOp dIx (iV 4) (iC (.int 1))) (iC (.int 0)) [a0,a1,a2,some (.d (.lst LL)),some (.d (.tup [tt,.int p.2])),a5] st=some (false,st):=bH (ax rfl rfl (ix1 _ _ _ _)) rfl (by rw [zv,f0])
 exact aC (iB (jh (lU (qR i1)) (jh n2 n3)) rfl) (iB (jh (lU (qR j1)) (jh (qR j2) j3)) rfl)
theorem tD {st:Sto}{b:Bool}{n:Nat}{ps:List Prt} (hn:n<=6) (h:gK n ps):m__law_is_poly [.d (ar (ak b) ps),.d (.str (ak b)),.d (.int n)] st=some (.d (.bl true),st):=by
 have hlen:=h.len hn
 obtain⟨h1,h2⟩:=h
 have ht:=oM (st:=st) hn
 have kE:lcI (.nm 0) dX cL [none] ((cX n).map ai) st=some (((cX n).map shT).map D.str,st):=by
  have:=jS (g:=.nm 0) (te:=cL) (env:=[none]) (st:=st) (λd=>match d with | .tup ds=>(match aH ds with | some t=>D.str (shT t) | none=>d) | d=>d) (ds:=(cX n).map ai) λd hd=>by
   obtain⟨t,ht,rfl⟩:=List.mem_map.mp hd
   refine⟨_,rfl,?_⟩
   have e1:aH (t.map D.int)=some t:=bN t
   show _=some (W.d (match aH (t.map D.int) with | some t=>D.str (shT t) | none=>ai t),st)
   rw [e1]
   exact bT (ag rfl rfl) (ye st ((nS ht).mono hn))
  rw [this,List.map_map,List.map_map]
  congr 2
  refine List.map_congr_left λt _=>?_
  have e1:aH (t.map D.int)=some t:=bN t
  show (match aH (t.map D.int) with | some t=>D.str (shT t) | none=>ai t)=_
  rw [e1];rfl
 obtain⟨e',s',hF,o,rfl,rfl⟩:=da (g:=.nm 4) (body:=cO) (ds:=ps.map al) (λi env s=>∃ o,env=[some (.d (ar (ak b) ps)),some (.d (.str (ak b))),some (.d (.int n)),some (.d (.lst (((cX n).map shT).map D.str))),o,none]/\s=st)
  (env:=[some (.d (ar (ak b) ps)),some (.d (.str (ak b))),some (.d (.int n)),some (.d (.lst (((cX n).map shT).map D.str))),none,none]) (st:=st) ⟨none,rfl,rfl⟩ (by
  rintro i d env s hd ⟨o,rfl,rfl⟩
  rw [List.getElem?_map,Option.map_eq_some_iff] at hd
  obtain⟨p,hp,rfl⟩:=hd
  have:=h1 p (List.mem_of_getElem? hp)
  exact⟨_,_,_,rfl,.inl (tB (this.1.mono hn) (List.mem_map_of_mem (pM hn this.1)) this.2),_,rfl,rfl⟩)
 have kT:lcI (.nm 0) dX cM [none] (ps.map al) s'=some ((ps.map Prod.fst).map ai,s'):=by
  have:=jS (g:=.nm 0) (te:=cM) (env:=[none]) (st:=s') (λd=>match d with | .tup (t::_)=>t | d=>d) (ds:=ps.map al) λd hd=>by
   obtain⟨p,hp,rfl⟩:=List.mem_map.mp hd
   exact⟨_,rfl,ax rfl rfl (ix0 _ _ _)⟩
  rw [this,List.map_map,List.map_map];rfl
 have h6:∀ t ∈ ps.map Prod.fst,Trm 6 t:=λt ht=>by
  obtain⟨p,hp,rfl⟩:=List.mem_map.mp ht
  exact (h1 p hp).1.mono hn
 have hz:(ps.map al).length<=1000000:=by rw [List.length_map];lia
 have hz2:((cX n).map ai).length<=1000000:=by
  rw [List.length_map,oK]
  exact Nat.le_trans (Nat.pow_le_pow_right (by decide) hn) (by decide)
 have eqT:=xW s' (ps.map Prod.fst)
 have srt:∀ {f:Ef}{env:Ev}{st s:Sto},f env st=some (.d (.lst ((ps.map Prod.fst).map ai)),s)->iZ f env st=some ((ps.map Prod.fst).map ai,s):=λhf=>vB hf h2 h6
 unfold ar at hF ⊢
 generalize (ps.map Prod.fst).map ai=TT at kT eqT srt
 generalize ((cX n).map shT).map D.str=SS at kE hF
 generalize (cX n).map ai=AA at ht kE hz2
 generalize ps.map al=PP at *
 have i1:iCB jx (ab (iV 0) (ab (iC (.ty "tuple")) am)) [some (.d (.tup [.str (ak b),.tup PP])),some (.d (.str (ak b))),some (.d (.int n)),none,none,none] s'=some (.d (.bl true),s'):=rfl
 have n2:bX dNe (iCB ir (ab (iV 0) am)) (iC (.int 2)) [some (.d (.tup [.str (ak b),.tup PP])),some (.d (.str (ak b))),some (.d (.int n)),none,none,none] s'=some (false,s'):=bH (x:=.d (.int 2)) (y:=.d (.int 2)) rfl rfl (by rw [qF];rfl)
 have n3:bX dNe (iOp dIx (iV 0) (iC (.int 0))) (iV 1) [some (.d (.tup [.str (ak b),.tup PP])),some (.d (.str (ak b))),some (.d (.int n)),none,none,none] s'=some (false,s'):=bH (ax rfl rfl (ix0 _ _ _)) rfl (by rw [vD,beq_self_eq_true];rfl)
 have i3:iCB jx (ab (iOp dIx (iV 0) (iC (.int 1))) (ab (iC (.ty "tuple")) am)) [some (.d (.tup [.str (ak b),.tup PP])),some (.d (.str (ak b))),some (.d (.int n)),none,none,none] s'=some (.d (.bl true),s'):=bT (ag (ax rfl rfl (ix1 _ _ _ _)) rfl) rfl
 exact bR (n:=6) (k:=3) (b:=b__law_is_poly) rfl (aC (iB (jh (lU (qR i1)) (jh n2 (jh n3 (lU (qR i3))))) rfl)
  (aC (bW (i:=3) (aW (df (iT (av rfl ht)) hz2 kE)))
  (aC (ik (et (ax rfl rfl (ix1 _ _ _ _))) hF)
  (aC (bW (i:=5) (aW (df (et (ax rfl rfl (ix1 _ _ _ _))) hz kT)))
  (bK (ax rfl (aW (srt rfl)) eqT))))))
end Own
end
section
set_option maxHeartbeats 1000000
namespace Own
open PySem L2
theorem xY:(lC 6).Nodup:=by decide +kernel
theorem xg:(cX 6).Pairwise ltL:=iO xY
noncomputable def kX (L:List Prt):List (List Int):=(cX 6).filter λt=>decide (t ∈ L.map Prod.fst)
theorem gN {L:List Prt} (h6:∀ p ∈ L,Trm 6 p.1) (t:List Int):t ∈ kX L↔t ∈ L.map Prod.fst:=by
 unfold kX
 rw [List.mem_filter,decide_eq_true_eq]
 refine⟨λh=>h.2,λh=>⟨?_,h⟩⟩
 obtain⟨p,hp,rfl⟩:=List.mem_map.mp h
 exact pM (Nat.le_refl 6) (h6 p hp)
theorem gc (L:List Prt):(kX L).Pairwise ltL:=xg.filter _
theorem sJ {L:List Prt}{ks:List (List Int)} (h6:∀ p ∈ L,Trm 6 p.1) (h1:ks.Pairwise ltL) (h3:∀ t,t ∈ ks↔t ∈ L.map Prod.fst):ks=kX L:=by
 refine cF ((List.perm_ext_iff_of_nodup (eh h1) (eh (gc L))).mpr λt=>?_) (h1.imp λ{a b} hab=>qA hab) ((gc L).imp λ{a b} hab=>qA hab)
 rw [h3,gN h6]
noncomputable def cx (L:List Prt):List Prt:=ef (kX L) L
theorem qX {st:Sto}{kd:Str}{w:W}{L:List Prt} (hw:nG st w L) (h6:∀ p ∈ L,Trm 6 p.1):m_gathered [.d (.str kd),w] st=some (.d (ar kd (cx L)),st):=by
 obtain⟨ks,k1,k2,k3,k4⟩:=wM (kd:=kd) hw h6
 rw [sJ h6 k1 k3] at k4
 exact k4
theorem pj {b:Bool}{row:Int}{L:List Prt} (h6:∀ p ∈ L,Trm 6 p.1):bv b (cx L) row=bv b L row:=uK (eh (gc L)) (gN h6)
theorem rH {n:Nat}{L:List Prt} (hn:n<=6) (h:∀ p ∈ L,Trm n p.1):gK n (cx L):=by
 have h6:∀ p ∈ L,Trm 6 p.1:=λp hp=>(h p hp).mono hn
 refine⟨λp hp=>?_,?_⟩
 ·unfold cx ef at hp
  obtain⟨t,ht,rfl⟩:=List.mem_map.mp hp
  have:=List.mem_filter.mp ht
  obtain⟨q,hq,e⟩:=List.mem_map.mp ((gN h6 t).mp this.1)
  exact⟨e ▸ h q hq,of_decide_eq_true this.2⟩
 ·unfold cx ef
  rw [List.map_map]
  have:(Prod.fst ∘ λt=>(t,ba L t))=(id:List Int->List Int):=rfl
  rw [this,List.map_id]
  exact (gc L).filter _
theorem rj {B:Nat}:∀ {l:List Int},(∀ x ∈ l,x.natAbs<=B)->l.sum.natAbs<=l.length*B
 | [],_=>Nat.zero_le _
 | x::l,h=>by
  have ih:=rj (l:=l) λy hy=>h y (List.mem_cons_of_mem _ hy)
  have h1:=h x List.mem_cons_self
  have h2:=Int.natAbs_add_le x l.sum
  rw [List.sum_cons,List.length_cons,Nat.add_mul];lia
theorem nZ {B:Nat}{L:List Prt} (h:∀ q ∈ L,q.2.natAbs<=B):∀ p ∈ cx L,p.2.natAbs<=L.length*B:=λp hp=>by
 unfold cx ef at hp
 obtain⟨t,_,rfl⟩:=List.mem_map.mp hp
 unfold ba
 refine Nat.le_trans (rj (B:=B) λx hx=>?_) (Nat.mul_le_mul_right _ ?_)
 ·obtain⟨q,hq,rfl⟩:=List.mem_map.mp hx
  exact h q (List.mem_filter.mp hq).1
 ·rw [List.length_map];exact List.length_filter_le _ _
theorem A0 {o:Ef}{a:Af}{env:Ev}{st s1 s2:Sto}{n:Nat}{ds ds0 xs:List D} (ho:o env st=some (.h n,s1)) (ha:a env s1=some ([.d (.lst xs)],s2)) (h0:lg s1 n=some ds0) (hg:lg s2 n=some ds) (hz:ds.length+xs.length<=1000000):gv (eD mj o a) env st=some (.nx env (s2.set n (.l (ds++xs)))):=by
 simp only [gv,eD,ho,ha,h0,hg,mj,hz,if_true,Option.bind_some,Option.map_some]
theorem xA {a b:Int}{k:Nat} (ha:a.natAbs < 2 ^ k) (hb:b.natAbs < 2 ^ k) (hk:k<=1000):PySem.IntMulOk a b:=by
 have key:∀ x:Int,x.natAbs < 2 ^ k->Builtin.Int.intBits x<=1001:=λx hx=>by
  unfold Builtin.Int.intBits
  split
  ·exact Nat.zero_le _
  ·have:x.natAbs.log2 < k+1:=by
    rcases Nat.eq_zero_or_pos x.natAbs with h0 | hp
    ·rw [h0];exact Nat.succ_pos _
    ·exact Nat.lt_succ_of_lt ((Nat.log2_lt (Nat.ne_of_gt hp)).mpr hx)
   lia
 have h1:=key a ha
 have h2:=key b hb
 have hT:Builtin.Int.intTooBig ((Builtin.Int.intBits a:Int)+(Builtin.Int.intBits b:Int))=false:=by
  unfold Builtin.Int.intTooBig
  refine decide_eq_false ?_
  have:bitsLine>=3000:=by decide
  lia
 unfold PySem.IntMulOk
 rw [hT,Bool.and_false]
 exact Bool.false_ne_true
theorem jQ (row:Int):∀ t:List Int,cf row t=(t.length:Int)↔∀ k ∈ t,onI row k=1
 | []=>by simp [cf]
 | k::t=>by
  have ih:=jQ row t
  have hc:=qZ row t
  rw [cf,List.length_cons]
  constructor
  ·intro h j hj
   rcases rN row k with e | e
   ·rw [e] at h;push_cast at h;lia
   ·rcases List.mem_cons.mp hj with rfl | hj
    ·exact e
    ·exact ih.mp (by rw [e] at h;push_cast at h;lia) j hj
  ·intro h
   rw [h k List.mem_cons_self,ih.mpr λj hj=>h j (List.mem_cons_of_mem _ hj)];push_cast;lia
noncomputable def cB (row:Int) (m:Nat) (l:List Nat):Int:=(l.map λk=>if m.testBit k=true then onI row (k:Int) else 0).sum
theorem h9 (row:Int) (m:Nat):∀ l:List Nat,cf row ((l.filter λk=>m.testBit k).map λk=>((k:Nat):Int))=cB row m l
 | []=>rfl
 | k::l=>by
  have ih:=h9 row m l
  unfold cB at *
  rw [List.filter_cons,List.map_cons,List.sum_cons,<-ih]
  by_cases h:m.testBit k=true
  ·rw [if_pos h,if_pos h];rfl
  ·rw [if_neg h,if_neg h,Int.zero_add]
theorem rL (row:Int) (m1 m2:Nat):∀ l:List Nat,cB row (m2 ^^^ m1) l % 2=(cB row m1 l+cB row m2 l) % 2
 | []=>rfl
 | k::l=>by
  have ih:=rL row m1 m2 l
  unfold cB at *
  rw [List.map_cons,List.map_cons,List.map_cons,List.sum_cons,List.sum_cons,List.sum_cons,Nat.testBit_xor]
  have h:=rN row (k:Int)
  cases m1.testBit k<;>cases m2.testBit k<;>simp only [Bool.xor_false,Bool.xor_true,Bool.not_true,Bool.not_false,Bool.false_eq_true,if_true,if_false]<;>lia
noncomputable def jn (b:Bool) (t u:List Int):List Int:=if b=true then ksI (au t ||| au u) else ksI (au u ^^^ au t)
theorem ql (b:Bool) (t u:List Int):Trm 6 (jn b t u):=by unfold jn;split<;>exact nq _
theorem yJ {b:Bool}{t u:List Int} (row:Int) (ht:Trm 6 t) (hu:Trm 6 u):cg b (jn b t u) row=cg b t row*cg b u row:=by
 cases b with
 | true=>
  simp only [cg,jn,if_true]
  have hm:(∀ k ∈ ksI (au t ||| au u),onI row k=1)↔(∀ k ∈ t,onI row k=1)/\∀ k ∈ u,onI row k=1:=by
   have mem:∀ z,z ∈ ksI (au t ||| au u)↔z ∈ t\/z ∈ u:=λz=>by
    rw [gX]
    constructor
    ·rintro⟨k,rfl,_,h⟩
     rw [Nat.testBit_or,bB ht,bB hu,Bool.or_eq_true,decide_eq_true_eq,decide_eq_true_eq] at h
     exact h
    ·intro h
     have hz:0<=z/\z < 6:=h.elim (λh=>ht.2 z h) λh=>hu.2 z h
     obtain⟨k,rfl⟩:=Int.eq_ofNat_of_zero_le hz.1
     refine⟨k,rfl,by lia,?_⟩
     rw [Nat.testBit_or,bB ht,bB hu,Bool.or_eq_true,decide_eq_true_eq,decide_eq_true_eq]
     exact h
   exact⟨λh=>⟨λk hk=>h k ((mem k).mpr (.inl hk)),λk hk=>h k ((mem k).mpr (.inr hk))⟩,λh k hk=>((mem k).mp hk).elim (h.1 k) (h.2 k)⟩
  rw [<-jQ,<-jQ,<-jQ] at hm
  by_cases h1:cf row t=(t.length:Int)<;>by_cases h2:cf row u=(u.length:Int)
  ·rw [if_pos h1,if_pos h2,if_pos (hm.mpr ⟨h1,h2⟩)];rfl
  ·rw [if_pos h1,if_neg h2,if_neg (λz=>h2 (hm.mp z).2)];rfl
  ·rw [if_neg h1,if_pos h2,if_neg (λz=>h1 (hm.mp z).1)];rfl
  ·rw [if_neg h1,if_neg h2,if_neg (λz=>h1 (hm.mp z).1)];rfl
 | false=>
  simp only [cg,jn,Bool.false_eq_true,if_false]
  have e1:cf row t=cB row (au t) (List.range 6):=by rw [<-h9];exact congrArg _ (db ht).symm
  have e2:cf row u=cB row (au u) (List.range 6):=by rw [<-h9];exact congrArg _ (db hu).symm
  have e3:cf row (ksI (au u ^^^ au t))=cB row (au u ^^^ au t) (List.range 6):=h9 row _ _
  have hx:=rL row (au t) (au u) (List.range 6)
  rw [<-e1,<-e2,<-e3] at hx
  by_cases h1:cf row t % 2=1<;>by_cases h2:cf row u % 2=1
  ·rw [if_pos h1,if_pos h2,if_neg (by lia)];rfl
  ·rw [if_pos h1,if_neg h2,if_pos (by lia)];rfl
  ·rw [if_neg h1,if_pos h2,if_pos (by lia)];rfl
  ·rw [if_neg h1,if_neg h2,if_neg (by lia)];rfl
theorem rY {t:List Int} (h:Trm 6 t):in6 t=true:=by
 unfold in6
 refine List.all_eq_true.mpr λk hk=>?_
 exact decide_eq_true (h.2 k hk)
theorem tU {st:Sto}{b:Bool}{t u:List Int} (ht:Trm 6 t) (hu:Trm 6 u):m_joined [.d (.str (ak b)),.d (ai t),.d (ai u)] st=some (.d (ai (jn b t u)),st):=by
 have s1:cz (iV 1) [some (.d (.str (ak b))),some (.d (ai t)),some (.d (ai u))] st=some (au t,st):=by
  simp only [cz,iV,ai,List.getD_cons_zero,List.getD_cons_succ,Option.map_some,Option.bind_some,el,bN,rY ht,if_true]
 have s2:cz (iV 2) [some (.d (.str (ak b))),some (.d (ai t)),some (.d (ai u))] st=some (au u,st):=by
  simp only [cz,iV,ai,List.getD_cons_zero,List.getD_cons_succ,Option.map_some,Option.bind_some,el,bN,rY hu,if_true]
 have kb:=me b
 cases b with
 | true=>
  have e:fu (ly (cz (iV 1)) (cz (iV 2))) [some (.d (.str (ak true))),some (.d (ai t)),some (.d (ai u))] st=some ((jn true t u).map D.int,st):=by
   simp only [fu,ly,s1,s2,Option.bind_some,Option.map_some,yh,jn,if_true]
  exact bR (n:=3) (k:=3) (b:=b_joined) rfl (xJ (ur (bH (x:=.d (.str (ak true))) rfl rfl (by rw [vQ,kb])) (bK (bT (ag (aW e) rfl) rfl))))
 | false=>
  have e:fu (ix (cz (iV 1)) (cz (iV 2))) [some (.d (.str (ak false))),some (.d (ai t)),some (.d (ai u))] st=some ((jn false t u).map D.int,st):=by
   simp only [fu,ix,s1,s2,Option.bind_some,Option.map_some,yh,jn,Bool.false_eq_true,if_false]
  exact bR (n:=3) (k:=3) (b:=b_joined) rfl (aC (iB (bH (x:=.d (.str (ak false))) rfl rfl (by rw [vQ,kb])) rfl) (bK (bT (ag (aW e) rfl) rfl)))
noncomputable def fm (b:Bool) (p:Prt) (qs:List Prt):List Prt:=qs.map λq=>(jn b p.1 q.1,p.2*q.2)
noncomputable def aQ (b:Bool) (ps qs:List Prt):List Prt:=(ps.map λp=>fm b p qs).flatten
theorem pG (b:Bool) (row:Int) (a c:List Prt):bv b (a++c) row=bv b a row+bv b c row:=by unfold bv;rw [List.map_append,List.sum_append]
theorem pq {b:Bool}{row:Int}{p:Prt} (hp:Trm 6 p.1):∀ {qs:List Prt},(∀ q ∈ qs,Trm 6 q.1)->bv b (fm b p qs) row=p.2*cg b p.1 row*bv b qs row
 | [],_=>by show (0:Int)=_*(0:Int);rw [Int.mul_zero]
 | q::qs,h=>by
  have ih:=pq (b:=b) (row:=row) hp λx hx=>h x (List.mem_cons_of_mem _ hx)
  have e:fm b p (q::qs)=[(jn b p.1 q.1,p.2*q.2)]++fm b p qs:=rfl
  have e2:bv b (q::qs) row=q.2*cg b q.1 row+bv b qs row:=by unfold bv;rw [List.map_cons,List.sum_cons]
  rw [e,pG,ih,e2]
  have e3:bv b [(jn b p.1 q.1,p.2*q.2)] row=p.2*q.2*cg b (jn b p.1 q.1) row:=by unfold bv;simp
  rw [e3,yJ row hp (h q List.mem_cons_self),Int.mul_add]
  congr 1
  rw [Int.mul_assoc,Int.mul_assoc]
  congr 1
  rw [<-Int.mul_assoc,Int.mul_comm q.2,Int.mul_assoc]
theorem lS {b:Bool}{row:Int}{qs:List Prt} (hq:∀ q ∈ qs,Trm 6 q.1):∀ {ps:List Prt},(∀ p ∈ ps,Trm 6 p.1)->bv b (aQ b ps qs) row=bv b ps row*bv b qs row
 | [],_=>by show (0:Int)=(0:Int)*_;rw [Int.zero_mul]
 | p::ps,h=>by
  have ih:=lS (b:=b) (row:=row) hq (ps:=ps) λx hx=>h x (List.mem_cons_of_mem _ hx)
  have e:aQ b (p::ps) qs=fm b p qs++aQ b ps qs:=by unfold aQ;rw [List.map_cons,List.flatten_cons]
  have e2:bv b (p::ps) row=p.2*cg b p.1 row+bv b ps row:=by unfold bv;rw [List.map_cons,List.sum_cons]
  rw [e,pG,ih,pq (h p List.mem_cons_self) hq,e2,Int.add_mul]
theorem mo {b:Bool}{ps qs:List Prt}:∀ p ∈ aQ b ps qs,Trm 6 p.1:=λp hp=>by
 unfold aQ at hp
 obtain⟨l,hl,hp⟩:=List.mem_flatten.mp hp
 obtain⟨x,_,rfl⟩:=List.mem_map.mp hl
 unfold fm at hp
 obtain⟨y,_,rfl⟩:=List.mem_map.mp hp
 exact ql _ _ _
theorem iI (b:Bool) (qs:List Prt):∀ ps:List Prt,(aQ b ps qs).length=ps.length*qs.length
 | []=>by simp [aQ]
 | p::ps=>by
  have e:aQ b (p::ps) qs=fm b p qs++aQ b ps qs:=by unfold aQ;rw [List.map_cons,List.flatten_cons]
  rw [e,List.length_append,iI b qs ps,List.length_cons,Nat.add_mul]
  unfold fm
  rw [List.length_map];lia
theorem qp {b:Bool}{ps qs:List Prt}{i:Nat}{p:Prt} (h:ps[i]?=some p):aQ b (ps.take (i+1)) qs=aQ b (ps.take i) qs++fm b p qs:=by
 unfold aQ
 rw [List.take_add_one,h,List.map_append,List.flatten_append]
 simp
theorem xm {st:Sto}{b:Bool}{ps qs:List Prt} (hp:∀ p ∈ ps,Trm 6 p.1) (hq:∀ q ∈ qs,Trm 6 q.1) (lp:ps.length<=64) (lq:qs.length<=64) (hb:∀ p ∈ ps,-(2 ^ 64) < p.2/\p.2 < 2 ^ 64) :
  m_product_of [.d (ar (ak b) ps),.d (ar (ak b) qs)] st=some (.d (ar (ak b) (cx (aQ b ps qs))),st):=by
 have hlc:∀ (p:Prt),Trm 6 p.1->(-(2 ^ 64) < p.2/\p.2 < 2 ^ 64)->∀ s,lcI (.tp [0,1]) dX fF [none,none,some (.d (.str (ak b))),some (.d (ai p.1)),some (.d (.int p.2))] (qs.map al) s=some ((fm b p qs).map al,s):=λp h1 h2 s=>by
  unfold fm
  rw [List.map_map]
  refine fT _ λq hm=>⟨_,rfl,?_⟩
  have e:=tU (st:=s) (b:=b) h1 (hq q hm)
  exact dO (ag (av rfl e) (ag (ax (x:=.d (.int p.2)) (y:=.d (.int q.2)) (d:=.int (p.2*q.2)) rfl rfl (by
   show (if PySem.IntMulOk p.2 q.2 then some (D.int (p.2*q.2)) else none)=_
   rw [if_pos (g7 h2)])) rfl)) rfl (by show 2<=1000;decide)
 obtain⟨e',s',hF,o4,o5,rfl,rfl⟩:=da (g:=.tp [4,5]) (body:=fH) (ds:=ps.map al) (λi env s=>∃ o4 o5,env=[some (.d (ar (ak b) ps)),some (.d (ar (ak b) qs)),some (.d (.str (ak b))),some (.h st.length),o4,o5]/\s=st++[.l ((aQ b (ps.take i) qs).map al)])
  (env:=[some (.d (ar (ak b) ps)),some (.d (ar (ak b) qs)),some (.d (.str (ak b))),some (.h st.length),none,none]) (st:=st++[.l []]) ⟨none,none,rfl,rfl⟩ (by
  rintro i d env s hd ⟨o4,o5,rfl,rfl⟩
  obtain⟨p,hpi,rfl⟩:=mE hd
  have hmem:=List.mem_of_getElem? hpi
  have hl:=hlc p (hp p hmem) (hb p hmem) (st++[.l ((aQ b (ps.take i) qs).map al)])
  have hg2:lg (st++[C.l ((aQ b (ps.take i) qs).map al)]) st.length=some ((aQ b (ps.take i) qs).map al):=by
   unfold lg
   rw [List.getElem?_append_right (Nat.le_refl _),Nat.sub_self];rfl
  have hln:(aQ b (ps.take i) qs).length<=64*64:=by
   rw [iI]
   exact Nat.mul_le_mul (Nat.le_trans (List.length_take_le _ _) (by have:=(List.getElem?_eq_some_iff.mp hpi).1;lia)) lq
  have hz:((aQ b (ps.take i) qs).map al).length+((fm b p qs).map al).length<=1000000:=by
   unfold fm
   rw [List.length_map,List.length_map,List.length_map];lia
  have hset:(st++[C.l ((aQ b (ps.take i) qs).map al)]).set st.length (.l ((aQ b (ps.take i) qs).map al++(fm b p qs).map al))=st++[.l ((aQ b (ps.take (i+1)) qs).map al)]:=by
   rw [List.set_append_right _ _ (Nat.le_refl _),Nat.sub_self,qp hpi,List.map_append];rfl
  refine⟨_,_,_,rfl,.inl ?_,some (.d (ai p.1)),some (.d (.int p.2)),rfl,rfl⟩
  rw [<-hset]
  have hz2:(qs.map al).length<=1000000:=by rw [List.length_map];lia
  unfold ar
  generalize (fm b p qs).map al=RL at hl hz
  generalize (aQ b (ps.take i) qs).map al=AC at hl hg2 hz
  generalize qs.map al=QQ at hl hz2
  generalize ps.map al=PP
  have q1:=aW (df (k:=2) (js:=[2,4,5]) (env:=[some (.d (.tup [.str (ak b),.tup PP])),some (.d (.tup [.str (ak b),.tup QQ])),some (.d (.str (ak b))),some (.h st.length),some (.d (ai p.1)),some (.d (.int p.2))]) (et (f:=iOp dIx (iV 1) (iC (.int 1))) (ax rfl rfl (ix1 _ _ _ _))) hz2 hl)
  have q2:=ag (b:=am) q1 rfl
  exact A0 (o:=iV 3) rfl q2 hg2 hg2 hz)
 rw [List.length_map,List.take_length] at hF
 have hw:nG (st++[C.l ((aQ b ps qs).map al)]) (.h st.length) (aQ b ps qs):=.inr (.inr ⟨_,rfl,by
  unfold lg
  rw [List.getElem?_append_right (Nat.le_refl _),Nat.sub_self];rfl⟩)
 have k4:=qX (kd:=ak b) hw mo
 generalize cx (aQ b ps qs)=R at k4 ⊢
 have hq2:=ie (n:=6) (k:=2) (b:=b_product_of) (ws:=[.d (ar (ak b) ps),.d (ar (ak b) qs)]) (st:=st) (s:=st++[C.l ((aQ b ps qs).map al)]) (x:=ar (ak b) R) rfl
  (aC (bW (w:=.d (.str (ak b))) (s:=st) (ax rfl rfl (ix0 _ _ _))) (aC (bW (w:=.h st.length) (s:=st++[C.l []]) rfl) (aC (ik (et (ax rfl rfl (ix1 _ _ _ _))) hF) (bK (av rfl k4)))))
 have ht:(st++[C.l ((aQ b ps qs).map al)]).take st.length=st:=by rw [List.take_left'];rfl
 rw [ht] at hq2
 exact hq2
theorem kL (b:Bool) (row c:Int):∀ ps:List Prt,bv b (ps.map λp=>(p.1,c*p.2)) row=c*bv b ps row
 | []=>by show (0:Int)=c*0;rw [Int.mul_zero]
 | p::ps=>by
  have ih:=kL b row c ps
  have e2:bv b (p::ps) row=p.2*cg b p.1 row+bv b ps row:=by unfold bv;rw [List.map_cons,List.sum_cons]
  have e3:bv b ((p::ps).map λp=>(p.1,c*p.2)) row=c*p.2*cg b p.1 row+bv b (ps.map λp=>(p.1,c*p.2)) row:=by unfold bv;rw [List.map_cons,List.map_cons,List.sum_cons]
  rw [e2,e3,ih,Int.mul_add,Int.mul_assoc]
theorem vF {st:Sto}{b:Bool}{ps:List Prt}{c:Int} (hp:∀ p ∈ ps,Trm 6 p.1) (lp:ps.length<=64) (hc:-(2 ^ 64) < c/\c < 2 ^ 64) :
  m_often [.d (ar (ak b) ps),.d (.int c)] st=some (.d (ar (ak b) (cx (ps.map λp:Prt=>((p.1,c*p.2):Prt)))),st):=by
 have h6:∀ p ∈ ps.map (λp:Prt=>((p.1,c*p.2):Prt)),Trm 6 p.1:=λp hm=>by
  obtain⟨q,hq,rfl⟩:=List.mem_map.mp hm
  exact hp q hq
 have key:lcI (.tp [0,1]) dX mn [none,none,some (.d (.int c))] (ps.map al) st=some ((ps.map λp:Prt=>((p.1,c*p.2):Prt)).map al,st):=by
  rw [List.map_map]
  refine fT _ λq hm=>⟨_,rfl,?_⟩
  exact dO (ag rfl (ag (ax (x:=.d (.int c)) (y:=.d (.int q.2)) (d:=.int (c*q.2)) rfl rfl (by
   show (if PySem.IntMulOk c q.2 then some (D.int (c*q.2)) else none)=_
   rw [if_pos (g7 hc)])) rfl)) rfl (by show 2<=1000;decide)
 have k4:=qX (st:=st) (kd:=ak b) (w:=.d (.lst ((ps.map λp:Prt=>((p.1,c*p.2):Prt)).map al))) (.inr (.inl rfl)) h6
 generalize cx (ps.map λp:Prt=>((p.1,c*p.2):Prt))=R at k4 ⊢
 have hz:(ps.map al).length<=1000000:=by rw [List.length_map];lia
 generalize (ps.map λp:Prt=>((p.1,c*p.2):Prt)).map al=LL at *
 unfold ar at k4 ⊢
 generalize ps.map al=PP at *
 exact bR (n:=2) (k:=2) (b:=b_often) rfl (bK (av (ag (ax rfl rfl (ix0 _ _ _)) (ag (aW (df (et (ax rfl rfl (ix1 _ _ _ _))) hz key)) rfl)) k4))
end Own
end
section
set_option maxHeartbeats 1000000
namespace Own
open PySem L2
noncomputable def mvP (m:Int) (p:Prt):Prt:=(p.1.map (·+m),p.2)
theorem yH {te:Ef}{st:Sto}{m:Int} (hte:∀ k:Int,te [some (.d (.int k)),some (.d (.int m))] st=some (.d (.int (k+m)),st)) (t:List Int):lcI (.nm 0) dX te [none,some (.d (.int m))] (t.map D.int) st=some ((t.map (·+m)).map D.int,st):=by
 have:(t.map (·+m)).map D.int=(t.map D.int).map λd=>match d with | .int k=>.int (k+m) | d=>d:=by rw [List.map_map,List.map_map];rfl
 rw [this]
 exact jS _ λd hd=>by
  obtain⟨k,_,rfl⟩:=List.mem_map.mp hd
  exact⟨_,rfl,hte k⟩
theorem u5 {st:Sto}{kd:Str}{ps:List Prt}{m:Int} (hl:ps.length<=1000) (hp:∀ p ∈ ps,p.1.length<=1000):m_moved [.d (ar kd ps),.d (.int m)] st=some (.d (ar kd (ps.map (mvP m))),st):=by
 have key:lcI (.tp [0,1]) dX mF [none,none,some (.d (.int m))] (ps.map al) st=some (ps.map λp=>al (mvP m p),st):=fT _ λp hm=>by
  refine⟨_,rfl,?_⟩
  have k2:=yH (te:=mh) (st:=st) (m:=m) (λk=>rfl) p.1
  have hz:(p.1.map D.int).length<=1000000:=by rw [List.length_map];have:=hp p hm;lia
  show _=some (W.d (.tup [.tup ((p.1.map (·+m)).map D.int),.int p.2]),st)
  generalize (p.1.map (·+m)).map D.int=L at k2 ⊢
  unfold ai
  generalize p.1.map D.int=PP at k2 hz ⊢
  exact dO (ag (bT (ag (aW (df (i4 rfl) hz k2)) rfl) rfl) (ag rfl rfl)) rfl (by show 2<=1000;decide)
 have hz:(ps.map al).length<=1000000:=by rw [List.length_map];lia
 have em:(ps.map (mvP m)).map al=ps.map λp=>al (mvP m p):=by rw [List.map_map];rfl
 unfold ar
 rw [em]
 generalize (ps.map λp=>al (mvP m p))=L at key ⊢
 generalize ps.map al=PP at key hz ⊢
 exact bR (n:=2) (k:=2) (b:=b_moved) rfl (bK (dO (ag (ax rfl rfl (ix0 _ _ _)) (ag (bT (ag (aW (df (et (ax rfl rfl (ix1 _ _ _ _))) hz key)) rfl) rfl) rfl)) rfl (by show 2<=1000;decide)))
theorem xy {row:Int}{k:Int}{n:Nat} (k0:0<=k):onI row (k+(n:Int))=onI (row / 2 ^ n) k:=by
 unfold onI
 have e:(k+(n:Int)).toNat=n+k.toNat:=by lia
 rw [e,Int.pow_add,Int.ediv_ediv_of_nonneg (Int.le_of_lt (Int.pow_pos (by decide)))]
theorem vo (r k:Nat):onI (r:Int) (k:Int)=((r / 2 ^ k % 2:Nat):Int):=by
 unfold onI
 rw [Int.toNat_natCast];push_cast;rfl
theorem wU {r:Nat}{k:Int}{n:Nat} (k0:0<=k) (h:k < n):onI ((r:Int) % 2 ^ n) k=onI (r:Int) k:=by
 obtain⟨j,rfl⟩:=Int.eq_ofNat_of_zero_le k0
 have e0:((r:Int) % 2 ^ n)=((r % 2 ^ n:Nat):Int):=by push_cast;rfl
 rw [e0,vo,vo]
 have e:(2:Nat) ^ n=2 ^ j*(2*2 ^ (n - j - 1)):=by
  rw [<-Nat.mul_assoc,show (2:Nat) ^ j*2=2 ^ (j+1) from (Nat.pow_succ 2 j).symm,<-Nat.pow_add];congr 1;lia
 rw [e,Nat.mod_mul_right_div_self,Nat.mod_mul_right_mod]
theorem my {r1 r2:Int}:∀ {t:List Int},(∀ k ∈ t,onI r1 k=onI r2 k)->cf r1 t=cf r2 t
 | [],_=>rfl
 | k::t,h=>by rw [cf,cf,h k List.mem_cons_self,my λj hj=>h j (List.mem_cons_of_mem _ hj)]
theorem v8 {r1 r2 m:Int}:∀ {t:List Int},(∀ k ∈ t,onI r1 (k+m)=onI r2 k)->cf r1 (t.map (·+m))=cf r2 t
 | [],_=>rfl
 | k::t,h=>by rw [List.map_cons,cf,cf,h k List.mem_cons_self,v8 λj hj=>h j (List.mem_cons_of_mem _ hj)]
theorem pT {b:Bool}{r1 r2:Int}{ps:List Prt} (h:∀ p ∈ ps,∀ k ∈ p.1,onI r1 k=onI r2 k):bv b ps r1=bv b ps r2:=by
 unfold bv
 congr 1
 refine List.map_congr_left λp hp=>?_
 unfold cg
 rw [my (h p hp)]
theorem wQ {b:Bool}{r1 r2 m:Int}{ps:List Prt} (h:∀ p ∈ ps,∀ k ∈ p.1,onI r1 (k+m)=onI r2 k):bv b (ps.map (mvP m)) r1=bv b ps r2:=by
 unfold bv
 rw [List.map_map]
 congr 1
 refine List.map_congr_left λp hp=>?_
 show p.2*cg b (p.1.map (·+m)) r1=_
 unfold cg
 rw [v8 (h p hp),List.length_map]
theorem y9 {n m:Nat}{t:List Int} (h:Trm m t):Trm (n+m) (t.map (·+(n:Int))):=by
 refine⟨?_,λk hk=>?_⟩
 ·rw [List.pairwise_map]
  exact h.1.imp λ{a b} hab=>by lia
 ·obtain⟨j,hj,rfl⟩:=List.mem_map.mp hk
  have:=h.2 j hj
  push_cast;lia
theorem Bc {b:Bool}{n:Nat}{t u:List Int} (hn:n<=6) (ht:Trm n t) (hu:Trm n u):Trm n (jn b t u):=by
 have key:∀ k:Nat,((au t).testBit k=true\/(au u).testBit k=true)->(k:Int) < n:=λk h=>by
  rw [bB (ht.mono hn),bB (hu.mono hn),decide_eq_true_eq,decide_eq_true_eq] at h
  exact h.elim (λh=>(ht.2 _ h).2) λh=>(hu.2 _ h).2
 refine⟨(ql b t u).1,λz hz=>⟨((ql b t u).2 z hz).1,?_⟩⟩
 unfold jn at hz
 split at hz
 ·obtain⟨k,rfl,_,h⟩:=gX.mp hz
  rw [Nat.testBit_or,Bool.or_eq_true] at h
  exact key k h
 ·obtain⟨k,rfl,_,h⟩:=gX.mp hz
  rw [Nat.testBit_xor] at h
  refine key k ?_
  cases h1:(au t).testBit k with
  | true=>exact .inl rfl
  | false=>
   rw [h1,Bool.xor_false] at h
   exact .inr h
theorem uN {b:Bool}{n:Nat}{ps qs:List Prt} (hn:n<=6) (hp:∀ p ∈ ps,Trm n p.1) (hq:∀ q ∈ qs,Trm n q.1):∀ p ∈ aQ b ps qs,Trm n p.1:=λp h=>by
 unfold aQ at h
 obtain⟨l,hl,h⟩:=List.mem_flatten.mp h
 obtain⟨x,hx,rfl⟩:=List.mem_map.mp hl
 unfold fm at h
 obtain⟨y,hy,rfl⟩:=List.mem_map.mp h
 exact Bc hn (hp x hx) (hq y hy)
theorem sM {b:Bool}{A B:Nat}{ps qs:List Prt} (hp:∀ p ∈ ps,p.2.natAbs<=A) (hq:∀ q ∈ qs,q.2.natAbs<=B):∀ p ∈ aQ b ps qs,p.2.natAbs<=A*B:=λp h=>by
 unfold aQ at h
 obtain⟨l,hl,h⟩:=List.mem_flatten.mp h
 obtain⟨x,hx,rfl⟩:=List.mem_map.mp hl
 unfold fm at h
 obtain⟨y,hy,rfl⟩:=List.mem_map.mp h
 rw [Int.natAbs_mul]
 exact Nat.mul_le_mul (hp x hx) (hq y hy)
theorem lA {b:Bool}{row:Int}{B:Nat}:∀ {ps:List Prt},(∀ p ∈ ps,p.2.natAbs<=B)->(bv b ps row).natAbs<=ps.length*B
 | [],_=>Nat.zero_le _
 | p::ps,h=>by
  have ih:=lA (b:=b) (row:=row) (ps:=ps) λx hx=>h x (List.mem_cons_of_mem _ hx)
  have e:bv b (p::ps) row=p.2*cg b p.1 row+bv b ps row:=by unfold bv;rw [List.map_cons,List.sum_cons]
  have h1:(p.2*cg b p.1 row).natAbs<=B:=by
   rw [Int.natAbs_mul]
   have:=n6 b p.1 row
   have h2:=h p List.mem_cons_self
   exact Nat.le_trans (Nat.mul_le_mul h2 (show (cg b p.1 row).natAbs<=1 by lia)) (by lia)
  have h3:=Int.natAbs_add_le (p.2*cg b p.1 row) (bv b ps row)
  rw [e,List.length_cons,Nat.add_mul];lia
noncomputable def eW (b:Bool) (n:Nat) (ps qs:List Prt):List Prt:=cx ((cx (aQ b ps (qs.map (mvP n)))).map λp:Prt=>((p.1,(-1)*p.2):Prt))
structure Dr (n:Nat) (ps:List Prt):Prop where
 t:gK n ps
 b:∀ p ∈ ps,-1000000000000000000<=p.2/\p.2<=1000000000000000000
section
variable {b:Bool}{n m:Nat}{ps qs:List Prt}
theorem Dr.abs (h:Dr n ps):∀ p ∈ ps,p.2.natAbs<=1000000000000000000:=λp hp=>by have:=h.b p hp;lia
theorem nn (hq:Dr m qs):∀ q ∈ qs.map (mvP n),Trm (n+m) q.1/\q.2.natAbs<=1000000000000000000:=λq h=>by
 obtain⟨p,hp,rfl⟩:=List.mem_map.mp h
 exact⟨y9 (hq.t.1 p hp).1,hq.abs p hp⟩
theorem jJ (hnm:n+m<=6) (hp:Dr n ps) (hq:Dr m qs):gK (n+m) (cx (aQ b ps (qs.map (mvP n)))):=rH hnm (uN hnm (λp h=>(hp.t.1 p h).1.mono (by lia)) λq h=>(nn hq q h).1)
theorem vi (hnm:n+m<=6) (hp:Dr n ps) (hq:Dr m qs):gK (n+m) (eW b n ps qs):=rH hnm λp h=>by
 obtain⟨r,hr,rfl⟩:=List.mem_map.mp h
 exact ((jJ (b:=b) hnm hp hq).1 r hr).1
theorem z0 {st:Sto} (hnm:n+m<=6) (hp:Dr n ps) (hq:Dr m qs):m_unlike_poly [.d (.int n),.d (ar (ak b) ps),.d (ar (ak b) qs)] st=some (.d (ar (ak b) (eW b n ps qs)),st):=by
 have lp:=hp.t.len (by lia)
 have lq:=hq.t.len (by lia)
 have e1:=u5 (st:=st) (kd:=ak b) (ps:=qs) (m:=(n:Int)) (by lia) λp h=>Nat.le_trans (jO (hq.t.1 p h).1) (by lia)
 have e2:=xm (st:=st) (b:=b) (ps:=ps) (qs:=qs.map (mvP n)) (λp h=>(hp.t.1 p h).1.mono (by lia)) (λq h=>(nn hq q h).1.mono hnm) lp (by rw [List.length_map];exact lq) (λp h=>by have:=hp.b p h;lia)
 have hin:=jJ (b:=b) hnm hp hq
 have e3:=vF (st:=st) (b:=b) (ps:=cx (aQ b ps (qs.map (mvP n)))) (c:=-1) (λp h=>(hin.1 p h).1.mono hnm) (hin.len hnm) (by decide)
 unfold eW
 generalize ar (ak b) (cx ((cx (aQ b ps (qs.map (mvP n)))).map λp:Prt=>((p.1,(-1)*p.2):Prt)))=R at e3 ⊢
 generalize ar (ak b) (cx (aQ b ps (qs.map (mvP n))))=R2 at e2 e3
 generalize ar (ak b) (qs.map (mvP n))=R3 at e1 e2
 exact bR (n:=3) (k:=3) (b:=b_unlike_poly) rfl (bK (av (ag (av (ag rfl (ag (av (ag rfl (ag rfl rfl)) e1) rfl)) e2) (ag rfl rfl)) e3))
theorem xF {r:Nat} (hnm:n+m<=6) (hp:Dr n ps) (hq:Dr m qs):bv b (eW b n ps qs) (r:Int)=0 - bv b ps ((r:Int) % 2 ^ n)*bv b qs ((r:Int) / 2 ^ n):=by
 have hin:=jJ (b:=b) hnm hp hq
 unfold eW
 rw [pj (λp h=>by
  obtain⟨x,hx,rfl⟩:=List.mem_map.mp h
  exact (hin.1 x hx).1.mono hnm),kL,pj mo,lS (λq h=>(nn hq q h).1.mono hnm) (λp h=>(hp.t.1 p h).1.mono (by lia)),
  wQ (r2:=(r:Int) / 2 ^ n) (λp h k hk=>xy ((hq.t.1 p h).1.2 k hk).1),
  pT (r1:=(r:Int) % 2 ^ n) (r2:=(r:Int)) λp h k hk=>wU ((hp.t.1 p h).1.2 k hk).1 ((hp.t.1 p h).1.2 k hk).2]
 lia
theorem xf (hnm:n+m<=6) (hp:Dr n ps) (hq:Dr m qs):∀ p ∈ eW b n ps qs,Trm 6 p.1/\p.2.natAbs < 2 ^ 200:=λp h=>by
 refine⟨((vi (b:=b) hnm hp hq).1 p h).1.mono hnm,?_⟩
 have hin:=jJ (b:=b) hnm hp hq
 have lp:=hp.t.len (by lia)
 have lq:=hq.t.len (by lia)
 have h1:=nZ (L:=aQ b ps (qs.map (mvP n))) (sM hp.abs λq h=>(nn hq q h).2)
 have hl:(aQ b ps (qs.map (mvP n))).length<=64*64:=by
  rw [iI,List.length_map]
  exact Nat.mul_le_mul lp lq
 have h2:∀ p ∈ cx (aQ b ps (qs.map (mvP n))),p.2.natAbs<=64*64*(1000000000000000000*1000000000000000000):=λp h=>Nat.le_trans (h1 p h) (Nat.mul_le_mul_right _ hl)
 have h3:=nZ (L:=(cx (aQ b ps (qs.map (mvP n)))).map λp:Prt=>((p.1,(-1)*p.2):Prt)) (B:=64*64*(1000000000000000000*1000000000000000000)) λq hq=>by
  obtain⟨x,hx,rfl⟩:=List.mem_map.mp hq
  have:=h2 x hx
  show ((-1)*x.2).natAbs<=_
  rw [Int.natAbs_mul];lia
 have h4:=h3 p h
 rw [List.length_map] at h4
 have h5:=Nat.mul_le_mul_right (64*64*(1000000000000000000*1000000000000000000)) (hin.len hnm)
 exact Nat.lt_of_le_of_lt (Nat.le_trans h4 h5) (by decide)
end
end Own
end
section
set_option maxHeartbeats 1000000
namespace Own
open PySem L2
theorem BF {o a:Ef}{env:Ev}{st s1 s2:Sto}{n:Nat}{d:D}{ds0 ds:List D} (ho:o env st=some (.h n,s1)) (ha:a env s1=some (.d d,s2)) (h0:lg s1 n=some ds0) (hg:lg s2 n=some ds) (hz:ds.length < 1000000):gv (eD fZ o (ab a am)) env st=some (.nx env (s2.set n (.l (ds++[d])))):=by
 have hc:=ag (b:=am) ha rfl
 simp only [gv,eD,ho,hc,h0,hg,fZ,hz,if_true,Option.bind_some,Option.map_some]
theorem Aq {i j:Nat}{f:Ef}{env:Ev}{st s:Sto}{x y:D} (h:f env st=some (.d (.lst [x,y]),s)):bO (.tp [i,j]) f env st=some (.nx (ln [i,j] [x,y] env) s):=by
 simp only [bO,h,Option.bind_some,d8,List.length_cons,List.length_nil,if_true,Option.map_some]
theorem BP {i j:Nat}{a:Af}{env:Ev}{st s:Sto}{x y:W} (h:a env st=some ([x,y],s)):ue i j a env st=some (.nx ((env.set i (some x)).set j (some y)) s):=by
 simp only [ue,h,Option.bind_some]
theorem v4 {p:Spo}{Z:Int} (rest:Sto) (h:okP p Z) (hZ:Z < 900000000):∃ (n m:Nat) (p':Spo),n+m<=6/\okP p' (Z+4)/\m__law_sizes [.h 1] (spo p rest)=some (.d (.lst [.int (n:Int),.int (m:Int)]),spo p' rest):=by
 obtain⟨a,p1,a0,a1,h1,e1⟩:=dL h (by lia) (m:=4) (by decide) (by decide)
 obtain⟨b,p2,b0,b1,h2,e2⟩:=dL h1 (by lia) (m:=4) (by decide) (by decide)
 obtain⟨c,p3,c0,c1,h3,e3⟩:=dL h2 (by lia) (m:=6) (by decide) (by decide)
 obtain⟨a,rfl⟩:=Int.eq_ofNat_of_zero_le a0
 obtain⟨b,rfl⟩:=Int.eq_ofNat_of_zero_le b0
 have s1:bO (.nm 1) (aV (dZ (ab (aZ m__law_take (ab (iV 0) (ab (iC (.int 4)) am))) (ab (aZ m__law_take (ab (iV 0) (ab (iC (.int 4)) am))) am)))) [some (.h 1),none,none] (spo p rest)=some (.nx [some (.h 1),some (.d (.lst [.int (a:Int),.int (b:Int)])),none] (spo p2 rest)):=
  bW (aW (jP (ag (av rfl (e1 rest)) (ag (av rfl (e2 rest)) rfl)) rfl (by show 2<=1000;decide)))
 have s2:∀ k:Bool,(c==0)=k->bX dEq (aZ m__law_take (ab (iV 0) (ab (iC (.int 6)) am))) (iC (.int 0)) [some (.h 1),some (.d (.lst [.int (a:Int),.int (b:Int)])),none] (spo p2 rest)=some (k,spo p3 rest):=λk hk=>
  bH (av rfl (e3 rest)) rfl (by rw [rV,hk])
 by_cases hc:c=0
 ·obtain⟨d,p4,d0,d1,h4,e4⟩:=dL h3 (by lia) (m:=7) (by decide) (by decide)
  obtain⟨d,rfl⟩:=Int.eq_ofNat_of_zero_le d0
  have s3:bO (.nm 1) (aV (dZ (ab (iV 2) (ab (iOp qk (iC (.int 6)) (iV 2)) am)))) [some (.h 1),some (.d (.lst [.int (a:Int),.int (b:Int)])),some (.d (.int (d:Int)))] (spo p4 rest)=some (.nx [some (.h 1),some (.d (.lst [.int (d:Int),.int ((6 - d:Nat):Int)])),some (.d (.int (d:Int)))] (spo p4 rest)):=
   bW (aW (jP (ag rfl (ag (ax rfl rfl (show some (D.int (6 - (d:Int)))=some (D.int ((6 - d:Nat):Int)) by congr 2;lia)) rfl)) rfl (by show 2<=1000;decide)))
  exact⟨d,6 - d,p4,by lia,h4.mono (by lia),bR (n:=3) (k:=1) (b:=b__law_sizes) rfl (aC s1 (aC (ur (s2 true (by rw [hc];rfl)) (aC (bW (av rfl (e4 rest))) s3)) (bK rfl)))⟩
 ·exact⟨a,b,p3,by lia,h3.mono (by lia),bR (n:=3) (k:=1) (b:=b__law_sizes) rfl (aC s1 (aC (iB (s2 false (by rw [beq_eq_false_iff_ne];exact hc)) rfl) (bK rfl)))⟩
noncomputable def AL (r:Int):List D:=[.int 1,.int (-1),.int 2,.int (-2),.int 3,.int (-3),.int 1,.int (1000000000000000000 - r)]
theorem zo {r c:Int} (r0:0<=r) (r1:r < 99) (c0:0<=c) (c1:c < 8) (s:Sto):∃ x:Int,x≠0/\-1000000000000000000<=x/\x<=1000000000000000000/\dIx s (.d (.lst (AL r))) (.d (.int c))=some (.int x):=by
 have h:c=0\/c=1\/c=2\/c=3\/c=4\/c=5\/c=6\/c=7:=by lia
 rcases h with rfl | rfl | rfl | rfl | rfl | rfl | rfl | rfl
 ·exact⟨1,by lia,by lia,by lia,rfl⟩
 ·exact⟨-1,by lia,by lia,by lia,rfl⟩
 ·exact⟨2,by lia,by lia,by lia,rfl⟩
 ·exact⟨-2,by lia,by lia,by lia,rfl⟩
 ·exact⟨3,by lia,by lia,by lia,rfl⟩
 ·exact⟨-3,by lia,by lia,by lia,rfl⟩
 ·exact⟨1,by lia,by lia,by lia,rfl⟩
 ·exact⟨1000000000000000000 - r,by lia,by lia,by lia,rfl⟩
theorem A9 (s:Sto):sO s (.d (.int 10)) (.d (.int 18))=some (.int 1000000000000000000):=by
 show (if nP 10 18 then some (D.int (10 ^ Int.toNat 18)) else none)=_
 rw [if_pos Bm];rfl
theorem rq {p:Spo}{Z:Int}{kd:Str}{n:Nat} (rest:Sto) (h:okP p Z) (hZ:Z < 900000000) (hn:n<=6):∃ (ps:List Prt) (p':Spo),Dr n ps/\okP p' (Z+192)/\m__law_poly [.h 1,.d (.str kd),.d (.int n)] (spo p rest)=some (.d (ar kd ps),spo p' rest):=by
 have hlen:(cX n).length<=64:=by
  rw [oK]
  exact Nat.le_trans (Nat.pow_le_pow_right (by decide) hn) (by decide)
 obtain⟨e',s',hF,p1,ps,o4,o5,rfl,rfl,h1,hs,hb⟩:=da (g:=.nm 4) (body:=dQ) (ds:=(cX n).map ai)
  (λi env s=>∃ (p:Spo) (ps:List Prt) (o4 o5:Option W),env=[some (.h 1),some (.d (.str kd)),some (.d (.int n)),some (.h (rest.length+2)),o4,o5]/\s=spo p (rest++[.l (ps.map al)])/\okP p (Z+3*i)/\(ps.map Prod.fst).Sublist ((cX n).take i)/\∀ q ∈ ps,q.2≠0/\-1000000000000000000<=q.2/\q.2<=1000000000000000000)
  (env:=[some (.h 1),some (.d (.str kd)),some (.d (.int n)),some (.h (rest.length+2)),none,none]) (st:=spo p (rest++[.l []])) ⟨p,[],none,none,rfl,rfl,h.mono (by lia),List.nil_sublist _,(λq hq=>nomatch hq)⟩ (by
  rintro i d env s hd ⟨p,ps,o4,o5,rfl,rfl,hp,hs,hb⟩
  rw [List.getElem?_map,Option.map_eq_some_iff] at hd
  obtain⟨t,ht,rfl⟩:=hd
  have hi:i < 64:=by have:=(List.getElem?_eq_some_iff.mp ht).1;lia
  have htk:(cX n).take (i+1)=(cX n).take i++[t]:=by rw [List.take_add_one,ht];rfl
  obtain⟨r,p1,r0,r1,h1,e1⟩:=dL hp (by lia) (m:=99) (by decide) (by decide)
  obtain⟨c,p2,c0,c1,h2,e2⟩:=dL h1 (by lia) (m:=8) (by decide) (by decide)
  obtain⟨u,p3,u0,u1,h3,e3⟩:=dL h2 (by lia) (m:=3) (by decide) (by decide)
  obtain⟨x,x0,x1,x2,ex⟩:=zo r0 r1 c0 c1 (spo p2 (rest++[.l (ps.map al)]))
  have f1:=e1 (rest++[.l (ps.map al)])
  have f2:=e2 (rest++[.l (ps.map al)])
  have f3:=e3 (rest++[.l (ps.map al)])
  have hpl:ps.length<=64:=by
   have:=hs.length_le
   rw [List.length_map,List.length_take] at this;lia
  have lg3:=uC p3 rest (ps.map al)
  have st3:=xt p3 rest (.l (ps.map al)) (.l (ps.map al++[al (t,x)]))
  have s1:bO (.nm 5) (iOp dIx (aV (dZ (ab (iC (.int 1)) (ab (iUn oN (iC (.int 1))) (ab (iC (.int 2)) (ab (iUn oN (iC (.int 2))) (ab (iC (.int 3)) (ab (iUn oN (iC (.int 3))) (ab (iC (.int 1)) (ab (iOp qk (iOp sO (iC (.int 10)) (iC (.int 18))) (aZ m__law_take (ab (iV 0) (ab (iC (.int 99)) am)))) am)))))))))) (aZ m__law_take (ab (iV 0) (ab (iC (.int 8)) am))))
    [some (.h 1),some (.d (.str kd)),some (.d (.int n)),some (.h (rest.length+2)),some (.d (ai t)),o5] (spo p (rest++[.l (ps.map al)]))=some (.nx [some (.h 1),some (.d (.str kd)),some (.d (.int n)),some (.h (rest.length+2)),some (.d (ai t)),some (.d (.int x))] (spo p2 (rest++[.l (ps.map al)]))):=
   bW (ax (aW (jP (ds:=AL r) (ag rfl (ag rfl (ag rfl (ag rfl (ag rfl (ag rfl (ag rfl (ag (ax (ax rfl rfl (A9 _)) (av rfl f1) rfl) rfl)))))))) rfl (by show 8<=1000;decide))) (av rfl f2) ex)
  by_cases hu:u > 0
  ·refine⟨_,_,_,rfl,.inl (aC s1 (ur (bH (av rfl f3) rfl (AO _ (decide_eq_true hu))) (BF (d:=al (t,x)) rfl (dO (ag rfl (ag rfl rfl)) rfl (by show 2<=1000;decide)) lg3 lg3 (by rw [List.length_map];lia)))),p3,ps++[(t,x)],_,_,rfl,?_,h3.mono (by push_cast;lia),?_,?_⟩
   ·rw [st3,List.map_append];rfl
   ·rw [htk,List.map_append]
    exact hs.append (List.Sublist.refl _)
   ·intro q hq
    rcases List.mem_append.mp hq with hq | hq
    ·exact hb q hq
    ·rw [List.mem_singleton.mp hq];exact⟨x0,x1,x2⟩
  ·refine⟨_,_,_,rfl,.inl (aC s1 (iB (bH (av rfl f3) rfl (AO _ (decide_eq_false hu))) rfl)),p3,ps,_,_,rfl,rfl,h3.mono (by push_cast;lia),?_,hb⟩
   rw [htk]
   exact hs.trans (List.sublist_append_left _ _))
 rw [List.length_map] at h1 hs
 rw [List.take_length] at hs
 have hsub:∀ q ∈ ps,Trm n q.1:=λq hq=>nS (hs.subset (List.mem_map_of_mem hq))
 have hpl:ps.length<=64:=by
  have:=hs.length_le
  rw [List.length_map] at this;lia
 refine⟨ps,p1,⟨⟨λq hq=>⟨hsub q hq,(hb q hq).1⟩,?_⟩,λq hq=>(hb q hq).2⟩,h1.mono (by lia),?_⟩
 ·refine List.Pairwise.sublist hs ?_
  have:(lC n).Nodup:=by
   have hk:((List.range 7).all λn=>decide (lC n).Nodup)=true:=by decide +kernel
   exact of_decide_eq_true (List.all_eq_true.mp hk n (List.mem_range.mpr (by lia)))
  exact iO this
 ·have lg1:=uC p1 rest (ps.map al)
  have ht:=oM (st:=spo p (rest++[.l []])) hn
  have htake:=uM p1 rest [.l (ps.map al)]
  unfold ar
  generalize (cX n).map ai=AA at hF ht
  generalize ps.map al=PP at hF lg1 htake ⊢
  have hd:jF (spo p1 (rest++[.l PP])) [.h (rest.length+2)]=some (.tup PP):=by
   show (lg _ _).map _=_
   rw [lg1];rfl
  have s1:bO (.nm 3) (nL (dZ am)) [some (.h 1),some (.d (.str kd)),some (.d (.int n)),none,none,none] (spo p rest)=some (.nx [some (.h 1),some (.d (.str kd)),some (.d (.int n)),some (.h (rest.length+2)),none,none] (spo p (rest++[.l []]))):=rfl
  have s2:hX (aR (aZ m__law_terms (ab (iV 2) (ab (iV 2) am)))) (.nm 4) dQ [some (.h 1),some (.d (.str kd)),some (.d (.int n)),some (.h (rest.length+2)),none,none] (spo p (rest++[.l []]))=some (.nx [some (.h 1),some (.d (.str kd)),some (.d (.int n)),some (.h (rest.length+2)),o4,o5] (spo p1 (rest++[.l PP]))):=ik (iT (av (ws:=[.d (.int n),.d (.int n)]) rfl ht)) hF
  have s3:iCB jF (ab (iV 3) am) [some (.h 1),some (.d (.str kd)),some (.d (.int n)),some (.h (rest.length+2)),o4,o5] (spo p1 (rest++[.l PP]))=some (.d (.tup PP),spo p1 (rest++[.l PP])):=bT (ws:=[.h (rest.length+2)]) rfl hd
  have s4:cj (en (ab (iV 1) (ab (iCB jF (ab (iV 3) am)) am))) [some (.h 1),some (.d (.str kd)),some (.d (.int n)),some (.h (rest.length+2)),o4,o5] (spo p1 (rest++[.l PP]))=some (.rt (.d (.tup [.str kd,.tup PP])) (spo p1 (rest++[.l PP]))):=bK (dO (ws:=[.d (.str kd),.d (.tup PP)]) (ag rfl (ag s3 rfl)) rfl (by show 2<=1000;decide))
  have hq:=ie (n:=6) (k:=3) (b:=b__law_poly) (ws:=[.h 1,.d (.str kd),.d (.int n)]) (st:=spo p rest) (s:=spo p1 (rest++[.l PP])) (x:=.tup [.str kd,.tup PP]) rfl (aC s1 (aC s2 s4))
  rw [xL,htake] at hq
  exact hq
theorem uq {st:Sto}{b:Bool}{n m:Nat}{ps qs:List Prt} (hnm:n+m<=6) (hp:Dr n ps) (hq:Dr m qs):m__law_right [.d (.int n),.d (.int m),.d (.str (ak b)),.d (ar (ak b) ps),.d (ar (ak b) qs)] st=some (.d (.bl true),st):=by
 have e1:=z0 (st:=st) (b:=b) hnm hp hq
 have hin:=vi (b:=b) hnm hp hq
 have e2:=tD (st:=st) (b:=b) hnm hin
 obtain⟨a,w,d⟩:=wI (b:=b) (xf (b:=b) hnm hp hq) (hin.len hnm)
 have e3:fB st [.d (ar (ak b) (eW b n ps qs))]=some (.str (toP (ar (ak b) (eW b n ps qs))).shown):=by
  show (if rpD (ar (ak b) (eW b n ps qs))=true/\wtD (ar (ak b) (eW b n ps qs))<=16000000/\dpD (ar (ak b) (eW b n ps qs))<=50 then some (D.str (toP (ar (ak b) (eW b n ps qs))).shown) else none)=_
  rw [if_pos ⟨a,by lia,by lia⟩]
 obtain⟨q,hq1,q1,_,q2⟩:=uY (n:=((n+m:Nat):Int)) (by lia) (by lia)
 rw [Int.toNat_natCast] at q1 q2
 have q0:0<=q:=by have:0 < 2 ^ (n+m):=Nat.pow_pos (by decide);lia
 obtain⟨qn,hqn,qn1,_,qn2⟩:=uY (n:=(n:Int)) (by lia) (by lia)
 rw [Int.toNat_natCast] at qn1 qn2
 have qnv:qn=2 ^ n:=by
  have:0 < 2 ^ n:=Nat.pow_pos (by decide)
  have e:(qn.toNat:Int)=((2 ^ n:Nat):Int):=by rw [qn1]
  push_cast at e;lia
 have lp:=hp.t.len (by lia)
 have lq:=hq.t.len (by lia)
 have p6:∀ p ∈ ps,uy p:=λp h=>(hp.t.1 p h).1.mono (by lia)
 have q6:∀ p ∈ qs,uy p:=λp h=>(hq.t.1 p h).1.mono (by lia)
 have r6:∀ p ∈ eW b n ps qs,uy p:=λp h=>(hin.1 p h).1.mono hnm
 obtain⟨e',s',hF,o6,o7,rfl,rfl⟩:=da (g:=.nm 6) (body:=fE) (ds:=gD 0 (2 ^ (n+m)))
  (λi env s=>∃ o6 o7,env=[some (.d (.int n)),some (.d (.int m)),some (.d (.str (ak b))),some (.d (ar (ak b) ps)),some (.d (ar (ak b) qs)),some (.d (ar (ak b) (eW b n ps qs))),o6,o7]/\s=st)
  (env:=[some (.d (.int n)),some (.d (.int m)),some (.d (.str (ak b))),some (.d (ar (ak b) ps)),some (.d (ar (ak b) qs)),some (.d (ar (ak b) (eW b n ps qs))),none,none]) (st:=st) ⟨none,none,rfl,rfl⟩ (by
  rintro i d env s hd ⟨o6,o7,rfl,rfl⟩
  obtain⟨rfl,hi⟩:=m7 hd
  have v1:=fL (st:=s) (b:=b) (row:=(i:Int) % 2 ^ n) (Int.emod_nonneg _ (Int.ne_of_gt (Int.pow_pos (by decide)))) p6 (by lia)
  have v2:=fL (st:=s) (b:=b) (row:=(i:Int) / 2 ^ n) (Int.ediv_nonneg (by lia) (Int.le_of_lt (Int.pow_pos (by decide)))) q6 (by lia)
  have v3:=fL (st:=s) (b:=b) (row:=(i:Int)) (by lia) r6 (by have:=hin.len hnm;lia)
  have hv:=xF (b:=b) (r:=i) hnm hp hq
  have a1:(bv b ps ((i:Int) % 2 ^ n)).natAbs < 2 ^ 70:=Nat.lt_of_le_of_lt (Nat.le_trans (lA hp.abs) (Nat.mul_le_mul_right _ lp)) (by decide)
  have a2:(bv b qs ((i:Int) / 2 ^ n)).natAbs < 2 ^ 70:=Nat.lt_of_le_of_lt (Nat.le_trans (lA hq.abs) (Nat.mul_le_mul_right _ lq)) (by decide)
  have hm:=xA a1 a2 (by decide)
  rw [hv] at v3
  generalize bv b ps ((i:Int) % 2 ^ n)=V1 at *
  generalize bv b qs ((i:Int) / 2 ^ n)=V2 at *
  generalize ar (ak b) (eW b n ps qs)=R at *
  generalize ar (ak b) ps=P1 at *
  generalize ar (ak b) qs=P2 at *
  have w1:iOp jc (iV 6) (iOp sI (iC (.int 1)) (iV 0)) [some (.d (.int n)),some (.d (.int m)),some (.d (.str (ak b))),some (.d P1),some (.d P2),some (.d R),some (.d (.int (i:Int))),o7] s=some (.d (.int ((i:Int) % 2 ^ n)),s):=
   ax rfl (ax rfl rfl (hqn _)) (by rw [qnv];exact yj _ (Int.pow_pos (by decide)))
  have w2:iOp ng (iV 6) (iV 0) [some (.d (.int n)),some (.d (.int m)),some (.d (.str (ak b))),some (.d P1),some (.d P2),some (.d R),some (.d (.int (i:Int))),o7] s=some (.d (.int ((i:Int) / 2 ^ n)),s):=
   ax rfl rfl (yr _ (by lia))
  exact⟨_,_,_,rfl,.inl (aC (bW (ax (d:=.int (0 - V1*V2)) rfl (ax (av (ag rfl (ag w1 rfl)) v1) (av (ag rfl (ag w2 rfl)) v2) (ui _ hm)) rfl)) (iB (bH (av (ag rfl (ag rfl rfl)) v3) rfl (by rw [qF,beq_self_eq_true];rfl)) rfl)),_,_,rfl,rfl⟩)
 generalize (toP (ar (ak b) (eW b n ps qs))).shown=SH at e3
 generalize ar (ak b) (eW b n ps qs)=R at *
 generalize ar (ak b) ps=P1 at *
 generalize ar (ak b) qs=P2 at *
 have ed:(((n+m:Nat):Int))=(n:Int)+(m:Int):=by push_cast;rfl
 rw [ed] at e2 hq1
 exact bR (n:=8) (k:=5) (b:=b__law_right) rfl (aC (bW (av rfl e1)) (aC (iB (jh (lU (qR (av (ag rfl (ag rfl (ag (ax rfl rfl rfl) rfl))) e2))) (bH (bT (ag (av rfl e1) rfl) e3) (bT (ag rfl rfl) e3) (by rw [vD,beq_self_eq_true];rfl))) rfl)
  (aC (ik (mS (ax rfl (ax rfl rfl rfl) (hq1 _)) q0 (by lia) q1) hF) (bK rfl))))
theorem vG (ns:List Int) (hl:ns.length<=63):∃ st,m_law [.d (.scr ns)] []=some (.d (.bl true),st):=by
 obtain⟨p,hp,e1⟩:=vO ns hl
 obtain⟨e',s',hF,p',x2,x3,x4,x5,x6,x7,rfl,rfl,hp'⟩:=da (g:=.nm 2) (body:=rX) (ds:=gD 0 2)
  (λi env s=>∃ p x2 x3 x4 x5 x6 x7,env=[some (.d (.scr ns)),some (.h 1),x2,x3,x4,x5,x6,x7]/\s=spo p []/\okP p (1000*(i:Int)))
  (env:=[some (.d (.scr ns)),some (.h 1),none,none,none,none,none,none]) (st:=spo p []) ⟨p,_,_,_,_,_,_,rfl,rfl,by simpa using hp⟩ (by
  rintro i d env s hd ⟨p,x2,x3,x4,x5,x6,x7,rfl,rfl,hp⟩
  obtain⟨rfl,hi⟩:=m7 hd
  obtain⟨c,p1,c0,c1,h1,f1⟩:=dL hp (by lia) (m:=2) (by decide) (by decide)
  obtain⟨n,m,p2,hnm,h2,f2⟩:=v4 [] h1 (by lia)
  have hk:∃ b:Bool,∀ s,dIx s (.d (.lst [.str "both",.str "odd"])) (.d (.int c))=some (.str (ak b)):=by
   have:c=0\/c=1:=by lia
   rcases this with rfl | rfl
   ·exact⟨true,λs=>rfl⟩
   ·exact⟨false,λs=>rfl⟩
  obtain⟨b,hb⟩:=hk
  obtain⟨ps,p3,dp,h3,f3⟩:=rq (kd:=ak b) [] h2 (by lia) (by lia:n<=6)
  obtain⟨qs,p4,dq,h4,f4⟩:=rq (kd:=ak b) [] h3 (by lia) (by lia:m<=6)
  have f5:=uq (st:=spo p4 []) (b:=b) hnm dp dq
  generalize ar (ak b) ps=P1 at *
  generalize ar (ak b) qs=P2 at *
  exact⟨_,_,_,rfl,.inl (aC (bW (ax (aW (jP (ds:=[.str "both",.str "odd"]) (ag rfl (ag rfl rfl)) rfl)) (av rfl (f1 [])) (hb _))) (aC (Aq (av rfl f2)) (aC (BP (ag (av rfl f3) (ag (av rfl f4) rfl))) (iB (lU (qR (av rfl f5))) rfl)))),p4,_,_,_,_,_,_,rfl,rfl,h4.mono (by push_cast;lia)⟩)
 exact⟨_,ie (n:=8) (k:=1) (b:=mG) rfl (aC (bW (av rfl e1)) (aC (ik (mS (m:=2) rfl (by decide) (by decide) rfl) hF) (bK rfl)))⟩
end Own
end
namespace Own
open PySem L2
theorem wK {us:List Value} (h:us.length=1):∃ a0,us=[a0]:=List.length_eq_one_iff.mp h
theorem xi {us:List Value}{n:Nat} (h:us.length=n+1):∃ a t,us=a::t/\t.length=n:=by
 cases us with
 | nil=>cases h
 | cons a t=>exact⟨a,t,rfl,Nat.succ.inj h⟩
theorem nh {us:List Value} (h:us.length=2):∃ a0 a1,us=[a0,a1]:=by
 obtain⟨a,t,rfl,k⟩:=xi h
 obtain⟨b,rfl⟩:=wK k
 exact⟨a,b,rfl⟩
theorem t3 {us:List Value} (h:us.length=3):∃ a0 a1 a2,us=[a0,a1,a2]:=by
 obtain⟨a,t,rfl,k⟩:=xi h
 obtain⟨b,c,rfl⟩:=nh k
 exact⟨a,b,c,rfl⟩
theorem BT {us:List Value} (h:us.length=4):∃ a0 a1 a2 a3,us=[a0,a1,a2,a3]:=by
 obtain⟨a,t,rfl,k⟩:=xi h
 obtain⟨b,c,d,rfl⟩:=t3 k
 exact⟨a,b,c,d,rfl⟩
theorem BJ {us:List Value} (h:us.length=5):∃ a0 a1 a2 a3 a4,us=[a0,a1,a2,a3,a4]:=by
 obtain⟨a,t,rfl,k⟩:=xi h
 obtain⟨b,c,d,e,rfl⟩:=BT k
 exact⟨a,b,c,d,e,rfl⟩
theorem txt_mk {K:PySem.W.Frag}{h:Heap}{mg:Str->Option Value} (X:K.In h) (G:h.Ns mainGlobals mg)
  {f0:Addr}{od0 an0:Option Addr}{sl0:Array (Option Value)}{oc0 kV0 dc0 pm0 cd0 ct0:Value}
  (a0:PySem.W.nsIn K mainGlobals "poly_from" = some (some (.ref f0))) (l0:K.lookup f0=some ⟨oc0,od0,.func (PySem.W.fnOf "poly_from" "poly_from" (bm bC) (aq bC) (ae bC) .none kV0 dc0 pm0 an0 cd0 ct0),sl0⟩) (c0:PySem.W.codeIn K cd0 "poly_from" = true) (k0:PySem.W.keepIn K (.ref f0)=true)
  {f1:Addr}{od1 an1:Option Addr}{sl1:Array (Option Value)}{oc1 kV1 dc1 pm1 cd1 ct1:Value}
  (a1:PySem.W.nsIn K mainGlobals "gathered" = some (some (.ref f1))) (l1:K.lookup f1=some ⟨oc1,od1,.func (PySem.W.fnOf "gathered" "gathered" (bm bV) (aq bV) (ae bV) .none kV1 dc1 pm1 an1 cd1 ct1),sl1⟩) (c1:PySem.W.codeIn K cd1 "gathered" = true) (k1:PySem.W.keepIn K (.ref f1)=true)
  {f2:Addr}{od2 an2:Option Addr}{sl2:Array (Option Value)}{oc2 kV2 dc2 pm2 cd2 ct2:Value}
  (a2:PySem.W.nsIn K mainGlobals "joined" = some (some (.ref f2))) (l2:K.lookup f2=some ⟨oc2,od2,.func (PySem.W.fnOf "joined" "joined" (bm cC) (aq cC) (ae cC) .none kV2 dc2 pm2 an2 cd2 ct2),sl2⟩) (c2:PySem.W.codeIn K cd2 "joined" = true) (k2:PySem.W.keepIn K (.ref f2)=true)
  {f3:Addr}{od3 an3:Option Addr}{sl3:Array (Option Value)}{oc3 kV3 dc3 pm3 cd3 ct3:Value}
  (a3:PySem.W.nsIn K mainGlobals "product_of" = some (some (.ref f3))) (l3:K.lookup f3=some ⟨oc3,od3,.func (PySem.W.fnOf "product_of" "product_of" (bm bn) (aq bn) (ae bn) .none kV3 dc3 pm3 an3 cd3 ct3),sl3⟩) (c3:PySem.W.codeIn K cd3 "product_of" = true) (k3:PySem.W.keepIn K (.ref f3)=true)
  {f4:Addr}{od4 an4:Option Addr}{sl4:Array (Option Value)}{oc4 kV4 dc4 pm4 cd4 ct4:Value}
  (a4:PySem.W.nsIn K mainGlobals "often" = some (some (.ref f4))) (l4:K.lookup f4=some ⟨oc4,od4,.func (PySem.W.fnOf "often" "often" (bm cT) (aq cT) (ae cT) .none kV4 dc4 pm4 an4 cd4 ct4),sl4⟩) (c4:PySem.W.codeIn K cd4 "often" = true) (k4:PySem.W.keepIn K (.ref f4)=true)
  {f5:Addr}{od5 an5:Option Addr}{sl5:Array (Option Value)}{oc5 kV5 dc5 pm5 cd5 ct5:Value}
  (a5:PySem.W.nsIn K mainGlobals "moved" = some (some (.ref f5))) (l5:K.lookup f5=some ⟨oc5,od5,.func (PySem.W.fnOf "moved" "moved" (bm cI) (aq cI) (ae cI) .none kV5 dc5 pm5 an5 cd5 ct5),sl5⟩) (c5:PySem.W.codeIn K cd5 "moved" = true) (k5:PySem.W.keepIn K (.ref f5)=true)
  {f6:Addr}{od6 an6:Option Addr}{sl6:Array (Option Value)}{oc6 kV6 dc6 pm6 cd6 ct6:Value}
  (a6:PySem.W.nsIn K mainGlobals "unlike_poly" = some (some (.ref f6))) (l6:K.lookup f6=some ⟨oc6,od6,.func (PySem.W.fnOf "unlike_poly" "unlike_poly" (bm bh) (aq bh) (ae bh) .none kV6 dc6 pm6 an6 cd6 ct6),sl6⟩) (c6:PySem.W.codeIn K cd6 "unlike_poly" = true) (k6:PySem.W.keepIn K (.ref f6)=true)
  {f7:Addr}{od7 an7:Option Addr}{sl7:Array (Option Value)}{oc7 kV7 dc7 pm7 cd7 ct7:Value}
  (a7:PySem.W.nsIn K mainGlobals "_law_spool" = some (some (.ref f7))) (l7:K.lookup f7=some ⟨oc7,od7,.func (PySem.W.fnOf "_law_spool" "_law_spool" (bm bi) (aq bi) (ae bi) .none kV7 dc7 pm7 an7 cd7 ct7),sl7⟩) (c7:PySem.W.codeIn K cd7 "_law_spool" = true) (k7:PySem.W.keepIn K (.ref f7)=true)
  {f8:Addr}{od8 an8:Option Addr}{sl8:Array (Option Value)}{oc8 kV8 dc8 pm8 cd8 ct8:Value}
  (a8:PySem.W.nsIn K mainGlobals "_law_take" = some (some (.ref f8))) (l8:K.lookup f8=some ⟨oc8,od8,.func (PySem.W.fnOf "_law_take" "_law_take" (bm bG) (aq bG) (ae bG) .none kV8 dc8 pm8 an8 cd8 ct8),sl8⟩) (c8:PySem.W.codeIn K cd8 "_law_take" = true) (k8:PySem.W.keepIn K (.ref f8)=true)
  {f9:Addr}{od9 an9:Option Addr}{sl9:Array (Option Value)}{oc9 kV9 dc9 pm9 cd9 ct9:Value}
  (a9:PySem.W.nsIn K mainGlobals "_law_term" = some (some (.ref f9))) (l9:K.lookup f9=some ⟨oc9,od9,.func (PySem.W.fnOf "_law_term" "_law_term" (bm bA) (aq bA) (ae bA) .none kV9 dc9 pm9 an9 cd9 ct9),sl9⟩) (c9:PySem.W.codeIn K cd9 "_law_term" = true) (k9:PySem.W.keepIn K (.ref f9)=true)
  {f10:Addr}{od10 an10:Option Addr}{sl10:Array (Option Value)}{oc10 kV10 dc10 pm10 cd10 ct10:Value}
  (a10:PySem.W.nsIn K mainGlobals "_law_value" = some (some (.ref f10))) (l10:K.lookup f10=some ⟨oc10,od10,.func (PySem.W.fnOf "_law_value" "_law_value" (bm bj) (aq bj) (ae bj) .none kV10 dc10 pm10 an10 cd10 ct10),sl10⟩) (c10:PySem.W.codeIn K cd10 "_law_value" = true) (k10:PySem.W.keepIn K (.ref f10)=true)
  {f11:Addr}{od11 an11:Option Addr}{sl11:Array (Option Value)}{oc11 kV11 dc11 pm11 cd11 ct11:Value}
  (a11:PySem.W.nsIn K mainGlobals "_law_terms" = some (some (.ref f11))) (l11:K.lookup f11=some ⟨oc11,od11,.func (PySem.W.fnOf "_law_terms" "_law_terms" (bm aT) (aq aT) (ae aT) .none kV11 dc11 pm11 an11 cd11 ct11),sl11⟩) (c11:PySem.W.codeIn K cd11 "_law_terms" = true) (k11:PySem.W.keepIn K (.ref f11)=true)
  {f12:Addr}{od12 an12:Option Addr}{sl12:Array (Option Value)}{oc12 kV12 dc12 pm12 cd12 ct12:Value}
  (a12:PySem.W.nsIn K mainGlobals "_law_is_poly" = some (some (.ref f12))) (l12:K.lookup f12=some ⟨oc12,od12,.func (PySem.W.fnOf "_law_is_poly" "_law_is_poly" (bm aG) (aq aG) (ae aG) .none kV12 dc12 pm12 an12 cd12 ct12),sl12⟩) (c12:PySem.W.codeIn K cd12 "_law_is_poly" = true) (k12:PySem.W.keepIn K (.ref f12)=true)
  {f13:Addr}{od13 an13:Option Addr}{sl13:Array (Option Value)}{oc13 kV13 dc13 pm13 cd13 ct13:Value}
  (a13:PySem.W.nsIn K mainGlobals "_law_poly" = some (some (.ref f13))) (l13:K.lookup f13=some ⟨oc13,od13,.func (PySem.W.fnOf "_law_poly" "_law_poly" (bm bL) (aq bL) (ae bL) .none kV13 dc13 pm13 an13 cd13 ct13),sl13⟩) (c13:PySem.W.codeIn K cd13 "_law_poly" = true) (k13:PySem.W.keepIn K (.ref f13)=true)
  {f14:Addr}{od14 an14:Option Addr}{sl14:Array (Option Value)}{oc14 kV14 dc14 pm14 cd14 ct14:Value}
  (a14:PySem.W.nsIn K mainGlobals "_law_sizes" = some (some (.ref f14))) (l14:K.lookup f14=some ⟨oc14,od14,.func (PySem.W.fnOf "_law_sizes" "_law_sizes" (bm bz) (aq bz) (ae bz) .none kV14 dc14 pm14 an14 cd14 ct14),sl14⟩) (c14:PySem.W.codeIn K cd14 "_law_sizes" = true) (k14:PySem.W.keepIn K (.ref f14)=true)
  {f15:Addr}{od15 an15:Option Addr}{sl15:Array (Option Value)}{oc15 kV15 dc15 pm15 cd15 ct15:Value}
  (a15:PySem.W.nsIn K mainGlobals "_law_right" = some (some (.ref f15))) (l15:K.lookup f15=some ⟨oc15,od15,.func (PySem.W.fnOf "_law_right" "_law_right" (bm bw) (aq bw) (ae bw) .none kV15 dc15 pm15 an15 cd15 ct15),sl15⟩) (c15:PySem.W.codeIn K cd15 "_law_right" = true) (k15:PySem.W.keepIn K (.ref f15)=true)
  {f16:Addr}{od16 an16:Option Addr}{sl16:Array (Option Value)}{oc16 kV16 dc16 pm16 cd16 ct16:Value}
  (a16:PySem.W.nsIn K mainGlobals "law" = some (some (.ref f16))) (l16:K.lookup f16=some ⟨oc16,od16,.func (PySem.W.fnOf "law" "law" (bm hU) (aq hU) (ae hU) .none kV16 dc16 pm16 an16 cd16 ct16),sl16⟩) (c16:PySem.W.codeIn K cd16 "law" = true) (k16:PySem.W.keepIn K (.ref f16)=true)
  (z_abs:PySem.W.nsIn K mainGlobals "abs" = some none)
  (z_bool:PySem.W.nsIn K mainGlobals "bool" = some none)
  (z_int:PySem.W.nsIn K mainGlobals "int" = some none)
  (z_isinstance:PySem.W.nsIn K mainGlobals "isinstance" = some none)
  (z_len:PySem.W.nsIn K mainGlobals "len" = some none)
  (z_range:PySem.W.nsIn K mainGlobals "range" = some none)
  (z_repr:PySem.W.nsIn K mainGlobals "repr" = some none)
  (z_set:PySem.W.nsIn K mainGlobals "set" = some none)
  (z_sorted:PySem.W.nsIn K mainGlobals "sorted" = some none)
  (z_sum:PySem.W.nsIn K mainGlobals "sum" = some none)
  (z_tuple:PySem.W.nsIn K mainGlobals "tuple" = some none)
  : ∃ t,Txt K mg t/\t.f_law=f16:=by
 have F0:=cb (st:=bC) l0 c0 k0
 have F1:=cb (st:=bV) l1 c1 k1
 have F2:=cb (st:=cC) l2 c2 k2
 have F3:=cb (st:=bn) l3 c3 k3
 have F4:=cb (st:=cT) l4 c4 k4
 have F5:=cb (st:=cI) l5 c5 k5
 have F6:=cb (st:=bh) l6 c6 k6
 have F7:=cb (st:=bi) l7 c7 k7
 have F8:=cb (st:=bG) l8 c8 k8
 have F9:=cb (st:=bA) l9 c9 k9
 have F10:=cb (st:=bj) l10 c10 k10
 have F11:=cb (st:=aT) l11 c11 k11
 have F12:=cb (st:=aG) l12 c12 k12
 have F13:=cb (st:=bL) l13 c13 k13
 have F14:=cb (st:=bz) l14 c14 k14
 have F15:=cb (st:=bw) l15 c15 k15
 have F16:=cb (st:=hU) l16 c16 k16
 refine⟨⟨f0,_,f1,_,f2,_,f3,_,f4,_,f5,_,f6,_,f7,_,f8,_,f9,_,f10,_,f11,_,f12,_,f13,_,f14,_,f15,_,f16,_⟩,⟨F0,PySem.W.mg_of X G a0,F0.binds λ_ _ _ _ _ _ us hl=>(by obtain⟨_,_,rfl⟩:=nh hl;rfl),F1,PySem.W.mg_of X G a1,F1.binds λ_ _ _ _ _ _ us hl=>(by obtain⟨_,_,rfl⟩:=nh hl;rfl),F2,PySem.W.mg_of X G a2,F2.binds λ_ _ _ _ _ _ us hl=>(by obtain⟨_,_,_,rfl⟩:=t3 hl;rfl),F3,PySem.W.mg_of X G a3,F3.binds λ_ _ _ _ _ _ us hl=>(by obtain⟨_,_,rfl⟩:=nh hl;rfl),F4,PySem.W.mg_of X G a4,F4.binds λ_ _ _ _ _ _ us hl=>(by obtain⟨_,_,rfl⟩:=nh hl;rfl),F5,PySem.W.mg_of X G a5,F5.binds λ_ _ _ _ _ _ us hl=>(by obtain⟨_,_,rfl⟩:=nh hl;rfl),F6,PySem.W.mg_of X G a6,F6.binds λ_ _ _ _ _ _ us hl=>(by obtain⟨_,_,_,rfl⟩:=t3 hl;rfl),F7,PySem.W.mg_of X G a7,F7.binds λ_ _ _ _ _ _ us hl=>(by obtain⟨_,rfl⟩:=wK hl;rfl),F8,PySem.W.mg_of X G a8,F8.binds λ_ _ _ _ _ _ us hl=>(by obtain⟨_,_,rfl⟩:=nh hl;rfl),F9,PySem.W.mg_of X G a9,F9.binds λ_ _ _ _ _ _ us hl=>(by obtain⟨_,_,_,rfl⟩:=t3 hl;rfl),F10,PySem.W.mg_of X G a10,F10.binds λ_ _ _ _ _ _ us hl=>(by obtain⟨_,_,rfl⟩:=nh hl;rfl),F11,PySem.W.mg_of X G a11,F11.binds λ_ _ _ _ _ _ us hl=>(by obtain⟨_,_,rfl⟩:=nh hl;rfl),F12,PySem.W.mg_of X G a12,F12.binds λ_ _ _ _ _ _ us hl=>(by obtain⟨_,_,_,rfl⟩:=t3 hl;rfl),F13,PySem.W.mg_of X G a13,F13.binds λ_ _ _ _ _ _ us hl=>(by obtain⟨_,_,_,rfl⟩:=t3 hl;rfl),F14,PySem.W.mg_of X G a14,F14.binds λ_ _ _ _ _ _ us hl=>(by obtain⟨_,rfl⟩:=wK hl;rfl),F15,PySem.W.mg_of X G a15,F15.binds λ_ _ _ _ _ _ us hl=>(by obtain⟨_,_,_,_,_,rfl⟩:=BJ hl;rfl),F16,PySem.W.mg_of X G a16,F16.binds λ_ _ _ _ _ _ us hl=>(by obtain⟨_,rfl⟩:=wK hl;rfl),PySem.W.mg_none_of X G z_abs,PySem.W.mg_none_of X G z_bool,PySem.W.mg_none_of X G z_int,PySem.W.mg_none_of X G z_isinstance,PySem.W.mg_none_of X G z_len,PySem.W.mg_none_of X G z_range,PySem.W.mg_none_of X G z_repr,PySem.W.mg_none_of X G z_set,PySem.W.mg_none_of X G z_sorted,PySem.W.mg_none_of X G z_sum,PySem.W.mg_none_of X G z_tuple⟩,rfl⟩
theorem txt_ex {K:PySem.W.Frag}{mg:Str->Option Value}{f:Addr} (h:∃ t,Txt K mg t/\t.f_law=f):∃ t,Txt K mg t:=let ⟨t,a,_⟩:=h;⟨t,a⟩
theorem walk {l:PySem.W.OpenLaw}{q:Program}{loose:List Str}{XP:(Str->Option Value)->Heap->Prop}{YP:World->Heap->Prop}{d:DefRec}{K:Params->PySem.W.Frag} (hn:l.most=some 63) (hdf:d.params.defaults=[])
  (hY:∀ (w:World) (h:Heap),YP w h->(K w.params).In h)
  (F:∀ (w:World) (mg:Str->Option Value) (fa:Addr) (h:Heap),(K w.params).In h->h.Ns mainGlobals mg->mg d.name=some (.ref fa)->
    ∃ fd:FuncData,(∀ (s:Shared) (u:Value),BindsTo s fd ⟨[u],[]⟩ [("_law_script",u)])/\∀ base:Heap,(K w.params).In base->base.Ns mainGlobals mg->bE l.prog w (K w.params) mg base CX0 6 fa fd ["_law_script"] (spI (K w.params) m_law)) :
  PySem.W.WalkO q loose XP YP l.row.toRowW d [] (λf vs=>PySem.call f vs):=
 L2.walk_of (n:=63) (k:=6) (x:="_law_script") (CX:=λ_=>CX0) (sp:=λw=>spI (K w.params) m_law) hn (by decide) hdf ⟨rfl,by decide,by decide,rfl⟩ hY F (λ_ _ a ns hl hO hS=>wu hO hS (vG ns hl)) λ_ _ _ _ _ z=>z
theorem law_mk {l:PySem.W.OpenLaw}{w:World}{K:PySem.W.Frag}{h:Heap}{mg:Str->Option Value}{fa:Addr} (hfa:mg "law" = some (.ref fa)) (T0:∃ t,Txt K mg t) :
  ∃ fd:FuncData,(∀ (s:Shared) (v:Value),BindsTo s fd ⟨[v],[]⟩ [("_law_script",v)])/\∀ base:Heap,K.In base->base.Ns mainGlobals mg->bE l.prog w K mg base CX0 6 fa fd ["_law_script"] (spI K m_law):=by
 obtain⟨t,T⟩:=T0
 have e:=hfa.symm.trans T.m_law
 cases e
 refine⟨t.fd_law,λs v=>?_,λbase _ _=>yD T⟩
 obtain⟨oc,od,kV,doc,pm,an,cdv,ct,osl,e,_⟩:=T.F_law.ex
 rw [e]
 exact .of_eq rfl
end Own
open PySem PySem.W PyProof.Rows
set_option maxRecDepth 100000 in
set_option maxHeartbeats 0 in
theorem PySem.Challenge.cw_signpoly_k63_products_beside_holds : PySem.Challenge.rw_signpoly_k63_products_beside.Holds := by
 w_on;o_law;k_head;(case hw=>w_witness2)
 k_fill
 refine Own.walk (l:=PySem.Challenge.rw_signpoly_k63_products_beside) rfl rfl (λw h Y=>PySem.W.kIn_of Y) ?F
 case F=>
  intro w mg fa h KX G hmg
  refine Own.law_mk (h:=h) hmg ?T
  case T=>
   refine' Own.txt_ex (Own.txt_mk KX G ?a0 ?l0 ?c0 ?k0 ?a1 ?l1 ?c1 ?k1 ?a2 ?l2 ?c2 ?k2 ?a3 ?l3 ?c3 ?k3 ?a4 ?l4 ?c4 ?k4 ?a5 ?l5 ?c5 ?k5 ?a6 ?l6 ?c6 ?k6 ?a7 ?l7 ?c7 ?k7 ?a8 ?l8 ?c8 ?k8 ?a9 ?l9 ?c9 ?k9 ?a10 ?l10 ?c10 ?k10 ?a11 ?l11 ?c11 ?k11 ?a12 ?l12 ?c12 ?k12 ?a13 ?l13 ?c13 ?k13 ?a14 ?l14 ?c14 ?k14 ?a15 ?l15 ?c15 ?k15 ?a16 ?l16 ?c16 ?k16 ?z_abs ?z_bool ?z_int ?z_isinstance ?z_len ?z_range ?z_repr ?z_set ?z_sorted ?z_sum ?z_tuple)
   (case a0=>k_is)
   (case l0=>k_is)
   (case c0=>k_is)
   (case k0=>k_is)
   (case a1=>k_is)
   (case l1=>k_is)
   (case c1=>k_is)
   (case k1=>k_is)
   (case a2=>k_is)
   (case l2=>k_is)
   (case c2=>k_is)
   (case k2=>k_is)
   (case a3=>k_is)
   (case l3=>k_is)
   (case c3=>k_is)
   (case k3=>k_is)
   (case a4=>k_is)
   (case l4=>k_is)
   (case c4=>k_is)
   (case k4=>k_is)
   (case a5=>k_is)
   (case l5=>k_is)
   (case c5=>k_is)
   (case k5=>k_is)
   (case a6=>k_is)
   (case l6=>k_is)
   (case c6=>k_is)
   (case k6=>k_is)
   (case a7=>k_is)
   (case l7=>k_is)
   (case c7=>k_is)
   (case k7=>k_is)
   (case a8=>k_is)
   (case l8=>k_is)
   (case c8=>k_is)
   (case k8=>k_is)
   (case a9=>k_is)
   (case l9=>k_is)
   (case c9=>k_is)
   (case k9=>k_is)
   (case a10=>k_is)
   (case l10=>k_is)
   (case c10=>k_is)
   (case k10=>k_is)
   (case a11=>k_is)
   (case l11=>k_is)
   (case c11=>k_is)
   (case k11=>k_is)
   (case a12=>k_is)
   (case l12=>k_is)
   (case c12=>k_is)
   (case k12=>k_is)
   (case a13=>k_is)
   (case l13=>k_is)
   (case c13=>k_is)
   (case k13=>k_is)
   (case a14=>k_is)
   (case l14=>k_is)
   (case c14=>k_is)
   (case k14=>k_is)
   (case a15=>k_is)
   (case l15=>k_is)
   (case c15=>k_is)
   (case k15=>k_is)
   (case a16=>k_is)
   (case l16=>k_is)
   (case c16=>k_is)
   (case k16=>k_is)
   (case z_abs=>k_is)
   (case z_bool=>k_is)
   (case z_int=>k_is)
   (case z_isinstance=>k_is)
   (case z_len=>k_is)
   (case z_range=>k_is)
   (case z_repr=>k_is)
   (case z_set=>k_is)
   (case z_sorted=>k_is)
   (case z_sum=>k_is)
   (case z_tuple=>k_is)
