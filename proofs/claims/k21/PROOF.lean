import PyProof.Rows.All
import Wide.All
import OpenK.AllK
import Wide.FinOn
import Lean
import PyProof.EqAt
import PyProof.EqKinds
import PyProof.TupleCall
import PyProof.ListRange
import PyProof.NeKinds
import KE.KUnpack
import KE.KSortTup
import PyProof.ZipIter
import PyProof.Rows.CallKwBuiltin
import KE.KDictLaws
import KE.KDictList
import PyProof.SetKind
import PyProof.SetRoads
import PyProof.Rows.SetFrom
import PyProof.WalksMore
import PyProof.FactsAll.tuple_0
import PyProof.FactsAll.tuple_2
import PyProof.FactsAll.tuple_3
import PyProof.FactsAll.list_3
import PyProof.Rows.SeqMore
import PyProof.AutoSeq1
import KE.KDictOf
import PyProof.AttrMissSeq
import PyProof.TupleIter
import PySem.Challenge.RW_signpoly_k21_exact_polynomials
set_option Elab.async false
set_option linter.all false
set_option maxRecDepth 100000
set_option genSizeOf false
noncomputable section
namespace L2
open PySem PySem.Spec PyProof.Rows
abbrev Key:=Sum Int Str
noncomputable def nZ:Key->Value->Bool
 | .inl k,v=>Value.isInt k v
 | .inr x,v=>Value.isStrOf x v
noncomputable def B6 (w:World):Key->Int
 | .inl k=>hashInt k
 | .inr x=>hashStr w x
theorem cq:∀ {k:Key}{v:Value},nZ k v=true->(∃ i t,k=Sum.inl i/\v=Value.int i t)\/(∃ x t,k=Sum.inr x/\v=Value.str x t)
 | .inl i,v,h=>by
  obtain⟨t,e⟩:=Value.isInt_shape (k:=i) (v:=v) h
  exact .inl ⟨i,t,rfl,e⟩
 | .inr x,v,h=>by
  obtain⟨t,e⟩:=Value.isStrOf_shape (x:=x) (v:=v) h
  exact .inr ⟨x,t,rfl,e⟩
theorem tP (i:Int) (t:Tok):nZ (.inl i) (.int i t)=true:=by simp [nZ,Value.isInt]
theorem tM (x:Str) (t:Tok):nZ (.inr x) (.str x t)=true:=by simp [nZ,Value.isStrOf]
theorem zD (a b:Int):decide ((Sum.inl a:Key)=Sum.inl b)=(a==b):=by
 by_cases e:a=b
 ·subst e;simp
 ·have h:¬ (Sum.inl a:Key)=Sum.inl b:=λq=>e (Sum.inl.inj q)
  rw [decide_eq_false h]
  exact (beq_eq_false_iff_ne.mpr e).symm
theorem zS (a b:Str):decide ((Sum.inr a:Key)=Sum.inr b)=decide (a=b):=by
 by_cases e:a=b
 ·subst e;simp
 ·have h:¬ (Sum.inr a:Key)=Sum.inr b:=λq=>e (Sum.inr.inj q)
  rw [decide_eq_false h,decide_eq_false e]
theorem AE (a:Int) (b:Str):decide ((Sum.inl a:Key)=Sum.inr b)=false:=decide_eq_false (λq=>nomatch q)
theorem An (a:Str) (b:Int):decide ((Sum.inr a:Key)=Sum.inl b)=false:=decide_eq_false (λq=>nomatch q)
noncomputable def cz (prog:Program) (w:World):PySem.KeyKind prog w Key where
 is:=nZ
 hash:=B6 w
 inj:=λv a b ha hb=>by
  rcases cq ha with⟨i,t,rfl,rfl⟩ | ⟨x,t,rfl,rfl⟩
  ·rcases cq hb with⟨j,u,rfl,e⟩ | ⟨y,u,rfl,e⟩
   ·injection e with e1 _;rw [e1]
   ·exact nomatch e
  ·rcases cq hb with⟨j,u,rfl,e⟩ | ⟨y,u,rfl,e⟩
   ·exact nomatch e
   ·injection e with e1 _;rw [e1]
 byValue:=λk v h=>by
  rcases cq h with⟨i,t,rfl,rfl⟩ | ⟨x,t,rfl,rfl⟩<;>rfl
 pyHash:=λhv h=>by
  rcases cq hv with⟨i,t,rfl,rfl⟩ | ⟨x,t,rfl,rfl⟩
  ·exact wpAny_pyHash_int h
  ·exact wpAny_pyHash_str h
 eqBool:=λhu hv h=>by
  rcases cq hu with⟨i,t,rfl,rfl⟩ | ⟨x,t,rfl,rfl⟩
  ·rcases cq hv with⟨j,u,rfl,rfl⟩ | ⟨y,u,rfl,rfl⟩
   ·rw [zD] at h;exact wpAny_eqBool_int h
   ·rw [AE] at h;exact SeqAt.EqAt.int_str i t y u _ _ _ _ h
  ·rcases cq hv with⟨j,u,rfl,rfl⟩ | ⟨y,u,rfl,rfl⟩
   ·rw [An] at h;exact SeqAt.EqAt.str_int x t j u _ _ _ _ h
   ·rw [zS] at h;exact wpAny_eqBool_str h
 «strs»:=λk x t v h=>by
  rcases cq h with⟨i,u,rfl,e⟩ | ⟨y,u,rfl,e⟩
  ·exact nomatch e
  ·injection e with e1 _
   subst e1
   cases v<;>rfl
theorem pH (prog:Program) (w:World) (i:Int) (t:Tok):(cz prog w).is (.inl i) (.int i t)=true:=tP i t
theorem qA (prog:Program) (w:World) (x:Str) (t:Tok):(cz prog w).is (.inr x) (.str x t)=true:=tM x t
end L2
namespace L2
open PySem PySem.Spec PyProof.Rows
inductive V where
 | non | bl (b:Bool) | int (i:Int) | str (x:Str) | byt (b:Array UInt8) | flt (b:UInt64) | ref (a:Addr) | ty (n:String)
 deriving DecidableEq
noncomputable def aW:V->Value->Prop
 | .non,u=>u=Value.none
 | .bl b,u=>u=Value.bool b
 | .int i,u=>∃ t,u=Value.int i t
 | .str x,u=>∃ t,u=Value.str x t
 | .byt b,u=>∃ t,u=Value.bytes b t
 | .flt b,u=>∃ t,u=Value.float b t
 | .ref a,u=>u=Value.ref a
 | .ty n,u=>u=Value.type n
abbrev aT:List V->List Value->Prop:=Paired aW
theorem aT.length {xs:List V}{us:List Value} (r:aT xs us):xs.length=us.length:=Paired.length r
theorem aT.get:∀ {xs:List V}{us:List Value}{i:Nat}{x:V},aT xs us->xs[i]?=some x->∃ u,us[i]?=some u/\aW x u
 | _,_,_,_,.nil,e=>by simp at e
 | _,_,0,_,.cons r _,e=>by simp at e;subst e;exact⟨_,rfl,r⟩
 | _,_,i+1,x,.cons _ t,e=>by
  obtain⟨u,h1,h2⟩:=aT.get (i:=i) (x:=x) t (by simpa using e)
  exact⟨u,by simpa using h1,h2⟩
theorem aT.set {x:V}{u:Value} (r:aW x u):∀ {xs:List V}{us:List Value} (i:Nat),aT xs us->aT (xs.set i x) (us.set i u)
 | _,_,_,.nil=>.nil
 | _,_,0,.cons _ t=>.cons r t
 | _,_,i+1,.cons q t=>.cons q (aT.set r i t)
theorem aT.append:∀ {xs ys:List V}{us ws:List Value},aT xs us->aT ys ws->aT (xs++ys) (us++ws)
 | _,_,_,_,.nil,s=>s
 | _,_,_,_,.cons r t,s=>.cons r (aT.append t s)
theorem aT.take:∀ {xs:List V}{us:List Value} (n:Nat),aT xs us->aT (xs.take n) (us.take n)
 | _,_,0,_=>.nil
 | _,_,_+1,.nil=>.nil
 | _,_,n+1,.cons r t=>.cons r (aT.take n t)
theorem aT.drop:∀ {xs:List V}{us:List Value} (n:Nat),aT xs us->aT (xs.drop n) (us.drop n)
 | _,_,0,r=>r
 | _,_,_+1,.nil=>.nil
 | _,_,n+1,.cons _ t=>aT.drop n t
noncomputable def j5:Option V->Option Value->Prop
 | some v,some u=>aW v u
 | none,none=>True
 | _,_=>False
noncomputable def KV {κ:Type}:List (κ×V)->List (κ×Value)->Prop:=Paired λ(p:κ×V) (q:κ×Value)=>p.1=q.1/\aW p.2 q.2
noncomputable def kV:Key->V
 | .inl i=>.int i
 | .inr x=>.str x
inductive HO where
 | lst (xs:List V)
 | tup (xs:List V)
 | dK (kvs:List (Key×V)) | dT (kvs:List (List Key×V))
 | set (S:Int->Bool) (n:Nat)
 | ins (C dx:Addr) (fs:List (Str×V))
 | own (x:Addr)
 | xd (fs:List (Str×V))
 | met (f x:Addr)
 | rng (lo hi:Int)
 | frz (o:Obj) (u:HO)
 | tbl (ps:Array Value)
 | ext (φ:Heap->Prop)
abbrev Hp:=Addr->Option HO
noncomputable def upd (H:Hp) (a:Addr) (o:HO):Hp:=λb=>if b=a then some o else H b
theorem aX {H:Hp}{a:Addr}{o:HO}:upd H a o a=some o:=by unfold upd;rw [if_pos rfl]
theorem aD {H:Hp}{a b:Addr}{o:HO} (h:b≠a):upd H a o b=H b:=by unfold upd;rw [if_neg h]
theorem yA {H:Hp}{a b:Addr}{o u:HO} (h:H a=some o) (h':H b=some u) (d:o≠u):a≠b:=by
 intro e;subst e;rw [h] at h';exact d (Option.some.inj h')
theorem aO {H:Hp}{a b:Addr}{o:HO} (h:H a=some o) (h':H b=none):a≠b:=by
 intro e;subst e;rw [h] at h';cases h'
noncomputable def dE (h:Heap) (a:Addr) (its:Array Value):Prop:=∃ o:Obj,h.get? a=some o/\o.cls=.type "tuple"/\(∃ n,o.data=.seq its n)/\o.dict=none
theorem dE.tup {h:Heap}{a:Addr}{its:Array Value} (x:dE h a its):IsTup h a its:=let ⟨o,e,c,n,_⟩:=x;⟨o,e,c,n⟩
theorem dE.new (h:Heap) (its:Array Value):dE (h.push { cls:=.type "tuple",data:=.seq its }) h.objs.size its:=⟨_,Heap.get?_push_size _ rfl,rfl,⟨_,rfl⟩,rfl⟩
section
variable (P:Program) (w:World)
noncomputable def bY (H:Hp) (h:Heap) (a:Addr):HO->Prop
 | .lst xs=>xs.length<=sizeLine/\∃ (its:List Value) (n:Nat),aT xs its/\h.get? a=some { cls:=.type "list",data:=.seq its.toArray n }
 | .tup xs=>xs.length<=sizeLine/\∃ its:List Value,aT xs its/\dE h a its.toArray
 | .dK kvs=>kvs.length<=sizeLine/\(a==sysModules)=false/\∃ vs,KV kvs vs/\h.DictOf (cz P w) a vs
 | .dT kvs=>kvs.length<=sizeLine/\(a==sysModules)=false/\∃ xs:List (List Key×Addr×Value),
   Paired (λ(p:List Key×V) (q:List Key×Addr×Value)=>p.1=q.1/\H q.2.1=some (.tup (p.1.map kV))/\aW p.2 q.2.2) kvs xs/\
   ∃ o es ep,h.get? a=some o/\o.ExactDict/\o.data=.dict es ep/\es.toList=xs.map (entryOfKey (tupleKind (cz P w)))/\(xs.map (·.1)).Nodup
 | .set S n=>h.SetOf (intKind P w) a S n
 | .ins C dx fs=>H dx=some (.own a)/\fs.length<=1000/\dx≠a/\h.get? a=some (PySem.W.instObj C dx)/\
   ∃ mA,h.Ns1 dx mA/\(∀ f,j5 (fs.lookup f) (mA f))/\PySem.Within mA (fs.map (·.1))
 | .own _=>∃ o,h.get? a=some o
 | .xd fs=>∃ mA,h.Ns1 a mA/\∀ f,j5 (fs.lookup f) (mA f)
 | .rng lo hi=>∃ t u v,h.get? a=some { cls:=.type "range",data:=.fields #[.int lo t,.int hi u,.int 1 v] }
 | .frz o u=>h.get? a=some o/\bY H h a u
 | .tbl ps=>h.get? a=some { cls:=.none,data:=.fields ps }
 | .met f x=>h.get? a=some (PySem.W.methodObj (.ref f) (.ref x))
 | .ext φ=>φ h/\(∃ o,h.get? a=some o)/\∀ h1 h2:Heap,φ h1->(∀ o,h1.get? a=some o->h2.get? a=some o)->φ h2
noncomputable def HOk (H:Hp) (h:Heap):Prop:=∀ a o,H a=some o->bY P w H h a o
end
section
variable {P:Program}{w:World}{H H':Hp}{h h':Heap}{a:Addr}{o:HO}
theorem bY.lt (x:bY P w H h a o):a < h.objs.size:=by
 cases o with
 | lst xs=>obtain⟨_,_,_,_,e⟩:=x;exact Heap.lt_size e
 | tup xs=>obtain⟨_,_,_,p⟩:=x;exact p.tup.lt
 | dK kvs=>obtain⟨_,_,_,_,o,_,_,e,_⟩:=x;exact Heap.lt_size e
 | dT kvs=>obtain⟨_,_,_,_,o,_,_,e,_⟩:=x;exact Heap.lt_size e
 | set S n=>obtain⟨o,_,_,_,e,_⟩:=x;exact Heap.lt_size e
 | ins C dx fs=>obtain⟨_,_,_,e,_⟩:=x;exact Heap.lt_size e
 | own y=>obtain⟨_,e⟩:=x;exact Heap.lt_size e
 | xd fs=>obtain⟨_,⟨_,_,_,e,_⟩,_⟩:=x;exact Heap.lt_size e
 | rng lo hi=>obtain⟨_,_,_,e⟩:=x;exact Heap.lt_size e
 | frz ob u=>obtain⟨e,_⟩:=x;exact Heap.lt_size e
 | tbl ps=>exact Heap.lt_size (show h.get? a=some _ from x)
 | met f y=>exact Heap.lt_size (show h.get? a=some _ from x)
 | ext φ=>obtain⟨_,⟨_,e⟩,_⟩:=x;exact Heap.lt_size e
theorem Paired.mapP {α β:Type}{F G:α->β->Prop}:∀ {l₁:List α}{l₂:List β},Paired F l₁ l₂->(∀ a b,F a b->G a b)->Paired G l₁ l₂
 | _,_,.nil,_=>.nil
 | _,_,.cons r t,f=>.cons (f _ _ r) (Paired.mapP t f)
theorem bY.stay (x:bY P w H h a o) (k:∀ b u,(b=a\/H b=some (.own a))->h.get? b=some u->h'.get? b=some u)
  (ho:∀ b,H b=some (.own a)->H' b=some (.own a)) (ht:∀ b xs,H b=some (.tup xs)->H' b=some (.tup xs)):bY P w H' h' a o:=by
 induction o with
 | lst xs=>obtain⟨z,its,n,r,e⟩:=x;exact⟨z,its,n,r,k _ _ (.inl rfl) e⟩
 | tup xs=>obtain⟨z,its,r,ob,e,c⟩:=x;exact⟨z,its,r,ob,k _ _ (.inl rfl) e,c⟩
 | dK kvs=>obtain⟨z,y,vs,r,ob,es,ep,e,c⟩:=x;exact⟨z,y,vs,r,ob,es,ep,k _ _ (.inl rfl) e,c⟩
 | dT kvs=>
  obtain⟨z,y,xs,r,ob,es,ep,e,c⟩:=x
  exact⟨z,y,xs,Paired.mapP r λp q z=>⟨z.1,ht _ _ z.2.1,z.2.2⟩,ob,es,ep,k _ _ (.inl rfl) e,c⟩
 | set S n=>obtain⟨ob,es,ep,t,e,c⟩:=x;exact⟨ob,es,ep,t,k _ _ (.inl rfl) e,c⟩
 | ins C dx fs=>
  obtain⟨d,z,ne,e,mA,⟨od,es,ep,e2,c⟩,r⟩:=x
  exact⟨ho _ d,z,ne,k _ _ (.inl rfl) e,mA,⟨od,es,ep,k _ _ (.inr d) e2,c⟩,r⟩
 | own y=>obtain⟨ob,e⟩:=x;exact⟨ob,k _ _ (.inl rfl) e⟩
 | xd fs=>obtain⟨mA,⟨od,es,ep,e,c⟩,r⟩:=x;exact⟨mA,⟨od,es,ep,k _ _ (.inl rfl) e,c⟩,r⟩
 | rng lo hi=>obtain⟨t,u,v,e⟩:=x;exact⟨t,u,v,k _ _ (.inl rfl) e⟩
 | frz ob u ih=>obtain⟨e,q⟩:=x;exact⟨k _ _ (.inl rfl) e,ih q⟩
 | tbl ps=>
  have e:h.get? a=some { cls:=.none,data:=.fields ps }:=x
  show h'.get? a=some { cls:=.none,data:=.fields ps }
  exact k a _ (.inl rfl) e
 | met f y=>
  have e:h.get? a=some (PySem.W.methodObj (.ref f) (.ref y)):=x
  show h'.get? a=some (PySem.W.methodObj (.ref f) (.ref y))
  exact k a _ (.inl rfl) e
 | ext φ=>obtain⟨p,⟨o,e⟩,st⟩:=x;exact⟨st _ _ p λo q=>k _ _ (.inl rfl) q,⟨o,k _ _ (.inl rfl) e⟩,st⟩
theorem HOk.lt (x:HOk P w H h) (e:H a=some o):a < h.objs.size:=(x a o e).lt
theorem HOk.fresh (x:HOk P w H h) (e:h.objs.size<=a):H a=none:=by
 cases q:H a with
 | none=>rfl
 | some u=>exact absurd (Nat.lt_of_lt_of_le (x.lt q) e) (Nat.lt_irrefl _)
theorem HOk.kept (x:HOk P w H h) (k:∀ b u,h.get? b=some u->h'.get? b=some u):HOk P w H h':=λa o e=>
 (x a o e).stay (λb u _ q=>k b u q) (λ_ q=>q) λ_ _ q=>q
theorem HOk.laid (x:HOk P w H h) (k:∀ b u,h.get? b=some u->h'.get? b=some u) (hp:h.objs.size<=a) (new:bY P w (upd H a o) h' a o):HOk P w (upd H a o) h':=λb u e=>by
 have hn:=x.fresh hp
 by_cases hb:b=a
 ·subst hb;rw [aX] at e;cases e;exact new
 ·rw [aD hb] at e
  exact (x b u e).stay (λc v _ q=>k c v q) (λc q=>by rw [aD (aO q hn)];exact q) λc xs q=>by rw [aD (aO q hn)];exact q
end
noncomputable def Rd (H:Hp) (a:Addr) (u:HO):Prop:=H a=some u\/∃ o,H a=some (.frz o u)
theorem Rd.of {H:Hp}{a:Addr}{u:HO} (h:H a=some u):Rd H a u:=.inl h
theorem Rd.ok {P:Program}{w:World}{H:Hp}{h:Heap}{a:Addr}{u:HO} (r:Rd H a u) (x:HOk P w H h):bY P w H h a u:=by
 rcases r with r | ⟨o,r⟩
 ·exact x a u r
 ·obtain⟨_,q⟩:=x a _ r
  exact q
noncomputable def Mut:Option HO->Prop
 | some (.lst _)=>True
 | some (.dK _)=>True
 | some (.dT _)=>True
 | some (.set _ _)=>True
 | some (.ins _ _ _)=>True
 | some (.ext _)=>True
 | _=>False
section
variable {P:Program}{w:World}{H:Hp}{h h':Heap}{x e:Addr}{o':HO}
theorem HOk.write (ok:HOk P w H h) (mu:Mut (H x)) (he:e=x\/H e=some (.own x)) (k:∀ b u,b≠e->h.get? b=some u->h'.get? b=some u) (heo:∃ u,h'.get? e=some u)
  (new:bY P w (upd H x o') h' x o'):HOk P w (upd H x o') h':=λb u q=>by
 have nown:∀ c y,H c=some (.own y)->c≠x:=λc y r z=>by subst z;rw [r] at mu;exact mu
 have ntup:∀ c xs,H c=some (.tup xs)->c≠x:=λc xs r z=>by subst z;rw [r] at mu;exact mu
 by_cases hb:b=x
 ·subst hb;rw [aX] at q;cases q;exact new
 ·rw [aD hb] at q
  by_cases hbe:b=e
  ·have q':H b=some (.own x):=by
    rcases he with z | z
    ·exact absurd (hbe.trans z) hb
    ·rw [hbe];exact z
   rw [q] at q';cases q'
   obtain⟨v,hv⟩:=heo
   exact⟨v,by rw [hbe];exact hv⟩
  ·refine (ok b u q).stay (λc v hc r=>k c v ?_ r) (λc r=>by rw [aD (nown c b r)];exact r) λc xs r=>by rw [aD (ntup c xs r)];exact r
   rcases hc with rfl | hc
   ·exact hbe
   ·rintro rfl
    rcases he with z | z
    ·exact nown c b hc z
    ·rw [hc] at z;cases z;exact hb rfl
end
structure Un (fs ex:List Addr) (H H':Hp) (h h':Heap):Prop where
 keep:∀ b o,h.get? b=some o->H b=none->b ∉ fs->b ∉ ex->h'.get? b=some o
 slot:∀ b o,h.get? b=some o->H b=none->b ∈ fs->b ∉ ex->∃ sl,h'.get? b=some { o with slots:=sl }
 free:∀ b o,h.get? b=some o->H b=none->b ∉ ex->H' b=none
 there:∀ b o,h.get? b=some o->b ∉ ex->∃ o',h'.get? b=some o'
 tups:∀ b xs,H b=some (.tup xs)->H' b=some (.tup xs)
 frzs:∀ b o u,H b=some (.frz o u)->H' b=some (.frz o u)
 tbls:∀ b ps,H b=some (.tbl ps)->∃ more,H' b=some (.tbl (ps++more))
section
variable {fs fs' ex ex':List Addr}{H H1 H2:Hp}{h h1 h2 h':Heap}{a x e:Addr}{o:HO}
theorem Un.any (u:Un fs ex H H1 h h1) {b:Addr}{ob:Obj} (q:h.get? b=some ob) (n:H b=none) (hx:b ∉ ex):∃ sl,h1.get? b=some { ob with slots:=sl }:=by
 by_cases hb:b ∈ fs
 ·exact u.slot b ob q n hb hx
 ·exact⟨ob.slots,u.keep b ob q n hb hx⟩
theorem Un.kept (k:∀ b u,h.get? b=some u->h'.get? b=some u):Un fs ex H H h h':=
 ⟨λb ob q _ _ _=>k b ob q,λb ob q _ _ _=>⟨ob.slots,k b ob q⟩,λ_ _ _ n _=>n,λb ob q _=>⟨ob,k b ob q⟩,λ_ _ q=>q,λ_ _ _ q=>q,λ_ ps q=>⟨#[],by rw [q];simp⟩⟩
theorem Un.refl:Un fs ex H H h h:=Un.kept λ_ _ q=>q
theorem Un.laid (k:∀ b u,h.get? b=some u->h'.get? b=some u) (hp:h.objs.size<=a) (hn:H a=none):Un fs ex H (upd H a o) h h' where
 keep:=λb u q _ _ _=>k b u q
 slot:=λb u q _ _ _=>⟨u.slots,k b u q⟩
 free:=λb u q n _=>by rw [aD (Nat.ne_of_lt (Nat.lt_of_lt_of_le (Heap.lt_size q) hp))];exact n
 there:=λb u q _=>⟨u,k b u q⟩
 tups:=λb xs q=>by rw [aD (aO q hn)];exact q
 frzs:=λb u xs q=>by rw [aD (aO q hn)];exact q
 tbls:=λb ps q=>⟨#[],by rw [aD (aO q hn),q];simp⟩
theorem Un.write (mu:Mut (H x)) (he:e=x\/H e=some (.own x)) (k:∀ b u,b≠e->h.get? b=some u->h'.get? b=some u) (heo:∃ u,h'.get? e=some u):Un fs ex H (upd H x o) h h':=by
 have hx:∀ b,H b=none->b≠x:=λb n z=>by subst z;rw [n] at mu;exact mu
 have hb:∀ b,H b=none->b≠e:=λb n z=>by
  subst z
  rcases he with r | r
  ·exact hx b n r
  ·rw [n] at r;cases r
 have hm:∀ b u,H b=some u->¬ Mut (some u)->b≠x:=λb u q nm z=>by subst z;rw [q] at mu;exact nm mu
 refine⟨λb u q n _ _=>k b u (hb b n) q,λb u q n _ _=>⟨u.slots,k b u (hb b n) q⟩,λb u q n _=>by rw [aD (hx b n)];exact n,λb u q _=>?_,
  λb xs q=>by rw [aD (hm b _ q λz=>z)];exact q,λb u xs q=>by rw [aD (hm b _ q λz=>z)];exact q,λb ps q=>⟨#[],by rw [aD (hm b _ q λz=>z),q];simp⟩⟩
 by_cases hbe:b=e
 ·subst hbe;exact heo
 ·exact⟨u,k b u hbe q⟩
end
noncomputable def trk (h:Heap) (H:Hp):List Addr:=(List.range h.objs.size).filter λa=>(H a).isSome
noncomputable def og (h:Heap) (H:Hp):Heap:=PySem.W.hideAll h (trk h H)
theorem uA (h:Heap) (H:Hp):(og h H).objs.size=h.objs.size:=PySem.W.hideAll_size _ _
theorem u5 {h:Heap}{H:Hp}{b:Addr}{o:Obj} (e:h.get? b=some o) (n:H b=none):(og h H).get? b=some o:=
 PySem.W.hideAll_get _ e λhm=>by
  have q:(H b).isSome=true:=(List.mem_filter.mp hm).2
  rw [n] at q;simp at q
theorem xx {h:Heap}{H:Hp}{b:Addr}{o:Obj} (e:(og h H).get? b=some o):h.get? b=some o/\H b=none:=by
 have e':h.get? b=some o:=PySem.W.of_hideAll (trk h H) e
 refine⟨e',?_⟩
 cases q:H b with
 | none=>rfl
 | some x=>
  have hm:b ∈ trk h H:=List.mem_filter.mpr ⟨List.mem_range.mpr (Heap.lt_size e'),by simp [q]⟩
  have z:(og h H).get? b=none:=PySem.W.hideAll_none (trk h H) hm
  rw [z] at e;cases e
end L2
namespace L2
open PySem PySem.Spec PyProof.Rows
structure Mod (K:PySem.W.Frag) (mg:Str->Option Value) (base:Heap):Prop where
 kin:K.In base
 glob:base.Ns mainGlobals mg
 blt:∃ mb,base.Ns builtinsNs mb/\∀ x:Str,x≠"__name__"->mb x=bootBuiltins x
 nolimit:base.NoLimit
structure Cx where
 prog:Program
 w:World
 K:PySem.W.Frag
 mg:Str->Option Value
 base:Heap
 A:Around
 N:List Str
 s₀:Shared
 H₀:Hp
 env:Env
 outer:List Env
 stack:List Env
 ex:List Addr
 fn:Str->Bool
 calm:Bool
 pn:List (Addr×Obj)
 xe:Value->Shared->Prop
noncomputable def frs (l:List Env):List Addr:=l.filterMap (·.frame)
abbrev Cx.fs (X:Cx):List Addr:=frs X.outer
noncomputable def Vis (sc:Scope) (x:Str):Prop:=sc.names.lookup x=some .local\/sc.names.lookup x=some .cell\/sc.names.lookup x=some .free
noncomputable def Loc (sc:Scope) (x:Str):Prop:=sc.names.lookup x=some .local\/sc.names.lookup x=some .cell
noncomputable def B2 (env:Env) (h:Heap) (m:Str->Option Value) (x:Str) (u:Value):Prop:=
 (env.kindOf x=some .local/\m x=some u)\/((env.kindOf x=some .cell\/env.kindOf x=some .free)/\∃ c,env.cells.lookup x=some c/\h.IsCell c (some u))
structure Cx.Ok (X:Cx):Prop where
 mod:Mod X.K X.mg X.base
 kind:X.env.scope.kind=.function
 glob:X.env.globals=mainGlobals
 blt:X.env.builtins=builtinsNs
 above:X.s₀.heap.objs.size<=X.env.locals
 inj:∀ x y c,X.env.cells.lookup x=some c->X.env.cells.lookup y=some c->x=y
 has:∀ x,(X.env.kindOf x=some .cell\/X.env.kindOf x=some .free)->∃ c,X.env.cells.lookup x=some c
 cab:∀ x c,X.fn x=true->X.env.cells.lookup x=some c->X.s₀.heap.objs.size<=c
 hd:X.calm=true->X.A.handled=none
 frames:X.A.frames=some X.stack
 stk:X.stack=X.outer\/(X.stack=X.env::X.outer/\X.env.frame=some X.env.locals)
 exf:∀ b ∈ X.ex,b≠X.env.locals/\∀ x c,X.env.cells.lookup x=some c->c≠b
 bs:∀ b o,X.base.get? b=some o->X.s₀.heap.get? b=some o/\X.H₀ b=none
 bsz:X.base.objs.size<=X.s₀.heap.objs.size
 noex:∀ b o,X.base.get? b=some o->b ∉ X.ex
 exfs:∀ b ∈ X.ex,b ∉ X.fs
 funs:X.s₀.heap.FunFrames X.base X.outer
 frf:∀ b ∈ X.fs,X.H₀ b=none
structure Inv (X:Cx) (pins:List (Addr×Obj)) (σ:List (Option V)) (H:Hp) (s:Shared):Prop where
 ok:X.Ok
 os:s.os=X.s₀.os
 bare:AllBare s.gens
 base:Un X.fs X.ex X.H₀ H X.s₀.heap s.heap
 loc:∃ m,s.heap.Ns X.env.locals m/\∀ (i:Nat) (x:Str) (v:V),X.N[i]?=some x->σ[i]?=some (some v)->Vis X.env.scope x->∃ u,aW v u/\B2 X.env s.heap m x u
 cell:∀ x c,X.env.cells.lookup x=some c->∃ v,s.heap.IsCell c v
 free:H X.env.locals=none
 freeC:∀ x c,X.env.cells.lookup x=some c->H c=none
 pin:∀ p ∈ X.pn++pins,s.heap.get? p.1=some p.2/\H p.1=none/\p.1≠X.env.locals/\p.1 ∉ X.fs/\∀ v,p.2.data≠.cell v
 hok:HOk X.prog X.w H s.heap
 len:σ.length=X.N.length
section
variable {X:Cx}{pins:List (Addr×Obj)}{σ:List (Option V)}{H H':Hp}{s:Shared}{h':Heap}
theorem Cx.Ok.nofr (ok:X.Ok) {b:Addr}{o:Obj} (e:X.base.get? b=some o):b ∉ X.fs:=λhb=>by
 have:=(ok.funs.mem hb).1
 rw [e] at this;cases this
theorem Inv.bs (I:Inv X pins σ H s):∀ b o,X.base.get? b=some o->s.heap.get? b=some o/\H b=none:=λb o e=>
 ⟨I.base.keep b o (I.ok.bs b o e).1 (I.ok.bs b o e).2 (I.ok.nofr e) (I.ok.noex b o e),I.base.free b o (I.ok.bs b o e).1 (I.ok.bs b o e).2 (I.ok.noex b o e)⟩
theorem Inv.bk (I:Inv X pins σ H s):∀ b o,X.base.get? b=some o->s.heap.get? b=some o:=λb o e=>(I.bs b o e).1
theorem Inv.mod (I:Inv X pins σ H s):Mod X.K X.mg X.base:=I.ok.mod
theorem Inv.kIn (I:Inv X pins σ H s):X.K.In s.heap:=I.ok.mod.kin.keeps I.bk
theorem Inv.fr (I:Inv X pins σ H s):∃ m,Fr X.base X.env.locals s.heap m:=
 let ⟨m,hn,_⟩:=I.loc
 ⟨m,hn,I.bk,Nat.le_trans I.ok.bsz I.ok.above⟩
theorem Inv.lt (I:Inv X pins σ H s):X.env.locals < s.heap.objs.size:=let ⟨_,hn,_⟩:=I.loc;hn.lt
theorem Inv.sz (I:Inv X pins σ H s):X.s₀.heap.objs.size<=s.heap.objs.size:=Nat.le_trans I.ok.above (Nat.le_of_lt I.lt)
theorem Inv.nofs (I:Inv X pins σ H s) {a:Addr} (h:s.heap.objs.size<=a):a ∉ X.fs:=λhb=>by
 obtain⟨_,o,ho,_⟩:=I.ok.funs.mem hb
 exact absurd (Nat.lt_of_lt_of_le (Heap.lt_size ho) (Nat.le_trans I.sz h)) (Nat.lt_irrefl _)
theorem Inv.cne (I:Inv X pins σ H s):∀ x c,X.env.cells.lookup x=some c->c≠X.env.locals:=λx c e z=>by
 obtain⟨v,o,ho,hd⟩:=I.cell x c e
 obtain⟨m,⟨o',es,ep,ho',hd',_⟩,_⟩:=I.loc
 rw [z,ho'] at ho;cases ho;rw [hd'] at hd;cases hd
theorem Inv.funs (I:Inv X pins σ H s):s.heap.FunFrames X.base X.outer:=by
 have all:∀ (l:List Env),(∀ b ∈ frs l,b ∈ X.fs)->X.s₀.heap.FunFrames X.base l->s.heap.FunFrames X.base l:=by
  intro l
  induction l with
  | nil=>intro _ _;trivial
  | cons env r ih=>
   intro hs hl
   obtain⟨hk,⟨L,o,hf,hn,ho,hd⟩,hr⟩:=hl
   have hL:L ∈ X.fs:=hs L (by unfold frs;rw [List.filterMap_cons,hf];exact List.mem_cons_self)
   obtain⟨sl,e⟩:=I.base.slot L o ho (I.ok.frf L hL) hL λz=>I.ok.exfs L z hL
   exact⟨hk,⟨L,_,hf,hn,e,hd⟩,ih (λb hb=>hs b (by unfold frs;rw [List.filterMap_cons,hf];exact List.mem_cons_of_mem _ hb)) hr⟩
 exact all X.outer (λ_ hb=>hb) I.ok.funs
theorem Inv.stack (I:Inv X pins σ H s):s.heap.FunFrames X.base X.stack:=by
 rcases I.ok.stk with e | ⟨e,hf⟩
 ·rw [e];exact I.funs
 ·rw [e]
  obtain⟨m,hn,_⟩:=I.loc
  refine .cons (by rw [I.ok.kind];decide) hf hn ?_ I.funs
  exact Heap.get?_none_of_le (Nat.le_trans I.ok.bsz I.ok.above)
theorem Inv.stkSub (I:Inv X pins σ H s):∀ b ∈ frs X.stack,b ∈ X.env.locals::X.fs:=λb hb=>by
 rcases I.ok.stk with e | ⟨e,hf⟩
 ·rw [e] at hb;exact List.mem_cons_of_mem _ hb
 ·rw [e] at hb
  unfold frs at hb
  rw [List.filterMap_cons,hf] at hb
  exact hb
theorem Inv.stkFree (I:Inv X pins σ H s):∀ b ∈ frs X.stack,H b=none:=λb hb=>by
 rcases List.mem_cons.mp (I.stkSub b hb) with e | hb
 ·rw [e];exact I.free
 ·obtain⟨_,o,ho,_⟩:=I.ok.funs.mem hb
  exact I.base.free b o ho (I.ok.frf b hb) λz=>I.ok.exfs b z hb
theorem Inv.step {g':Array GenState}{t':Nat}{d':Drawn}{ch:List Addr} (I:Inv X pins σ H s)
  (hch:∀ b ∈ ch,(b ∈ X.ex\/X.s₀.heap.objs.size<=b)/\b≠X.env.locals/\(∀ x c,X.env.cells.lookup x=some c->c≠b)/\∀ p ∈ X.pn++pins,p.1≠b)
  (keep:∀ b o,b≠X.env.locals->b ∉ X.fs->b ∉ ch->s.heap.get? b=some o->H b=none->h'.get? b=some o)
  (slot:∀ b o,b≠X.env.locals->b ∈ X.fs->b ∉ ch->s.heap.get? b=some o->H b=none->∃ sl,h'.get? b=some { o with slots:=sl }) (free:∀ b o,b ∉ ch->s.heap.get? b=some o->H b=none->H' b=none)
  (there:∀ b o,b ∉ ch->s.heap.get? b=some o->∃ o',h'.get? b=some o')
  (tups:∀ b xs,H b=some (.tup xs)->H' b=some (.tup xs)) (frzs:∀ b o u,H b=some (.frz o u)->H' b=some (.frz o u)) (tbls:∀ b ps,H b=some (.tbl ps)->∃ more,H' b=some (.tbl (ps++more)))
  (ns:∀ m,s.heap.Ns X.env.locals m->h'.Ns X.env.locals m) (hok:HOk X.prog X.w H' h') (hg:AllBare g') :
  Inv X pins σ H' { s with heap:=h',gens:=g',drawn:=d',toks:=t' }:=by
 have neL:∀ b o,X.s₀.heap.get? b=some o->b≠X.env.locals:=λb o e=>Nat.ne_of_lt (Nat.lt_of_lt_of_le (Heap.lt_size e) I.ok.above)
 have neC:∀ b o,X.s₀.heap.get? b=some o->b ∉ X.ex->b ∉ ch:=λb o e hx hb=>by
  rcases (hch b hb).1 with z | z
  ·exact hx z
  ·exact absurd (Nat.lt_of_lt_of_le (Heap.lt_size e) z) (Nat.lt_irrefl _)
 have cellK:∀ x c,X.env.cells.lookup x=some c->∀ v,s.heap.IsCell c v->h'.IsCell c v:=λx c e v ⟨o,ho,hd⟩=>by
  have nch:c ∉ ch:=λz=>(hch c z).2.2.1 x c e rfl
  by_cases hc:c ∈ X.fs
  ·obtain⟨sl,q⟩:=slot c o (I.cne x c e) hc nch ho (I.freeC x c e)
   exact⟨_,q,hd⟩
  ·exact⟨o,keep c o (I.cne x c e) hc nch ho (I.freeC x c e),hd⟩
 refine⟨I.ok,I.os,hg,⟨λb o e n hb hx=>?_,λb o e n hb hx=>?_,λb o e n hx=>?_,λb o e hx=>?_,λb xs e=>tups b xs (I.base.tups b xs e),λb o xs e=>frzs b o xs (I.base.frzs b o xs e),λb ps e=>?_⟩,?_,λx c e=>?_,?_,λx c e=>?_,λp hp=>?_,hok,I.len⟩
 ·exact keep b o (neL b o e) hb (neC b o e hx) (I.base.keep b o e n hb hx) (I.base.free b o e n hx)
 ·obtain⟨sl,e1⟩:=I.base.slot b o e n hb hx
  obtain⟨sl',e2⟩:=slot b _ (neL b o e) hb (neC b o e hx) e1 (I.base.free b o e n hx)
  exact⟨sl',e2⟩
 ·obtain⟨o',e1⟩:=I.base.there b o e hx
  exact free b o' (neC b o e hx) e1 (I.base.free b o e n hx)
 ·obtain⟨o',e1⟩:=I.base.there b o e hx
  exact there b o' (neC b o e hx) e1
 ·obtain⟨m1,e1⟩:=I.base.tbls b ps e
  obtain⟨m2,e2⟩:=tbls b _ e1
  exact⟨m1++m2,by rw [e2,Array.append_assoc]⟩
 ·obtain⟨m,hn,hl⟩:=I.loc
  refine⟨m,ns m hn,λi x v e1 e2 e3=>?_⟩
  obtain⟨u,r,l⟩:=hl i x v e1 e2 e3
  refine⟨u,r,?_⟩
  rcases l with l | ⟨k,c,e,z⟩
  ·exact .inl l
  ·exact .inr ⟨k,c,e,cellK x c e _ z⟩
 ·obtain⟨v,z⟩:=I.cell x c e
  exact⟨v,cellK x c e v z⟩
 ·obtain⟨m,⟨o,_,_,ho,_⟩,_⟩:=I.loc
  exact free _ o (λz=>(hch _ z).2.1 rfl) ho I.free
 ·obtain⟨v,o,ho,hd⟩:=I.cell x c e
  exact free c o (λz=>(hch c z).2.2.1 x c e rfl) ho (I.freeC x c e)
 ·obtain⟨e,n,ne,nf,d⟩:=I.pin p hp
  have nch:p.1 ∉ ch:=λz=>(hch p.1 z).2.2.2 p hp rfl
  exact⟨keep p.1 p.2 ne nf nch e n,free p.1 p.2 nch e n,ne,nf,d⟩
theorem Inv.un {t':Nat} (I:Inv X pins σ H s) (u:Un X.fs [] H H' s.heap h') (hok:HOk X.prog X.w H' h'):Inv X pins σ H' { s with heap:=h',toks:=t' }:=by
 obtain⟨m,⟨o,es,ep,ho,r⟩,_⟩:=id I.loc
 obtain⟨sl,hL⟩:=u.any ho I.free (by simp)
 exact I.step (g':=s.gens) (d':=s.drawn) (ch:=[]) (λ_ z=>nomatch z) (λb o _ hb _ e n=>u.keep b o e n hb (by simp)) (λb o _ hb _ e n=>u.slot b o e n hb (by simp)) (λb o _ e n=>u.free b o e n (by simp)) (λb o _ e=>u.there b o e (by simp)) u.tups u.frzs u.tbls (λm' hm=>by
  obtain⟨o',es',ep',ho',r'⟩:=hm
  rw [ho] at ho';cases ho'
  exact⟨_,es',ep',hL,r'⟩) hok I.bare
theorem Inv.call {g':Array GenState}{t':Nat}{d':Drawn}{ch:List Addr} (I:Inv X pins σ H s) (u:Un (frs X.stack) ch H H' s.heap h') (hok:HOk X.prog X.w H' h') (hg:AllBare g')
  (hch:∀ b ∈ ch,(b ∈ X.ex\/X.s₀.heap.objs.size<=b)/\b≠X.env.locals/\(∀ x c,X.env.cells.lookup x=some c->c≠b)/\∀ p ∈ X.pn++pins,p.1≠b) :
  Inv X pins σ H' { s with heap:=h',gens:=g',drawn:=d',toks:=t' }:=by
 obtain⟨m,⟨o,es,ep,ho,r⟩,_⟩:=id I.loc
 obtain⟨sl,hL⟩:=u.any ho I.free λz=>(hch _ z).2.1 rfl
 exact I.step (ch:=ch) hch (λb o hL hb hc e n=>u.keep b o e n (λz=>(List.mem_cons.mp (I.stkSub b z)).elim hL hb) hc) (λb o _ _ hc e n=>u.any e n hc) (λb o hc e n=>u.free b o e n hc) (λb o hc e=>u.there b o e hc) u.tups u.frzs u.tbls (λm' hm=>by
  obtain⟨o',es',ep',ho',r'⟩:=hm
  rw [ho] at ho';cases ho'
  exact⟨_,es',ep',hL,r'⟩) hok hg
theorem Inv.turned {t':Nat}{it:Addr} (I:Inv X pins σ H s) (k:∀ b o,b≠it->s.heap.get? b=some o->h'.get? b=some o) (hn:H it=none) (hL:it≠X.env.locals)
  (h1:it ∈ X.ex\/X.s₀.heap.objs.size<=it) (h2:∀ x c,X.env.cells.lookup x=some c->c≠it) (h3:∀ p ∈ X.pn++pins,p.1≠it):Inv X pins σ H { s with heap:=h',toks:=t' }:=by
 have nit:∀ b u,H b=some u->b≠it:=λb u e z=>by rw [z,hn] at e;cases e
 refine I.step (g':=s.gens) (d':=s.drawn) (ch:=[it]) (λb hb=>?_) (λb o _ _ hc e _=>k b o (λz=>hc (by simp [z])) e) (λb o _ _ hc e _=>⟨o.slots,k b o (λz=>hc (by simp [z])) e⟩) (λ_ _ _ _ n=>n)
  (λb o hc e=>⟨o,k b o (λz=>hc (by simp [z])) e⟩) (λ_ _ e=>e) (λ_ _ _ e=>e) (λb ps e=>⟨#[],by rw [e];simp⟩) (λm hm=>?_) (λb u e=>?_) I.bare
 ·have e:b=it:=by simpa using hb
  subst e
  exact⟨h1,hL,h2,h3⟩
 ·obtain⟨o,es,ep,ho,r⟩:=hm
  exact⟨o,es,ep,k _ o (Ne.symm hL) ho,r⟩
 ·refine (I.hok b u e).stay (λc v hc q=>k c v ?_ q) (λ_ q=>q) λ_ _ q=>q
  rcases hc with z | z
  ·rw [z];exact nit b u e
  ·exact nit c _ z
theorem Inv.tok (I:Inv X pins σ H s) (t:Nat):Inv X pins σ H { s with toks:=t }:=I.un (h':=s.heap) (t':=t) Un.refl I.hok
theorem Inv.kept {t':Nat} (I:Inv X pins σ H s) (k:∀ b u,s.heap.get? b=some u->h'.get? b=some u):Inv X pins σ H { s with heap:=h',toks:=t' }:=I.un (Un.kept k) (I.hok.kept k)
theorem Inv.laid {a:Addr}{o:HO}{t':Nat} (I:Inv X pins σ H s) (k:∀ b u,s.heap.get? b=some u->h'.get? b=some u) (hp:s.heap.objs.size<=a) (new:bY X.prog X.w (upd H a o) h' a o) :
  Inv X pins σ (upd H a o) { s with heap:=h',toks:=t' }:=I.un (Un.laid k hp (I.hok.fresh hp)) (I.hok.laid k hp new)
theorem Inv.write {x e:Addr}{o:HO}{t':Nat} (I:Inv X pins σ H s) (mu:Mut (H x)) (he:e=x\/H e=some (.own x)) (k:∀ b u,b≠e->s.heap.get? b=some u->h'.get? b=some u) (heo:∃ u,h'.get? e=some u)
  (new:bY X.prog X.w (upd H x o) h' x o):Inv X pins σ (upd H x o) { s with heap:=h',toks:=t' }:=I.un (Un.write mu he k heo) (I.hok.write mu he k heo new)
theorem Inv.weak {σ':List (Option V)} (I:Inv X pins σ H s) (hl:σ'.length=σ.length) (w:∀ (i:Nat) v,σ'[i]?=some (some v)->σ[i]?=some (some v)):Inv X pins σ' H s:=
 ⟨I.ok,I.os,I.bare,I.base,let ⟨m,hn,hl'⟩:=I.loc;⟨m,hn,λi x v e1 e2 e3=>hl' i x v e1 (w i v e2) e3⟩,I.cell,I.free,I.freeC,I.pin,I.hok,hl.trans I.len⟩
theorem Inv.pins_of {pins':List (Addr×Obj)} (I:Inv X pins σ H s) (h:∀ p ∈ pins',s.heap.get? p.1=some p.2/\H p.1=none/\p.1≠X.env.locals/\p.1 ∉ X.fs/\∀ v,p.2.data≠.cell v):Inv X pins' σ H s:=
 ⟨I.ok,I.os,I.bare,I.base,I.loc,I.cell,I.free,I.freeC,λp hp=>(List.mem_append.mp hp).elim (λz=>I.pin p (List.mem_append_left _ z)) (h p),I.hok,I.len⟩
theorem qE {N:List Str} (hN:N.Nodup) {i j:Nat}{x:Str} (a:N[i]?=some x) (b:N[j]?=some x):i=j:=by
 obtain⟨h1,e1⟩:=List.getElem?_eq_some_iff.mp a
 obtain⟨h2,e2⟩:=List.getElem?_eq_some_iff.mp b
 exact (List.getElem_inj hN).mp (e1.trans e2.symm)
theorem t6 {M:Model}{A:Around}{E:Value->Shared->Prop}{i:Nat}{x:Str}{v:V}{u:Value}{Q:Unit->Shared->Prop} (I:Inv X pins σ H s) (hN:X.N.Nodup) (hi:X.N[i]?=some x) (hx:Loc X.env.scope x) (r:aW v u)
  (h:∀ s',Inv X pins (σ.set i (some v)) H s'->(∃ a,Heap.SameBut a s.heap s'.heap/\(a=X.env.locals\/X.env.cells.lookup x=some a))->Q () s') (hf:X.fn x=true\/X.env.scope.names.lookup x=some .local:=by first | exact .inl rfl | exact .inr rfl | assumption):wpAny M A (storeName X.env x u) Q E s:=by
 obtain⟨m,hn,hl⟩:=id I.loc
 have hcls:(X.env.scope.kind==.class || (X.env.scope.kind==.module && X.env.locals != X.env.globals))=false:=by rw [I.ok.kind];rfl
 have hiσ:i < σ.length:=by rw [I.len];exact (List.getElem?_eq_some_iff.mp hi).1
 have cne:=I.cne
 have tracked:∀ {a:Addr}{h':Heap},(∃ o,s.heap.get? a=some o/\H a=none)->Heap.SameBut a s.heap h'->HOk X.prog X.w H h':=λ{a h'} ha hs b ob e=>by
  obtain⟨_,_,hfree⟩:=ha
  refine (I.hok b ob e).stay (λc w' hc q=>(hs.2 c ?_).trans q) (λ_ q=>q) λ_ _ q=>q
  rintro rfl
  rcases hc with rfl | hc
  ·rw [hfree] at e;cases e
  ·rw [hfree] at hc;cases hc
 rcases hx with hk | hk
 ·refine wpAny_storeName_local hk hn (λh' hn' hs=>?_) hcls
  obtain⟨oL,_,_,hoL,_⟩:=id hn
  refine h _ ⟨I.ok,I.os,I.bare,⟨λb o e n hb hx=>?_,λb o e n hb hx=>?_,I.base.free,λb o e hx=>?_,I.base.tups,I.base.frzs,I.base.tbls⟩,⟨_,hn',λj y v' e1 e2 e3=>?_⟩,λy c e=>?_,I.free,I.freeC,λp hp=>?_,tracked ⟨oL,hoL,I.free⟩ hs,by simpa using I.len⟩ ⟨_,hs,.inl rfl⟩
  ·exact (hs.2 b (Nat.ne_of_lt (Nat.lt_of_lt_of_le (Heap.lt_size e) I.ok.above))).trans (I.base.keep b o e n hb hx)
  ·obtain⟨sl,e1⟩:=I.base.slot b o e n hb hx
   exact⟨sl,(hs.2 b (Nat.ne_of_lt (Nat.lt_of_lt_of_le (Heap.lt_size e) I.ok.above))).trans e1⟩
  ·obtain⟨o',e1⟩:=I.base.there b o e hx
   exact⟨o',(hs.2 b (Nat.ne_of_lt (Nat.lt_of_lt_of_le (Heap.lt_size e) I.ok.above))).trans e1⟩
  ·by_cases hj:j=i
   ·subst hj
    rw [hi] at e1;cases e1
    rw [List.getElem?_set_self hiσ] at e2
    cases e2
    exact⟨u,r,.inl ⟨hk,by simp⟩⟩
   ·rw [List.getElem?_set_ne (Ne.symm hj)] at e2
    obtain⟨u',r',q⟩:=hl j y v' e1 e2 e3
    refine⟨u',r',?_⟩
    rcases q with⟨k,e⟩ | ⟨k,c,e,z⟩
    ·refine .inl ⟨k,?_⟩
     have:y≠x:=λe=>hj (qE hN e1 (e ▸ hi))
     simp [this,e]
    ·exact .inr ⟨k,c,e,z.sameBut hs (cne y c e)⟩
  ·obtain⟨w',z⟩:=I.cell y c e
   exact⟨w',z.sameBut hs (cne y c e)⟩
  ·obtain⟨e,n,ne,nf,d⟩:=I.pin p hp
   exact⟨(hs.2 p.1 ne).trans e,n,ne,nf,d⟩
 ·have hfn:X.fn x=true:=by
   rcases hf with z | z
   ·exact z
   ·rw [z] at hk;cases hk
  obtain⟨c,hc⟩:=I.ok.has x (.inl hk)
  obtain⟨w',z⟩:=I.cell x c hc
  refine wpAny_storeName_cell I.ok.kind hk hc z (λh' hc' hs=>?_)
  obtain⟨oc,hoc,hocd⟩:=id z
  refine h { s with heap:=h' } ⟨I.ok,I.os,I.bare,⟨λb o e n hb hx=>?_,λb o e n hb hx=>?_,I.base.free,λb o e hx=>?_,I.base.tups,I.base.frzs,I.base.tbls⟩,⟨m,hn.sameBut hs (Ne.symm (cne x c hc)),λj y v' e1 e2 e3=>?_⟩,λy c' e=>?_,I.free,I.freeC,λp hp=>?_,tracked ⟨oc,hoc,I.freeC x c hc⟩ hs,by simpa using I.len⟩ ⟨c,hs,.inr hc⟩
  ·exact (hs.2 b (Nat.ne_of_lt (Nat.lt_of_lt_of_le (Heap.lt_size e) (I.ok.cab x c hfn hc)))).trans (I.base.keep b o e n hb hx)
  ·obtain⟨sl,e1⟩:=I.base.slot b o e n hb hx
   exact⟨sl,(hs.2 b (Nat.ne_of_lt (Nat.lt_of_lt_of_le (Heap.lt_size e) (I.ok.cab x c hfn hc)))).trans e1⟩
  ·obtain⟨o',e1⟩:=I.base.there b o e hx
   exact⟨o',(hs.2 b (Nat.ne_of_lt (Nat.lt_of_lt_of_le (Heap.lt_size e) (I.ok.cab x c hfn hc)))).trans e1⟩
  ·by_cases hj:j=i
   ·subst hj
    rw [hi] at e1;cases e1
    rw [List.getElem?_set_self hiσ] at e2
    cases e2
    exact⟨u,r,.inr ⟨.inl hk,c,hc,hc'⟩⟩
   ·rw [List.getElem?_set_ne (Ne.symm hj)] at e2
    obtain⟨u',r',q⟩:=hl j y v' e1 e2 e3
    refine⟨u',r',?_⟩
    rcases q with q | ⟨k,c',e,z'⟩
    ·exact .inl q
    ·refine .inr ⟨k,c',e,z'.sameBut hs ?_⟩
     rintro rfl
     exact hj (qE hN e1 (I.ok.inj _ _ _ e hc ▸ hi))
  ·by_cases hcc:c'=c
   ·subst hcc;exact⟨_,hc'⟩
   ·obtain⟨w2,z2⟩:=I.cell y c' e
    exact⟨w2,z2.sameBut hs hcc⟩
  ·obtain⟨e,n,ne,nf,d⟩:=I.pin p hp
   refine⟨(hs.2 p.1 ?_).trans e,n,ne,nf,d⟩
   intro q
   rw [q,hoc] at e
   have q':oc=p.2:=Option.some.inj e
   exact d w' (by rw [<-q'];exact hocd)
theorem lb {M:Model}{A:Around}{E:Value->Shared->Prop}{i:Nat}{x:Str}{v:V}{u:Value}{Q:Unit->Shared->Prop} (I:Inv X pins σ H s) (hN:X.N.Nodup) (hi:X.N[i]?=some x) (hx:Loc X.env.scope x) (r:aW v u)
  (h:∀ s',Inv X pins (σ.set i (some v)) H s'->Q () s') (hf:X.fn x=true\/X.env.scope.names.lookup x=some .local:=by first | exact .inl rfl | exact .inr rfl | assumption):wpAny M A (storeName X.env x u) Q E s:=
 t6 I hN hi hx r (λs' I' _=>h s' I') hf
theorem Inv.call' {s':Shared}{ch:List Addr} (I:Inv X pins σ H s) (ho:s'.os=s.os) (u:Un (frs X.stack) ch H H' s.heap s'.heap) (hok:HOk X.prog X.w H' s'.heap) (hg:AllBare s'.gens)
  (hch:∀ b ∈ ch,(b ∈ X.ex\/X.s₀.heap.objs.size<=b)/\b≠X.env.locals/\(∀ x c,X.env.cells.lookup x=some c->c≠b)/\∀ p ∈ X.pn++pins,p.1≠b):Inv X pins σ H' s':=by
 obtain⟨h',g',d',t',o'⟩:=s'
 have e:o'=s.os:=ho
 subst e
 exact I.call (g':=g') (t':=t') (d':=d') u hok hg hch
end
abbrev XK:=Value->Option Addr->Hp->Prop
abbrev St:=List (Option V)
abbrev VK:=V->Hp->Prop
abbrev TE:=St->Hp->VK->Prop
abbrev TT:=St->Hp->(Bool->Hp->Prop)->Prop
abbrev TA:=St->Hp->(List V->Hp->Prop)->Prop
structure pE where
 nx:St->Hp->Prop
 rt:VK
 bk:St->Hp->Prop:=λ_ _=>False
 ct:St->Hp->Prop:=λ_ _=>False
abbrev TS:=pE->St->Hp->Prop
noncomputable def EP (X:Cx) (pins:List (Addr×Obj)) (σ:St) (Q:VK) (u:Value) (s':Shared):Prop:=∃ v H',Inv X pins σ H' s'/\aW v u/\Q v H'
noncomputable def TP (X:Cx) (pins:List (Addr×Obj)) (σ:St) (Q:Bool->Hp->Prop) (b:Bool) (s':Shared):Prop:=∃ H',Inv X pins σ H' s'/\Q b H'
noncomputable def AP (X:Cx) (pins:List (Addr×Obj)) (σ:St) (Q:List V->Hp->Prop) (us:List Value) (s':Shared):Prop:=∃ vs H',Inv X pins σ H' s'/\aT vs us/\Q vs H'
noncomputable def SP (X:Cx) (pins:List (Addr×Obj)) (D:pE) (f:Flow) (s':Shared):Prop:=
 match f with
 | .next=>∃ σ' H',Inv X pins σ' H' s'/\D.nx σ' H'
 | .brk=>∃ σ' H',Inv X pins σ' H' s'/\D.bk σ' H'
 | .cont=>∃ σ' H',Inv X pins σ' H' s'/\D.ct σ' H'
 | .ret u=>∃ v σ' H',Inv X pins σ' H' s'/\aW v u/\D.rt v H'
noncomputable def PE (X:Cx) (e:Expr) (t:TE):Prop:=
 ∀ (pins:List (Addr×Obj)) (s:Shared) (σ:St) (H:Hp) (Q:VK),Inv X pins σ H s->t σ H Q->wpAny (model X.prog X.w) X.A (eval e X.env) (EP X pins σ Q) X.xe s
noncomputable def PT (X:Cx) (e:Expr) (t:TT):Prop:=
 ∀ (pins:List (Addr×Obj)) (s:Shared) (σ:St) (H:Hp) (Q:Bool->Hp->Prop),Inv X pins σ H s->t σ H Q->wpAny (model X.prog X.w) X.A (isTrue e X.env (eval e X.env)) (TP X pins σ Q) X.xe s
noncomputable def PW (X:Cx) (e:Expr) (t:TT):Prop:=
 ∀ (whole:Sem Value) (pins:List (Addr×Obj)) (s:Shared) (σ:St) (H:Hp) (Q:Bool->Hp->Prop),Inv X pins σ H s->t σ H Q->wpAny (model X.prog X.w) X.A (isTrue e X.env whole) (TP X pins σ Q) X.xe s
theorem PW.pt {X:Cx}{e:Expr}{t:TT} (h:PW X e t):PT X e t:=h _
noncomputable def PA (X:Cx) (es:List Expr) (t:TA):Prop:=
 ∀ (pos:Pos) (pins:List (Addr×Obj)) (s:Shared) (σ:St) (H:Hp) (Q:List V->Hp->Prop),Inv X pins σ H s->t σ H Q->wpAny (model X.prog X.w) X.A (spliced (backTo pos (starEach es X.env))) (AP X pins σ Q) X.xe s
noncomputable def PS (X:Cx) (st:Stmt) (t:TS):Prop:=
 ∀ (pins:List (Addr×Obj)) (s:Shared) (σ:St) (H:Hp) (D:pE),Inv X pins σ H s->t D σ H->wpAny (model X.prog X.w) X.A (exec st X.env) (SP X pins D) X.xe s
noncomputable def PSs (X:Cx) (st:List Stmt) (t:TS):Prop:=
 ∀ (pins:List (Addr×Obj)) (s:Shared) (σ:St) (H:Hp) (D:pE),Inv X pins σ H s->t D σ H->wpAny (model X.prog X.w) X.A (execs st X.env) (SP X pins D) X.xe s
theorem thn {α:Type}{t:Sem α}{Q Q':α->Shared->Prop}{M:Model}{A:Around}{E:Value->Shared->Prop}{s:Shared} (h:wpAny M A t Q E s) (hQ:∀ a s,Q a s->Q' a s):wpAny M A t Q' E s:=wpAny_mono h hQ λ_ _ x=>x
end L2
namespace L2
open PySem PySem.Spec PyProof.Rows
section
variable {X:Cx}
theorem bin {a b:Expr}{ta tb:TE} (ha:PE X a ta) (hb:PE X b tb) {pins:List (Addr×Obj)}{s:Shared}{σ:St}{H:Hp}{R:V->V->Hp->Prop} (I:Inv X pins σ H s) (h:ta σ H λx H1=>tb σ H1 λy H2=>R x y H2)
  {α:Type}{Q:α->Shared->Prop}{f:Value->Value->Sem α}
  (hf:∀ v u s2 x y H2,Inv X pins σ H2 s2->aW x v->aW y u->R x y H2->wpAny (model X.prog X.w) X.A (f v u) Q X.xe s2) :
  wpAny (model X.prog X.w) X.A (eval a X.env) (λv s₁=>wpAny (model X.prog X.w) X.A (eval b X.env) (λu s₂=>wpAny (model X.prog X.w) X.A (f v u) Q X.xe s₂) X.xe s₁) X.xe s:=by
 refine thn (ha pins s σ H _ I h) λv s1 ⟨x,H1,I1,r1,q1⟩=>?_
 refine thn (hb pins s1 σ H1 _ I1 q1) λu s2 ⟨y,H2,I2,r2,q2⟩=>?_
 exact hf v u s2 x y H2 I2 r1 r2 q2
noncomputable def yV (i:Nat):TE:=λσ H Q=>∃ v,σ[i]?=some (some v)/\Q v H
noncomputable def tC (v:V):TE:=λ_ H Q=>Q v H
theorem zE {i:Nat}{x:Str}{pos:Pos} (hN:X.N[i]?=some x) (hv:Vis X.env.scope x) (hd:(x==("__debug__" : Str))=false:=by decide) (hcd:(x==("__classdict__" : Str))=false:=by decide):PE X (.Name x pos) (yV i):=by
 intro pins s σ H Q I h
 obtain⟨v,e,h⟩:=h
 obtain⟨m,hn,hl⟩:=I.loc
 obtain⟨u,r,l⟩:=hl i x v hN e hv
 have fin:EP X pins σ Q u s:=⟨v,H,I,r,h⟩
 rcases l with⟨hk,hm⟩ | ⟨hk,c,hc,hcell⟩
 ·exact wpAny_Name (wpAny_loadName_local I.ok.kind hk hn hm fin) hd
 ·rcases hk with hk | hk
  ·exact wpAny_Name (wpAny_loadName_cell I.ok.kind hk hc hcell fin) hd
  ·exact wpAny_Name (wpAny_loadName_free I.ok.kind hk hc hcell fin hcd) hd
theorem zH {i j pos}:PE X (.Constant (.int i) j pos) (tC (.int i)):=λ_ _ _ H _ I h=>wpAny_Constant_int ⟨.int i,H,I.tok _,⟨_,rfl⟩,h⟩
theorem AJ {b j pos}:PE X (.Constant (.bool b) j pos) (tC (.bl b)):=λ_ _ _ H _ I h=>Constant_bool ⟨.bl b,H,I,rfl,h⟩
theorem zg {j pos}:PE X (.Constant .none j pos) (tC .non):=λ_ _ _ H _ I h=>Constant_none ⟨.non,H,I,rfl,h⟩
theorem Ay {x j pos}:PE X (.Constant (.str x) j pos) (tC (.str x)):=λ_ _ _ H _ I h=>Calls.Constant_str ⟨.str x,H,I.tok _,⟨_,rfl⟩,h⟩
noncomputable def Gl (X:Cx) (x:Str):Prop:=X.env.kindOf x=some .globalImplicit
theorem xE {E:Value->Shared->Prop}{pins:List (Addr×Obj)}{s:Shared}{σ:St}{H:Hp}{x:Str}{u:Value}{pos:Pos}{Q:Value->Shared->Prop} (I:Inv X pins σ H s) (hg:Gl X x) (hm:X.mg x=some u) (h:Q u s)
  (hd:(x==("__debug__" : Str))=false:=by decide):wpAny (model X.prog X.w) X.A (eval (.Name x pos) X.env) Q E s:=
 Calls.Name_function_global I.ok.kind hg (Calls.loadGlobal_global (by rw [I.ok.glob];exact I.mod.glob.keeps I.bk) hm h) hd
theorem h8 {E:Value->Shared->Prop}{pins:List (Addr×Obj)}{s:Shared}{σ:St}{H:Hp}{x:Str}{u:Value}{pos:Pos}{Q:Value->Shared->Prop} (I:Inv X pins σ H s) (hg:Gl X x) (hm:X.mg x=none) (hv:bootBuiltins x=some u) (h:Q u s)
  (hn:x≠"__name__":=by decide) (hd:(x==("__debug__" : Str))=false:=by decide):wpAny (model X.prog X.w) X.A (eval (.Name x pos) X.env) Q E s:=by
 obtain⟨mb,h1,h2⟩:=I.mod.blt
 exact Calls.Name_function_global I.ok.kind hg (Calls.loadGlobal_builtin (by rw [I.ok.glob];exact I.mod.glob.keeps I.bk) hm (by rw [I.ok.blt];exact h1.keeps I.bk) ((h2 x hn).trans hv) h) hd
theorem xl {x:Str}{v:V}{u:Value}{pos:Pos} (hg:Gl X x) (hm:X.mg x=none) (hv:bootBuiltins x=some u) (r:aW v u) (hn:x≠"__name__":=by decide) (hd:(x==("__debug__" : Str))=false:=by decide):PE X (.Name x pos) (tC v):=
 λ_ _ _ H _ I h=>h8 I hg hm hv ⟨v,H,I,r,h⟩ hn hd
variable {a b:Expr}{ta tb:TE}{pos:Pos}
variable {tA tB':TT}{rest:List Expr}
noncomputable def tOr (t u:TT):TT:=λσ H Q=>t σ H λc H1=>if c=true then Q true H1 else u σ H1 Q
noncomputable def B9 (t:TT):TT:=λσ H Q=>t σ H λc H1=>Q (!c) H1
theorem z7 (ha:PT X a tA):PW X (.BoolOp .Or [a] pos) tA:=by
 intro wh pins s σ H Q I h
 refine isTrue_or (thn (ha pins s σ H Q I h) λc s1 e=>?_)
 cases c with
 | false=>exact isTrue_or_nil e
 | true=>exact e
theorem yC (ha:PT X a tA) (hb:PW X (.BoolOp .Or (b::rest) pos) tB'):PW X (.BoolOp .Or (a::b::rest) pos) (tOr tA tB'):=by
 intro wh pins s σ H Q I h
 refine isTrue_or (thn (ha pins s σ H _ I h) λc s1 ⟨H1,I1,q1⟩=>?_)
 cases c with
 | true=>exact⟨H1,I1,q1⟩
 | false=>exact hb wh pins s1 σ H1 Q I1 q1
theorem Ai (ha:PT X a tA):PT X (.UnaryOp .Not a pos) (B9 tA):=by
 intro pins s σ H Q I h
 exact isTrue_not (ha pins s σ H (λc H1=>Q (!c) H1) I h)
noncomputable def BI (ta tb:TE):TE:=λσ H Q=>ta σ H λx H1=>∃ c,x=.bl c/\if c=true then tb σ H1 Q else Q (.bl false) H1
noncomputable def A6 (ta:TE):TE:=λσ H Q=>ta σ H λx H1=>∃ c,x=.bl c/\Q (.bl (!c)) H1
theorem zU {op}{t:TE} (h:PE X a t):PE X (.BoolOp op [a] pos) t:=λpins s σ H Q I hw=>BoolOp_one (h pins s σ H Q I hw)
theorem vQ (ha:PE X a ta) (hb:PE X (.BoolOp .And (b::rest) pos) tb):PE X (.BoolOp .And (a::b::rest) pos) (BI ta tb):=by
 intro pins s σ H Q I h
 refine BoolOp_and (thn (ha pins s σ H _ I h) λv s1 ⟨x,H1,I1,r1,q1⟩=>?_)
 obtain⟨c,rfl,q1⟩:=q1
 cases r1
 refine wpAny_truthy_bool ?_
 cases c with
 | true=>exact hb pins s1 σ H1 Q I1 q1
 | false=>exact⟨.bl false,H1,I1,rfl,q1⟩
theorem zx (ha:PE X a ta):PE X (.UnaryOp .Not a pos) (A6 ta):=by
 intro pins s σ H Q I h
 refine UnaryOp_ (thn (ha pins s σ H _ I h) λv s1 ⟨x,H1,I1,r1,q1⟩=>?_)
 obtain⟨c,rfl,q1⟩:=q1
 cases r1
 exact not_of (wpAny_truthy_bool ⟨.bl (!c),H1,I1,rfl,q1⟩)
noncomputable def tIf (t:TT) (ta tb:TE):TE:=λσ H Q=>t σ H λc H1=>if c=true then ta σ H1 Q else tb σ H1 Q
theorem qj {c:Expr} (hc:PT X c tA) (ha:PE X a ta) (hb:PE X b tb):PE X (.IfExp c a b pos) (tIf tA ta tb):=by
 intro pins s σ H Q I h
 refine wpAny_IfExp (thn (hc pins s σ H _ I h) λd s1 ⟨H1,I1,q1⟩=>?_)
 cases d with
 | true=>exact ha pins s1 σ H1 Q I1 q1
 | false=>exact hb pins s1 σ H1 Q I1 q1
end
end L2
namespace L2
open PySem PySem.Spec PyProof.Rows
noncomputable def SqL (K:PySem.W.Frag) (H:Hp) (a:Addr) (xs:List V):Prop:=
 Rd H a (.lst xs)\/
  ∃ (o:Obj) (its:Array Value) (n:Nat),K.lookup a=some o/\o.cls=.type "list"/\o.dict=none/\o.data=.seq its n/\its.size<=sizeLine/\aT xs its.toList
noncomputable def SqT (K:PySem.W.Frag) (H:Hp) (a:Addr) (xs:List V):Prop:=
 H a=some (.tup xs)\/
  ∃ (o:Obj) (its:Array Value) (n:Nat),K.lookup a=some o/\o.cls=.type "tuple"/\o.data=.seq its n/\its.size<=sizeLine/\aT xs its.toList/\o.dict=none
noncomputable def BQ:Value->Option V
 | .none=>some .non
 | .bool b=>some (.bl b)
 | .int i _=>some (.int i)
 | .str x _=>some (.str x)
 | .bytes b _=>some (.byt b)
 | .float b _=>some (.flt b)
 | .ref a=>some (.ref a)
 | .type n=>some (.ty n)
 | _=>none
theorem aW.abs {x:V}{u:Value} (r:aW x u):BQ u=some x:=by
 cases x with
 | non=>cases r;rfl
 | bl _=>cases r;rfl
 | int _=>obtain⟨t,rfl⟩:=r;rfl
 | str _=>obtain⟨t,rfl⟩:=r;rfl
 | byt _=>obtain⟨t,rfl⟩:=r;rfl
 | flt _=>obtain⟨t,rfl⟩:=r;rfl
 | ref _=>cases r;rfl
 | ty _=>cases r;rfl
theorem aW.inj {x y:V}{u:Value} (r:aW x u) (q:aW y u):x=y:=Option.some.inj (r.abs.symm.trans q.abs)
theorem aT.inj:∀ {xs ys:List V}{us:List Value},aT xs us->aT ys us->xs=ys
 | _,_,_,.nil,.nil=>rfl
 | _,_,_,.cons r t,.cons r' t'=>by rw [r.inj r',aT.inj t t']
section
variable {X:Cx}{pins:List (Addr×Obj)}{σ:St}{H:Hp}{s:Shared}{a:Addr}{xs ys:List V}
theorem SqL.of {K:PySem.W.Frag} (h:H a=some (.lst xs)):SqL K H a xs:=.inl (.inl h)
theorem SqT.of {K:PySem.W.Frag} (h:H a=some (.tup xs)):SqT K H a xs:=.inl h
theorem Inv.list (I:Inv X pins σ H s) (h:SqL X.K H a xs):∃ its:List Value,aT xs its/\PlainL s.heap a its.toArray/\xs.length<=sizeLine:=by
 rcases h with h | ⟨o,its,n,hk,hc,hd,hs,hz,r⟩
 ·obtain⟨z,its,n,r,e⟩:=h.ok I.hok
  exact⟨its,r,⟨_,n,e,rfl,rfl,rfl⟩,z⟩
 ·refine⟨its.toList,r,⟨o,n,I.kIn a o hk,hc,hd,by simpa using hs⟩,?_⟩
  have e:=r.length
  simp only [Array.length_toList] at e
  lia
theorem Inv.tuple (I:Inv X pins σ H s) (h:SqT X.K H a xs):∃ its:List Value,aT xs its/\IsTup s.heap a its.toArray/\xs.length<=sizeLine:=by
 rcases h with h | ⟨o,its,n,hk,hc,hs,hz,r,_⟩
 ·obtain⟨z,its,r,p⟩:=(Rd.of h).ok I.hok
  exact⟨its,r,p.tup,z⟩
 ·refine⟨its.toList,r,⟨o,I.kIn a o hk,hc,n,by simpa using hs⟩,?_⟩
  have e:=r.length
  simp only [Array.length_toList] at e
  lia
theorem Inv.tuple1 (I:Inv X pins σ H s) (h:SqT X.K H a xs):∃ o:Obj,s.heap.get? a=some o/\o.cls=.type "tuple"/\o.dict=none:=by
 rcases h with h | ⟨o,its,n,hk,hc,hs,hz,r,hd⟩
 ·obtain⟨z,its,r,o,e,c,_,hd⟩:=(Rd.of h).ok I.hok
  exact⟨o,e,c,hd⟩
 ·exact⟨o,I.kIn a o hk,hc,hd⟩
theorem Inv.list_inj (I:Inv X pins σ H s) (h:SqL X.K H a xs) (h':SqL X.K H a ys):xs=ys:=by
 obtain⟨its,r,⟨o,n,e,_,_,d⟩,_⟩:=I.list h
 obtain⟨its',r',⟨o',n',e',_,_,d'⟩,_⟩:=I.list h'
 rw [e] at e';cases e'
 rw [d] at d'
 injection d' with d1 _
 have:its=its':=by simpa using congrArg Array.toList d1
 subst this
 exact r.inj r'
theorem Inv.tuple_inj (I:Inv X pins σ H s) (h:SqT X.K H a xs) (h':SqT X.K H a ys):xs=ys:=by
 obtain⟨its,r,⟨o,e,_,n,d⟩,_⟩:=I.tuple h
 obtain⟨its',r',⟨o',e',_,n',d'⟩,_⟩:=I.tuple h'
 rw [e] at e';cases e'
 rw [d] at d'
 injection d' with d1 _
 have:its=its':=by simpa using congrArg Array.toList d1
 subst this
 exact r.inj r'
end
abbrev Cx.wish (X:Cx) (E:Value->Shared->Prop):Cx:={ X with xe:=E }
abbrev Cx.nox (X:Cx):Cx:=X.wish λ_ _=>False
theorem Cx.Ok.wish {X:Cx} (ok:X.Ok) (E:Value->Shared->Prop):(X.wish E).Ok:=
 ⟨ok.mod,ok.kind,ok.glob,ok.blt,ok.above,ok.inj,ok.has,ok.cab,ok.hd,ok.frames,ok.stk,ok.exf,ok.bs,ok.bsz,ok.noex,ok.exfs,ok.funs,ok.frf⟩
theorem Cx.Ok.unwish {X:Cx}{E:Value->Shared->Prop} (ok:(X.wish E).Ok):X.Ok:=
 ⟨ok.mod,ok.kind,ok.glob,ok.blt,ok.above,ok.inj,ok.has,ok.cab,ok.hd,ok.frames,ok.stk,ok.exf,ok.bs,ok.bsz,ok.noex,ok.exfs,ok.funs,ok.frf⟩
section
variable {X:Cx}{pins:List (Addr×Obj)}{σ:St}{H:Hp}{s:Shared}{E:Value->Shared->Prop}
theorem Inv.wish (I:Inv X pins σ H s) (E:Value->Shared->Prop):Inv (X.wish E) pins σ H s:=⟨I.ok.wish E,I.os,I.bare,I.base,I.loc,I.cell,I.free,I.freeC,I.pin,I.hok,I.len⟩
theorem Inv.unwish (I:Inv (X.wish E) pins σ H s):Inv X pins σ H s:=⟨I.ok.unwish,I.os,I.bare,I.base,I.loc,I.cell,I.free,I.freeC,I.pin,I.hok,I.len⟩
theorem SP.unwish {D:pE}{f:Flow}{s':Shared} (h:SP (X.wish E) pins D f s'):SP X pins D f s':=by
 cases f with
 | next=>obtain⟨σ',H',I,q⟩:=h;exact⟨σ',H',I.unwish,q⟩
 | brk=>obtain⟨σ',H',I,q⟩:=h;exact⟨σ',H',I.unwish,q⟩
 | cont=>obtain⟨σ',H',I,q⟩:=h;exact⟨σ',H',I.unwish,q⟩
 | ret u=>obtain⟨v,σ',H',I,r,q⟩:=h;exact⟨v,σ',H',I.unwish,r,q⟩
theorem PSs.nox {st:List Stmt}{t:TS} (h:PSs X.nox st t):PSs X st t:=λpins s σ H D I hw=>
 wpAny_mono (h pins s σ H D (I.wish _) hw) (λ_ _ q=>q.unwish) λ_ _ z=>False.elim z
end
section
variable {X:Cx}{st:Stmt}{rest:List Stmt}{t u:TS}{e:Expr}{te:TE}{pos:Pos}
noncomputable def A8:TS:=λD σ H=>D.nx σ H
noncomputable def B0 (t u:TS):TS:=λD σ H=>t { D with nx:=u D } σ H
theorem xp:PSs X [] A8:=λ_ _ σ H _ I h=>wpAny_execs_nil ⟨σ,H,I,h⟩
theorem jD (h1:PS X st t) (h2:PSs X rest u):PSs X (st::rest) (B0 t u):=by
 intro pins s σ H D I h
 refine wpAny_execs_cons (thn (h1 pins s σ H { D with nx:=u D } I h) λf s1 q=>?_)
 cases f with
 | next=>
  obtain⟨σ',H',I',q⟩:=q
  exact h2 pins s1 σ' H' D I' q
 | ret v=>exact q
 | brk=>exact q
 | cont=>exact q
theorem wV (h1:PS X st t):PSs X [st] t:=by
 intro pins s σ H D I h
 refine wpAny_execs_cons (thn (h1 pins s σ H D I h) λf s1 q=>?_)
 cases f with
 | next=>exact wpAny_execs_nil q
 | ret v=>exact q
 | brk=>exact q
 | cont=>exact q
theorem Inv.quiet {pins:List (Addr×Obj)}{σ:St}{H:Hp}{s:Shared} (I:Inv X pins σ H s):interactive X.env=false:=by simp [interactive,I.ok.kind]
noncomputable def BB (te:TE):TS:=λD σ H=>te σ H λ_ H1=>D.nx σ H1
theorem xP (he:PE X e te) (hs:swapsWith e none pos.line X.env=pure false:=by rfl):PS X (.Expr e pos) (BB te):=by
 intro pins s σ H D I h
 exact wpAny_Expr_any (thn (he pins s σ H _ I h) λv s1 ⟨x,H1,I1,r1,q1⟩=>⟨σ,H1,I1,q1⟩) I.quiet hs
noncomputable def BL (te:TE):TS:=λD σ H=>te σ H D.rt
theorem zm (he:PE X e te):PS X (.Return (some e) pos) (BL te):=by
 intro pins s σ H D I h
 exact wpAny_Return_some (thn (he pins s σ H _ I h) λv s1 ⟨x,H1,I1,r1,q1⟩=>⟨x,σ,H1,I1,r1,q1⟩)
noncomputable def BT (c:TT) (t u:TS):TS:=λD σ H=>c σ H λb H1=>if b=true then t D σ H1 else u D σ H1
theorem yK {c:Expr}{a b:List Stmt}{tc:TT} (hc:PT X c tc) (ha:PSs X a t) (hb:PSs X b u):PS X (.If c a b pos) (BT tc t u):=by
 intro pins s σ H D I h
 refine wpAny_If (thn (hc pins s σ H _ I h) λd s1 ⟨H1,I1,q1⟩=>?_)
 cases d with
 | true=>exact ha pins s1 σ H1 D I1 q1
 | false=>exact hb pins s1 σ H1 D I1 q1
noncomputable def ze:TS:=λ_ _ _=>False
theorem gc {sts:List Stmt}:PSs X sts ze:=λ_ _ _ _ _ _ h=>h.elim
end
abbrev TG:=V->St->Hp->(St->Hp->Prop)->Prop
abbrev TGs:=List V->St->Hp->(St->Hp->Prop)->Prop
noncomputable def PG (X:Cx) (target:Expr) (t:TG):Prop:=
 ∀ (pins:List (Addr×Obj)) (s:Shared) (σ:St) (H:Hp) (v:V) (u:Value) (Q:St->Hp->Prop),Inv X pins σ H s->aW v u->t v σ H Q->
  wpAny (model X.prog X.w) X.A (assign target X.env u) (λ_ s'=>∃ σ' H',Inv X pins σ' H' s'/\Q σ' H') X.xe s
noncomputable def PGs (X:Cx) (ts:List Expr) (t:TGs):Prop:=
 ∀ (pins:List (Addr×Obj)) (s:Shared) (σ:St) (H:Hp) (vs:List V) (us:List Value) (Q:St->Hp->Prop),Inv X pins σ H s->aT vs us->t vs σ H Q->
  wpAny (model X.prog X.w) X.A (assignInOrder ((assignEach ts X.env).map (·.2)) us) (λ_ s'=>∃ σ' H',Inv X pins σ' H' s'/\Q σ' H') X.xe s
abbrev Aj:=V->V->V->Hp->(Hp->Prop)->Prop
noncomputable def Bo (X:Cx) (t:Aj):Prop:=
 ∀ (pins:List (Addr×Obj)) (s:Shared) (σ:St) (H:Hp) (o i v:V) (ov iv u:Value) (Q:Hp->Prop),Inv X pins σ H s->aW o ov->aW i iv->aW v u->t o i v H Q->
  wpAny (model X.prog X.w) X.A (setItem ov iv u) (λ_ s'=>∃ H',Inv X pins σ H' s'/\Q H') X.xe s
section
variable {X:Cx}{pos:Pos}
noncomputable def qh (i:Nat):TG:=λv σ H Q=>Q (σ.set i (some v)) H
theorem aw {i:Nat}{x:Str} (hN:X.N.Nodup) (hi:X.N[i]?=some x) (hx:Loc X.env.scope x) (hf:X.fn x=true\/X.env.scope.names.lookup x=some .local:=by first | exact .inl rfl | exact .inr rfl | assumption):PG X (.Name x pos) (qh i):=by
 intro pins s σ H v u Q I r h
 exact wpAny_assign_Name (lb I hN hi hx r (λs' I'=>⟨_,H,I',h⟩) hf)
noncomputable def B1:TGs:=λvs σ H Q=>vs=[]/\Q σ H
noncomputable def A4 (t:TG) (u:TGs):TGs:=λvs σ H Q=>∃ v r,vs=v::r/\t v σ H λσ' H'=>u r σ' H' Q
theorem xW:PGs X [] B1:=by
 intro pins s σ H vs us Q I r h
 obtain⟨e,h⟩:=h
 subst e
 cases r
 exact assignInOrder_nil ⟨σ,H,I,h⟩
theorem wa {e:Expr}{es:List Expr}{t:TG}{u:TGs} (h1:PG X e t) (h2:PGs X es u)
  (hs:(assignEach (e::es) X.env).map (·.2)=assign e X.env::(assignEach es X.env).map (·.2):=by rfl):PGs X (e::es) (A4 t u):=by
 intro pins s σ H vs us Q I r h
 obtain⟨v,vr,e1,h⟩:=h
 subst e1
 cases r with
 | cons r rr=>
  rw [hs]
  refine assignInOrder_cons (thn (h1 pins s σ H _ _ _ I r h) λ_ s1 ⟨σ1,H1,I1,q1⟩=>?_)
  exact h2 pins s1 σ1 H1 _ _ Q I1 rr q1
noncomputable def BX (K:PySem.W.Frag) (n:Nat) (t:TGs):TG:=λv σ H Q=>∃ a xs,v=.ref a/\SqT K H a xs/\xs.length=n/\t xs σ H Q
theorem zB {es:List Expr}{k:Nat}{t:TGs}{n:Nat} (hc:X.calm=true) (h:PGs X es t)
  (hn:(assignEach es X.env).length=n:=by rfl) (hst:(assignEach es X.env).findIdx? (·.1)=none:=by rfl):PG X (.Tuple es k pos) (BX X.K n t):=by
 intro pins s σ H v u Q I r hw
 obtain⟨a,xs,e1,hq,hl,hw⟩:=hw
 subst e1
 cases r
 obtain⟨its,rv,ht,hz⟩:=I.tuple hq
 refine assign_Tuple_tuple (I.ok.hd hc) ht (by simp [hn,<-hl,rv.length]) hst λh' hx=>?_
 have I1:Inv X pins σ H { s with heap:=h' }:=I.kept (t':=s.toks) λb o e=>hx b o (Nat.ne_of_lt (Heap.lt_size e)) e
 exact h pins _ σ H xs _ Q I1 (by simpa using rv) hw
noncomputable def B5 (to ti:TE) (t:Aj):TG:=λv σ H Q=>to σ H λo H1=>ti σ H1 λi H2=>t o i v H2 λH3=>Q σ H3
theorem yU {o i:Expr}{to ti:TE}{t:Aj} (ho:PE X o to) (hi:PE X i ti) (hs:Bo X t)
  (ha:∀ v,assign (.Subscript o i pos) X.env v=(do
    let ov <-holding [v] (eval o X.env)
    let iv <-holding [v,ov] (eval i X.env)
    standAt pos
    holding [v,ov,iv] (setItem ov iv v)
    release [v,ov,iv] []):=by intro _;rfl):PG X (.Subscript o i pos) (B5 to ti t):=by
 intro pins s σ H v u Q I r h
 rw [ha]
 refine wpAny_bind (wpAny_holding (thn (ho pins s σ H _ I h) λov s1 ⟨x,H1,I1,r1,q1⟩=>?_))
 refine wpAny_bind (wpAny_holding (thn (hi pins s1 σ H1 _ I1 q1) λiv s2 ⟨y,H2,I2,r2,q2⟩=>?_))
 refine wpAny_bind (wpAny_standAt (wpAny_bind (wpAny_holding (thn (hs pins s2 σ H2 x y v ov iv u _ I2 r1 r2 r q2) λ_ s3 ⟨H3,I3,q3⟩=>?_))))
 exact wpAny_release ⟨σ,H3,I3,q3⟩
noncomputable def yZ (te:TE) (g:TG):TS:=λD σ H=>te σ H λx H1=>g x σ H1 D.nx
theorem we {tg e:Expr}{te:TE}{g:TG} (he:PE X e te) (hg:PG X tg g) (hs:swapsWithSole [tg] e pos.line X.env=pure false:=by rfl) (hw:swappedStores [tg] e X.env=pure none:=by rfl)
  (h1:(assignEach [tg] X.env).map (·.2)=[assign tg X.env]:=by rfl):PS X (.Assign [tg] e pos) (yZ te g):=by
 intro pins s σ H D I h
 refine wpAny_Assign_stores (thn (he pins s σ H _ I h) λv s1 ⟨x,H1,I1,r1,q1⟩=>?_) hs hw
 rw [h1]
 exact thn (hg pins s1 σ H1 x v _ I1 r1 q1) λ_ s2 q=>q
theorem zP {i:Nat}{x:Str}{e:Expr}{te:TE}{pos':Pos} (hN:X.N.Nodup) (hi:X.N[i]?=some x) (hx:Loc X.env.scope x) (he:PE X e te) (hs:swapsWith e (some (.Name x pos')) pos.line X.env=pure false:=by rfl) (hf:X.fn x=true\/X.env.scope.names.lookup x=some .local:=by first | exact .inl rfl | exact .inr rfl | assumption) :
  PS X (.Assign [.Name x pos'] e pos) (yZ te (qh i)):=by
 intro pins s σ H D I h
 refine wpAny_Assign_Name (thn (he pins s σ H _ I h) λv s1 ⟨y,H1,I1,r1,q1⟩=>?_) hs
 exact lb I1 hN hi hx r1 (λs2 I2=>⟨_,H1,I2,q1⟩) hf
end
section
variable {X:Cx}{pos:Pos}
noncomputable def zb (c:TT) (tb:TS):TS:=λD σ H=>∃ W:Nat->St->Hp->Prop,(∃ m,W m σ H)/\∀ m σ H,W m σ H->
 c σ H λb H1=>if b=true then ∃ N:St->Hp->Prop,(∀ σ' H',N σ' H'->∃ m',m' < m/\W m' σ' H')/\tb { D with nx:=N,ct:=N,bk:=D.nx } σ H1 else D.nx σ H1
theorem vw {c:Expr}{body:List Stmt}{tc:TT}{tb:TS} (hp:PassesOwn (model X.prog X.w) X.A X.env X.xe) (hc:PT X c tc) (hb:PSs X body tb):PS X (.While c body [] pos) (zb tc tb):=by
 intro pins s σ H D I h
 obtain⟨W,⟨m0,w0⟩,turn⟩:=h
 refine wpAny_While (codeAny_whileLoop (λn s'=>∃ σ' H',Inv X pins σ' H' s'/\W n σ' H') ?_ m0 ⟨σ,H,I,w0⟩)
 rintro n s1 ⟨σ1,H1,I1,w1⟩
 refine wpAny_passesOwn hp (thn (hc pins s1 σ1 H1 _ I1 (turn n σ1 H1 w1)) λb s2 ⟨H2,I2,q2⟩=>?_)
 cases b with
 | true=>
  obtain⟨N,hN,q2⟩:=q2
  rw [if_pos rfl]
  refine wpAny_passesOwn hp (thn (hb pins s2 σ1 H2 _ I2 q2) λf s3 q3=>?_)
  cases f with
  | next=>
   obtain⟨σ3,H3,I3,n3⟩:=q3
   obtain⟨m',hm,w3⟩:=hN σ3 H3 n3
   exact⟨m',hm,σ3,H3,I3,w3⟩
  | cont=>
   obtain⟨σ3,H3,I3,n3⟩:=q3
   obtain⟨m',hm,w3⟩:=hN σ3 H3 n3
   exact⟨m',hm,σ3,H3,I3,w3⟩
  | brk=>exact q3
  | ret v=>exact q3
 | false=>
  rw [if_neg Bool.false_ne_true]
  exact wpAny_execs_nil ⟨σ1,H2,I2,q2⟩
end
structure It where
 go:Nat->Hp->Prop
 yld:Nat->Hp->V->Hp->Prop
 stop:Nat->Hp->Prop
noncomputable def gT (X:Cx) (pins:List (Addr×Obj)) (H:Hp) (b:Addr):Prop:=
 H b=none/\b≠X.env.locals/\b ∉ X.fs/\(b ∈ X.ex\/X.s₀.heap.objs.size<=b)/\(∀ x c,X.env.cells.lookup x=some c->c≠b)/\∀ p ∈ X.pn++pins,p.1≠b
theorem Inv.fpOk {X:Cx}{pins:List (Addr×Obj)}{σ:St}{H H':Hp}{s:Shared}{b:Addr} (I:Inv X pins σ H s) (hb:s.heap.objs.size<=b) (hn:H' b=none):gT X pins H' b:=by
 refine⟨hn,Nat.ne_of_gt (Nat.lt_of_lt_of_le I.lt hb),I.nofs hb,.inr (Nat.le_trans I.sz hb),λx c e z=>?_,λp hp z=>?_⟩
 ·obtain⟨v,q⟩:=I.cell x c e
  exact absurd (Nat.lt_of_lt_of_le q.lt (by rw [z];exact hb)) (Nat.lt_irrefl _)
 ·exact absurd (Nat.lt_of_lt_of_le (Heap.lt_size (I.pin p hp).1) (by rw [z];exact hb)) (Nat.lt_irrefl _)
structure rA (P:Program) (w:World) (K:PySem.W.Frag) (tg:Expr) (J:It) (fp:List Addr) (it:Addr) (tn:Nat->Heap->Prop):Prop where
 mem:it ∈ fp
 obj:∀ i h,tn i h->∀ b ∈ fp,∃ o,h.get? b=some o/\∀ v,o.data≠.cell v
 keep:∀ i h h',tn i h->(∀ b ∈ fp,∀ o,h.get? b=some o->h'.get? b=some o)->tn i h'
 item:∀ (X:Cx),X.prog=P->X.w=w->X.K=K->X.calm=true->∀ (i:Nat) (pins:List (Addr×Obj)) (s:Shared) (σ:St) (H:Hp) (E:Value->Shared->Prop),Inv X pins σ H s->(∀ b ∈ fp,gT X pins H b)->tn i s.heap->J.go i H->
  wpAny (model P w) X.A (pyNext (.ref it)) (λr s1=>∃ u,r=some u/\
   wpAny (model P w) X.A (letOwnedTupleGo tg (.ref it) u) (λ_ s2=>∃ x H',Inv X pins σ H' s2/\aW x u/\J.yld i H x H'/\tn (i+1) s2.heap/\∀ b ∈ fp,H' b=none) E s1) E s
 done:∀ (X:Cx),X.prog=P->X.w=w->X.K=K->X.calm=true->∀ (i:Nat) (pins:List (Addr×Obj)) (s:Shared) (σ:St) (H:Hp) (E:Value->Shared->Prop),Inv X pins σ H s->(∀ b ∈ fp,gT X pins H b)->tn i s.heap->J.stop i H->
  wpAny (model P w) X.A (pyNext (.ref it)) (λr s1=>r=none/\Inv X pins σ H s1) E s
 self:∀ (A:Around) (i:Nat) (s:Shared) (Q:Value->Shared->Prop) (E:Value->Shared->Prop),tn i s.heap->Q (.ref it) s->wpAny (model P w) A (pyIter (.ref it)) Q E s
abbrev TI:=St->Hp->(It->Hp->Prop)->Prop
noncomputable def PIE (X:Cx) (pins:List (Addr×Obj)) (σ:St) (tg:Expr) (R:It->Hp->Prop) (itv:Value) (s2:Shared):Prop:=
 ∃ (it:Addr) (fp:List Addr) (tn:Nat->Heap->Prop) (J:It) (H':Hp),itv=.ref it/\Inv X pins σ H' s2/\rA X.prog X.w X.K tg J fp it tn/\tn 0 s2.heap/\(∀ b ∈ fp,gT X pins H' b)/\R J H'
noncomputable def PI (X:Cx) (tg iter:Expr) (wi:TI):Prop:=
 ∀ (pins:List (Addr×Obj)) (s:Shared) (σ:St) (H:Hp) (R:It->Hp->Prop),Inv X pins σ H s->wi σ H R->
  wpAny (model X.prog X.w) X.A (eval iter X.env) (λv s1=>wpAny (model X.prog X.w) X.A (pyIter v) (PIE X pins σ tg R) X.xe s1) X.xe s
theorem vD {M:Model}{A:Around}{E:Value->Shared->Prop}{s:Shared}{tg:Expr}{it:Addr}{u:Value}{o:Obj}{n:String}{vs:Array Value}{Q:Unit->Shared->Prop} (ho:s.heap.get? it=some o) (hc:o.cls=.type n) (hd:o.data=.fields vs)
  (hn:["enumerate","zip","dict_itemiterator","dict_reverseitemiterator","odict_iterator","itertools.zip_longest","itertools.pairwise"].contains n=false) (hQ:Q () s):wpAny M A (letOwnedTupleGo tg (.ref it) u) Q E s:=by
 unfold letOwnedTupleGo
 cases tg<;>first
  | exact wpAny_pure hQ
  | (cases u<;>first
      | exact wpAny_pure hQ
      | (refine wpAny_bind (wpAny_load ho ?_)
         rw [hc,hd]
         show wpAny M A (if (["enumerate","zip","dict_itemiterator","dict_reverseitemiterator","odict_iterator","itertools.zip_longest","itertools.pairwise"].contains n && vs[0]?==some (rawInt _))=true then _ else _) Q E s
         rw [if_neg (by intro h;rw [hn,Bool.false_and] at h;cases h)]
         exact wpAny_pure hQ))
noncomputable def Itl (K:PySem.W.Frag) (a:Addr):It:=
 ⟨λi H=>∃ xs x,SqL K H a xs/\xs[i]?=some x,λi H x H'=>H'=H/\∀ xs,SqL K H a xs->xs[i]?=some x,λi H=>∃ xs,SqL K H a xs/\xs.length<=i⟩
noncomputable def Itt (K:PySem.W.Frag) (a:Addr):It:=
 ⟨λi H=>∃ xs x,SqT K H a xs/\xs[i]?=some x,λi H x H'=>H'=H/\∀ xs,SqT K H a xs->xs[i]?=some x,λi H=>∃ xs,SqT K H a xs/\xs.length<=i⟩
noncomputable def Itr (lo:Int) (n:Nat):It:=⟨λi _=>i < n,λi H x H'=>H'=H/\x=.int (lo+i),λi _=>n<=i⟩
theorem ui {P:Program}{w:World}{K:PySem.W.Frag}{tg:Expr} (a it:Addr):rA P w K tg (Itl K a) [it] it (λi h=>h.IsListIter it a i) where
 mem:=by simp
 obj:=λi h st b hb=>by
  have e:b=it:=by simpa using hb
  subst e
  obtain⟨o,e,c,d⟩:=st
  exact⟨o,e,λv z=>by rw [d] at z;cases z⟩
 keep:=λi h h' st k=>st.at λo e=>k it (by simp) o e
 item:=by
  intro X hP hw hK hc i pins s σ H E I hf st hg
  subst hP hw hK
  obtain⟨xs,x,hq,hx⟩:=hg
  obtain⟨its,rv,p,hz⟩:=I.list hq
  obtain⟨u,hu,ru⟩:=rv.get hx
  obtain⟨f0,f1,f2,f3,f4,f5⟩:=hf it (by simp)
  refine wpAny_pyNext_list_item st p.isList (x:=u) (by simpa using hu) λh' st' sb=>?_
  have I1:Inv X pins σ H { s with heap:=h' }:=I.turned (t':=s.toks) (λb o hb e=>(sb.2 b hb).trans e) f0 f1 f3 f4 f5
  obtain⟨o,e,c,d⟩:=id st'
  exact⟨u,rfl,vD (s:={ s with heap:=h' }) e c d (by decide) ⟨x,H,I1,ru,⟨rfl,λys hy=>by rw [I.list_inj hy hq];exact hx⟩,st',λb hb=>(hf b hb).1⟩⟩
 done:=by
  intro X hP hw hK hc i pins s σ H E I hf st hg
  subst hP hw hK
  obtain⟨xs,hq,hx⟩:=hg
  obtain⟨its,rv,p,hz⟩:=I.list hq
  obtain⟨f0,f1,f2,f3,f4,f5⟩:=hf it (by simp)
  have hl:=rv.length
  exact wpAny_pyNext_list_end (I.ok.hd hc) st p.isList (by simp;lia) λh' eb=>⟨rfl,I.turned (t':=s.toks) (λb o hb e=>eb b o hb e) f0 f1 f3 f4 f5⟩
 self:=λ_ _ _ _ _ st h=>wpAny_pyIter_listiter st h
theorem rJ {P:Program}{w:World}{K:PySem.W.Frag}{tg:Expr} (a it:Addr):rA P w K tg (Itt K a) [it] it (λi h=>h.IsTupleIter it a i) where
 mem:=by simp
 obj:=λi h st b hb=>by
  have e:b=it:=by simpa using hb
  subst e
  obtain⟨o,e,c,d⟩:=st
  exact⟨o,e,λv z=>by rw [d] at z;cases z⟩
 keep:=λi h h' st k=>st.at λo e=>k it (by simp) o e
 item:=by
  intro X hP hw hK hc i pins s σ H E I hf st hg
  subst hP hw hK
  obtain⟨xs,x,hq,hx⟩:=hg
  obtain⟨its,rv,p,hz⟩:=I.tuple hq
  obtain⟨u,hu,ru⟩:=rv.get hx
  obtain⟨f0,f1,f2,f3,f4,f5⟩:=hf it (by simp)
  refine wpAny_pyNext_tuple_item st (show s.heap.IsTuple a its.toArray from p) (x:=u) (by simpa using hu) λh' st' sb=>?_
  have I1:Inv X pins σ H { s with heap:=h' }:=I.turned (t':=s.toks) (λb o hb e=>(sb.2 b hb).trans e) f0 f1 f3 f4 f5
  obtain⟨o,e,c,d⟩:=id st'
  exact⟨u,rfl,vD (s:={ s with heap:=h' }) e c d (by decide) ⟨x,H,I1,ru,⟨rfl,λys hy=>by rw [I.tuple_inj hy hq];exact hx⟩,st',λb hb=>(hf b hb).1⟩⟩
 done:=by
  intro X hP hw hK hc i pins s σ H E I hf st hg
  subst hP hw hK
  obtain⟨xs,hq,hx⟩:=hg
  obtain⟨its,rv,p,hz⟩:=I.tuple hq
  obtain⟨f0,f1,f2,f3,f4,f5⟩:=hf it (by simp)
  have hl:=rv.length
  exact wpAny_pyNext_tuple_end (I.ok.hd hc) st (show s.heap.IsTuple a its.toArray from p) (by simp;lia) λh' eb=>⟨rfl,I.turned (t':=s.toks) (λb o hb e=>eb b o hb e) f0 f1 f3 f4 f5⟩
 self:=λ_ _ _ _ _ st h=>wpAny_pyIter_tupleiter st h
theorem se {P:Program}{w:World}{K:PySem.W.Frag}{tg:Expr} (it:Addr) (lo:Int) (n:Nat):rA P w K tg (Itr lo n) [it] it (λi h=>IsRangeIter h it (lo+(i:Nat)*1) ((n:Int) - (i:Nat)) 1) where
 mem:=by simp
 obj:=λi h st b hb=>by
  have e:b=it:=by simpa using hb
  subst e
  exact⟨_,st,λv z=>by
   have z':Data.fields _=Data.cell v:=z
   cases z'⟩
 keep:=λi h h' st k=>k it (by simp) _ st
 item:=by
  intro X hP hw hK hc i pins s σ H E I hf st hg
  subst hP hw hK
  obtain⟨f0,f1,f2,f3,f4,f5⟩:=hf it (by simp)
  have W:=Walks.range (prog:=X.prog) (w:=X.w) (I.ok.hd hc) it lo 1 n
  refine W.item i s _ _ hg st λv h' tk hv st' kk=>?_
  obtain⟨t,rfl⟩:=hv
  have I1:Inv X pins σ H { s with heap:=h',toks:=tk }:=I.turned (λb o hb e=>kk b o (by simpa using hb) e) f0 f1 f3 f4 f5
  refine⟨_,rfl,vD (s:={ s with heap:=h',toks:=tk }) (n:="range_iterator") st' rfl rfl (by decide) ⟨.int (lo+i),H,I1,⟨t,?_⟩,⟨rfl,rfl⟩,st',λb hb=>(hf b hb).1⟩⟩
  rw [Int.mul_one]
 done:=by
  intro X hP hw hK hc i pins s σ H E I hf st hg
  subst hP hw hK
  obtain⟨f0,f1,f2,f3,f4,f5⟩:=hf it (by simp)
  exact wpAny_pyNext_range_end (I.ok.hd hc) st (by have:n<=i:=hg;lia) λh' eb=>⟨rfl,I.turned (t':=s.toks) (λb o hb e=>eb b o hb e) f0 f1 f3 f4 f5⟩
 self:=λ_ _ _ _ _ st h=>wpAny_pyIter_rangeiter st h
end L2
namespace L2
open PySem PySem.Spec PyProof.Rows
section
variable {X:Cx}{tg:Expr}
noncomputable def Bz (K:PySem.W.Frag) (tl:TE):TI:=λσ H R=>tl σ H λx H1=>∃ a,x=.ref a/\(∃ xs,SqL K H1 a xs)/\R (Itl K a) H1
noncomputable def BR (K:PySem.W.Frag) (tl:TE):TI:=λσ H R=>tl σ H λx H1=>∃ a,x=.ref a/\(∃ xs,SqT K H1 a xs)/\R (Itt K a) H1
theorem su {l:Expr}{tl:TE} (hl:PE X l tl):PI X tg l (Bz X.K tl):=by
 intro pins s σ H R I h
 refine thn (hl pins s σ H _ I h) λv s1 ⟨x,H1,I1,r1,q1⟩=>?_
 obtain⟨a,e,⟨xs,hq⟩,q⟩:=q1
 subst e
 cases r1
 obtain⟨its,rv,p,hz⟩:=I1.list hq
 refine wpAny_pyIter_list p.isList ?_
 refine⟨s1.heap.objs.size,[s1.heap.objs.size],_,_,H1,rfl,I1.kept (t':=s1.toks) λb o e=>Heap.get?_push_of_some _ e,ui a _,⟨_,Heap.get?_push_size _ rfl,rfl,rfl⟩,λb hb=>?_,q⟩
 have e:b=s1.heap.objs.size:=by simpa using hb
 subst e
 exact I1.fpOk (Nat.le_refl _) (I1.hok.fresh (Nat.le_refl _))
theorem yP {l:Expr}{tl:TE} (hl:PE X l tl):PI X tg l (BR X.K tl):=by
 intro pins s σ H R I h
 refine thn (hl pins s σ H _ I h) λv s1 ⟨x,H1,I1,r1,q1⟩=>?_
 obtain⟨a,e,⟨xs,hq⟩,q⟩:=q1
 subst e
 cases r1
 obtain⟨its,rv,p,hz⟩:=I1.tuple hq
 refine wpAny_pyIter_tuple (show s1.heap.IsTuple a its.toArray from p) ?_
 refine⟨s1.heap.objs.size,[s1.heap.objs.size],_,_,H1,rfl,I1.kept (t':=s1.toks) λb o e=>Heap.get?_push_of_some _ e,rJ a _,⟨_,Heap.get?_push_size _ rfl,rfl,rfl⟩,λb hb=>?_,q⟩
 have e:b=s1.heap.objs.size:=by simpa using hb
 subst e
 exact I1.fpOk (Nat.le_refl _) (I1.hok.fresh (Nat.le_refl _))
theorem wD {pins:List (Addr×Obj)}{σ:St}{H:Hp}{s:Shared}{R:It->Hp->Prop}{E:Value->Shared->Prop}{lo hi:Int}{t u v:Tok}{tk:Nat} (I:Inv X pins σ H s) (h1:-(2 ^ 62)<=lo) (h2:lo < 2 ^ 62) (h3:-(2 ^ 62)<=hi) (h4:hi < 2 ^ 62)
  (q:R (Itr lo (hi - lo).toNat) H):wpAny (model X.prog X.w) X.A (pyIter (.ref s.heap.objs.size)) (PIE X pins σ tg R) E { s with heap:=s.heap.push { cls:=.type "range",data:=.fields #[.int lo t,.int hi u,.int 1 v] },toks:=tk }:=by
 refine wpAny_pyIter_range (IsRange.new ..) (small_one h1 h2 h3 h4) ?_
 have I1:Inv X pins σ H { s with heap:=s.heap.push { cls:=.type "range",data:=.fields #[.int lo t,.int hi u,.int 1 v] },toks:=tk }:=I.kept λb o e=>Heap.get?_push_of_some _ e
 refine⟨(s.heap.push { cls:=.type "range",data:=.fields #[.int lo t,.int hi u,.int 1 v] }).objs.size,[(s.heap.push { cls:=.type "range",data:=.fields #[.int lo t,.int hi u,.int 1 v] }).objs.size],_,_,H,rfl,
  I1.kept (t':=tk) λb o e=>Heap.get?_push_of_some _ e,se _ lo (hi - lo).toNat,?_,λb hb=>?_,q⟩
 ·have e1:lo+((0:Nat):Int)*1=lo:=by simp
  have e2:(((hi - lo).toNat:Nat):Int) - ((0:Nat):Int)=Builtin.Range.rangeSize lo hi 1:=by rw [rangeSize_one];split<;>lia
  show IsRangeIter _ _ (lo+((0:Nat):Int)*1) ((((hi - lo).toNat:Nat):Int) - ((0:Nat):Int)) 1
  rw [e1,e2]
  exact Heap.get?_push_size _ rfl
 ·have e:b=(s.heap.push { cls:=.type "range",data:=.fields #[.int lo t,.int hi u,.int 1 v] }).objs.size:=by simpa using hb
  subst e
  exact I1.fpOk (Nat.le_refl _) (I1.hok.fresh (Nat.le_refl _))
noncomputable def AV (ta:TA):TI:=λσ H R=>ta σ H λvs H1=>∃ j:Int,vs=[.int j]/\-(2 ^ 62)<=j/\j < 2 ^ 62/\R (Itr 0 j.toNat) H1
theorem uq {a:Expr}{ta:TA}{p pos:Pos} (hg:Gl X "range") (hm:X.mg "range" = none) (ha:PA X [a] ta) (hs:starEach [a] X.env=[(false,eval a X.env)]:=by rfl):PI X tg (.Call (.Name "range" p) [a] [] pos) (AV ta):=by
 intro pins s σ H R I h
 refine Call_ (h8 I hg hm boot_range (PyProof.Rows.callWith_type1 (thn (ha pos pins s σ H _ I h) λus s1 ⟨vs,H1,I1,r1,q1⟩=>?_) hs rfl))
 obtain⟨j,e,q1,q2,q⟩:=q1
 subst e
 cases r1 with
 | cons r rr=>
  cases rr
  obtain⟨t,rfl⟩:=r
  exact call_range_1 (wD I1 (by lia) (by lia) q1 q2 (by simpa using q))
noncomputable def BZ (wi:TI) (g:TG) (tb:TS):TS:=λD σ H=>wi σ H λJ H1=>∃ W:Nat->Nat->St->Hp->Prop,(∃ m,W 0 m σ H1)/\∀ i m σ H,W i m σ H->
 (J.stop i H/\D.nx σ H)\/(J.go i H/\∃ N:St->Hp->Prop,(∀ σ' H',N σ' H'->∃ m',m' < m/\W (i+1) m' σ' H')/\∀ x H',J.yld i H x H'->g x σ H' λσ2 H2=>tb { D with nx:=N,ct:=N,bk:=D.nx } σ2 H2)
noncomputable def jJ (fp:List Addr) (h:Heap):List (Addr×Obj):=fp.filterMap λb=>(h.get? b).map λo=>(b,o)
theorem dz {fp:List Addr}{h:Heap}{b:Addr}{o:Obj} (hb:b ∈ fp) (e:h.get? b=some o):(b,o) ∈ jJ fp h:=List.mem_filterMap.mpr ⟨b,hb,by rw [e];rfl⟩
theorem uj {fp:List Addr}{h:Heap}{p:Addr×Obj} (hp:p ∈ jJ fp h):p.1 ∈ fp/\h.get? p.1=some p.2:=by
 obtain⟨b,hb,e⟩:=List.mem_filterMap.mp hp
 cases q:h.get? b with
 | none=>rw [q] at e;cases e
 | some o=>
  rw [q] at e
  have e':(b,o)=p:=Option.some.inj e
  subst e'
  exact⟨hb,q⟩
theorem Inv.pinned {pins:List (Addr×Obj)}{σ:St}{H:Hp}{s:Shared}{fp:List Addr} (I:Inv X pins σ H s) (hf:∀ b ∈ fp,gT X pins H b) (ho:∀ b ∈ fp,∃ o,s.heap.get? b=some o/\∀ v,o.data≠.cell v):Inv X (pins++jJ fp s.heap) σ H s:=
 I.pins_of λp hp=>(List.mem_append.mp hp).elim (λz=>I.pin p (List.mem_append_right _ z)) λz=>by
  obtain⟨hb,e⟩:=uj z
  obtain⟨f0,f1,f2,_⟩:=hf p.1 hb
  obtain⟨o,e',d⟩:=ho p.1 hb
  rw [e] at e';cases e'
  exact⟨e,f0,f1,f2,d⟩
theorem Inv.unpinned {pins pl:List (Addr×Obj)}{σ:St}{H:Hp}{s:Shared} (I:Inv X (pins++pl) σ H s):Inv X pins σ H s:=I.pins_of λp hp=>I.pin p (List.mem_append_right _ (List.mem_append_left _ hp))
theorem wv {iter:Expr}{body:List Stmt}{wi:TI}{g:TG}{tb:TS}{pos:Pos} (hp:PassesOwn (model X.prog X.w) X.A X.env X.xe) (hc:X.calm=true) (hi:PI X tg iter wi) (hg:PG X tg g) (hb:PSs X body tb)
  (hs:∀ x,foldedSetIterable iter X.env x=pure x:=by intro _;rfl):PS X (.For tg iter body [] pos) (BZ wi g tb):=by
 intro pins s σ H D I h
 refine wpAny_For (thn (hi pins s σ H _ I h) λv s1 h1=>thn h1 λitv s2 h2=>?_) hs
 obtain⟨it,fp,tn,J,H2,e,I2,T,st2,f2,W,⟨m0,w0⟩,turn⟩:=h2
 subst e
 -- what stays true of the iterator's objects through the loop
 have stat:∀ {H':Hp},(∀ b ∈ fp,H' b=none)->∀ b ∈ fp,gT X pins H' b:=λhn b hb=>⟨hn b hb,(f2 b hb).2⟩
 refine codeAny_forLoop_any (λn s'=>∃ i σ' H',Inv X pins σ' H' s'/\tn i s'.heap/\(∀ b ∈ fp,H' b=none)/\W i n σ' H') ?_ m0 ⟨0,σ,H2,I2,st2,λb hb=>(f2 b hb).1,w0⟩
 rintro n s3 ⟨i,σ3,H3,I3,st3,fr3,w3⟩
 rcases turn i n σ3 H3 w3 with⟨stop,qn⟩ | ⟨go,N,hN,step⟩
 ·refine wpAny_passesOwn hp (thn (T.done X rfl rfl rfl hc i pins s3 σ3 H3 X.xe I3 (stat fr3) st3 stop) λr s4 ⟨hr,I4⟩=>?_)
  subst hr
  exact wpAny_execs_nil ⟨σ3,H3,I4,qn⟩
 ·refine wpAny_passesOwn hp (thn (T.item X rfl rfl rfl hc i pins s3 σ3 H3 X.xe I3 (stat fr3) st3 go) λr s4 ⟨u,hr,h4⟩=>?_)
  subst hr
  refine wpAny_passesOwn hp (thn h4 λ_ s5 ⟨x,H5,I5,r5,y5,st5,fr5⟩=>?_)
  have I5':=I5.pinned (stat fr5) (T.obj _ _ st5)
  refine wpAny_passesOwn hp (thn (hg _ s5 σ3 H5 x u _ I5' r5 (step x H5 y5)) λ_ s6 ⟨σ6,H6,I6,q6⟩=>?_)
  refine wpAny_passesOwn hp (thn (hb _ s6 σ6 H6 _ I6 q6) λf s7 q7=>?_)
  have again:∀ {σ7:St}{H7:Hp},Inv X (pins++jJ fp s5.heap) σ7 H7 s7->N σ7 H7->∃ m,m < n/\∃ i σ' H',Inv X pins σ' H' s7/\tn i s7.heap/\(∀ b ∈ fp,H' b=none)/\W i m σ' H':=λ{σ7 H7} I7 n7=>by
   obtain⟨m',hm,w7⟩:=hN σ7 H7 n7
   refine⟨m',hm,i+1,σ7,H7,I7.unpinned,T.keep _ _ _ st5 λb hb o e=>(I7.pin (b,o) (List.mem_append_right _ (List.mem_append_right _ (dz hb e)))).1,λb hb=>?_,w7⟩
   obtain⟨o,e,d⟩:=T.obj _ _ st5 b hb
   exact (I7.pin (b,o) (List.mem_append_right _ (List.mem_append_right _ (dz hb e)))).2.1
  cases f with
  | next=>obtain⟨σ7,H7,I7,n7⟩:=q7;exact again I7 n7
  | cont=>obtain⟨σ7,H7,I7,n7⟩:=q7;exact again I7 n7
  | brk=>obtain⟨σ7,H7,I7,q7⟩:=q7;exact⟨σ7,H7,I7.unpinned,q7⟩
  | ret v=>obtain⟨x7,σ7,H7,I7,r7,q7⟩:=q7;exact⟨x7,σ7,H7,I7.unpinned,r7,q7⟩
end
end L2
namespace L2
open PySem PySem.Spec PyProof.Rows
abbrev R2:=V->V->Hp->VK->Prop
noncomputable def OpR (X:Cx) (f:Value->Value->Sem Value) (r:R2):Prop:=
 ∀ (pins:List (Addr×Obj)) (s:Shared) (σ:St) (H:Hp) (x y:V) (v u:Value) (Q:VK),Inv X pins σ H s->aW x v->aW y u->r x y H Q->
  wpAny (model X.prog X.w) X.A (f v u) (EP X pins σ Q) X.xe s
noncomputable def UnR (X:Cx) (f:Value->Sem Value) (r:V->Hp->VK->Prop):Prop:=
 ∀ (pins:List (Addr×Obj)) (s:Shared) (σ:St) (H:Hp) (x:V) (v:Value) (Q:VK),Inv X pins σ H s->aW x v->r x H Q->
  wpAny (model X.prog X.w) X.A (f v) (EP X pins σ Q) X.xe s
noncomputable def dk (X:Cx) (f:Value) (r:List V->Hp->VK->Prop):Prop:=
 ∀ (pins:List (Addr×Obj)) (s:Shared) (σ:St) (H:Hp) (xs:List V) (us:List Value) (Q:VK),Inv X pins σ H s->aT xs us->r xs H Q->
  wpAny (model X.prog X.w) X.A (call f us) (EP X pins σ Q) X.xe s
noncomputable def B4 (X:Cx) (r:V->Hp->(Bool->Hp->Prop)->Prop):Prop:=
 ∀ (pins:List (Addr×Obj)) (s:Shared) (σ:St) (H:Hp) (x:V) (v:Value) (Q:Bool->Hp->Prop),Inv X pins σ H s->aW x v->r x H Q->
  wpAny (model X.prog X.w) X.A (truthy v) (TP X pins σ Q) X.xe s
noncomputable def tOp (r:R2) (ta tb:TE):TE:=λσ H Q=>ta σ H λx H1=>tb σ H1 λy H2=>r x y H2 Q
noncomputable def tUn (r:V->Hp->VK->Prop) (ta:TE):TE:=λσ H Q=>ta σ H λx H1=>r x H1 Q
noncomputable def rI (C:Int->Int->Prop) (g:Int->Int->V):R2:=λx y H Q=>∃ i j,x=.int i/\y=.int j/\C i j/\Q (g i j) H
noncomputable def rI0 (g:Int->Int->V):R2:=λx y H Q=>∃ i j,x=.int i/\y=.int j/\Q (g i j) H
noncomputable def rU (g:Int->V):V->Hp->VK->Prop:=λx H Q=>∃ i,x=.int i/\Q (g i) H
section
variable {X:Cx}{a b c:Expr}{ta tb tc:TE}{pos:Pos}
theorem zV (ha:PE X a ta) (hb:PE X b tb) {pins:List (Addr×Obj)}{s:Shared}{σ:St}{H:Hp}{R:V->V->Hp->Prop} (I:Inv X pins σ H s)
  (h:ta σ H λx H1=>tb σ H1 λy H2=>R x y H2) {Q:Value->Shared->Prop}{f:Value->Value->Sem Value}
  (hf:∀ v u s2 x y H2,Inv X pins σ H2 s2->aW x v->aW y u->R x y H2->wpAny (model X.prog X.w) X.A (f v u) Q X.xe s2) :
  wpAny (model X.prog X.w) X.A (eval a X.env) (λv s₁=>wpAny (model X.prog X.w) X.A (eval b X.env) (λu s₂=>wpAny (model X.prog X.w) X.A (f v u) Q X.xe s₂) X.xe s₁) X.xe s:=by
 refine thn (ha pins s σ H _ I h) λv s1 ⟨x,H1,I1,r1,q1⟩=>?_
 refine thn (hb pins s1 σ H1 _ I1 q1) λu s2 ⟨y,H2,I2,r2,q2⟩=>?_
 exact hf v u s2 x y H2 I2 r1 r2 q2
theorem AW {op:Operator}{r:R2} (ho:OpR X (binaryOp op) r) (ha:PE X a ta) (hb:PE X b tb):PE X (.BinOp a op b pos) (tOp r ta tb):=by
 intro pins s σ H Q I h
 exact wpAny_BinOp (zV ha hb I h λv u s2 x y H2 I2 rx ry q=>ho pins s2 σ H2 x y v u Q I2 rx ry q)
theorem Be {op:UnaryOp}{r:V->Hp->VK->Prop} (ho:UnR X (unaryOp op) r) (ha:PE X a ta):PE X (.UnaryOp op a pos) (tUn r ta):=by
 intro pins s σ H Q I h
 exact UnaryOp_ (thn (ha pins s σ H _ I h) λv s1 ⟨x,H1,I1,r1,q1⟩=>ho pins s1 σ H1 x v Q I1 r1 q1)
theorem opI {f:Value->Value->Sem Value}{C:Int->Int->Prop}{g:Int->Int->Int}
  (rule:∀ (i j:Int) (t u:Tok) (s:Shared) (Q:Value->Shared->Prop) (E:Value->Shared->Prop),C i j->Q (.int (g i j) s.toks) { s with toks:=s.toks+1 }->wpAny (model X.prog X.w) X.A (f (.int i t) (.int j u)) Q E s) :
  OpR X f (rI C λi j=>.int (g i j)):=by
 intro pins s σ H x y v u Q I rx ry h
 obtain⟨i,j,rfl,rfl,hc,q⟩:=h
 obtain⟨t,rfl⟩:=rx
 obtain⟨t',rfl⟩:=ry
 exact rule i j t t' s _ _ hc ⟨.int (g i j),H,I.tok _,⟨_,rfl⟩,q⟩
theorem Bx {f:Value->Value->Sem Value}{g:Int->Int->Int}
  (rule:∀ (i j:Int) (t u:Tok) (s:Shared) (Q:Value->Shared->Prop) (E:Value->Shared->Prop),Q (.int (g i j) s.toks) { s with toks:=s.toks+1 }->wpAny (model X.prog X.w) X.A (f (.int i t) (.int j u)) Q E s) :
  OpR X f (rI0 λi j=>.int (g i j)):=by
 intro pins s σ H x y v u Q I rx ry h
 obtain⟨i,j,rfl,rfl,q⟩:=h
 obtain⟨t,rfl⟩:=rx
 obtain⟨t',rfl⟩:=ry
 exact rule i j t t' s _ _ ⟨.int (g i j),H,I.tok _,⟨_,rfl⟩,q⟩
theorem xH {f:Value->Value->Sem Value}{g:Int->Int->Bool}
  (rule:∀ (i j:Int) (t u:Tok) (s:Shared) (Q:Value->Shared->Prop) (E:Value->Shared->Prop),Q (.bool (g i j)) s->wpAny (model X.prog X.w) X.A (f (.int i t) (.int j u)) Q E s) :
  OpR X f (rI0 λi j=>.bl (g i j)):=by
 intro pins s σ H x y v u Q I rx ry h
 obtain⟨i,j,rfl,rfl,q⟩:=h
 obtain⟨t,rfl⟩:=rx
 obtain⟨t',rfl⟩:=ry
 exact rule i j t t' s _ _ ⟨.bl (g i j),H,I,rfl,q⟩
noncomputable def BV (i j:Int):Prop:=0 < j/\j < 1073741824
noncomputable def oy (i j:Int):Prop:=0<=j/\j<=1000000/\i.natAbs < 2 ^ 64
noncomputable def ym (i j:Int):Prop:=(-(2 ^ 64) < i/\i < 2 ^ 64)\/(-(2 ^ 64) < j/\j < 2 ^ 64)
theorem ym.ok {i j:Int} (h:ym i j):IntMulOk i j:=by
 rcases h with⟨h1,h2⟩ | ⟨h1,h2⟩
 ·exact .of_left (intBits_le_64 h1 h2)
 ·exact .of_right (intBits_le_64 h1 h2)
theorem rL (k:Nat):(0:Int)<=2 ^ k:=by
 rw [two_pow_cast]
 exact Int.natCast_nonneg _
theorem Ap:OpR X (binaryOp .Add) (rI0 λi j=>.int (i+j)):=Bx λ_ _ _ _ _ _ _ q=>add_int q
theorem za:OpR X (binaryOp .Sub) (rI0 λi j=>.int (i - j)):=Bx λ_ _ _ _ _ _ _ q=>sub_int q
theorem x6:OpR X (binaryOp .FloorDiv) (rI BV λi j=>.int (i / j)):=opI λi j _ _ _ _ _ hc q=>by
 have h1:(0:Int) < j:=hc.1
 have h2:j < 1073741824:=hc.2
 exact floordiv_int (by lia) (by rw [Int.fdiv_eq_ediv_of_nonneg i (by lia)];exact q) (.inl (PyProof.noPylong_small (by lia)))
theorem zM:OpR X (binaryOp .Mod) (rI (λ_ j=>0 < j) λi j=>.int (i % j)):=opI λi j _ _ _ _ _ hc q=>by
 have h1:(0:Int) < j:=hc
 exact mod_int' (by lia) (by rw [Int.fmod_eq_emod_of_nonneg i (by lia)];exact q)
theorem zt:OpR X (binaryOp .Pow) (rI oy λi j=>.int (i ^ j.toNat)):=opI λ_ _ _ _ _ _ _ hc q=>pow_int_small hc.1 hc.2.1 hc.2.2 q
theorem Av:OpR X (binaryOp .LShift) (rI oy λi j=>.int (i*2 ^ j.toNat)):=opI λ_ _ _ _ _ _ _ hc q=>lshift_int_small hc.1 hc.2.1 hc.2.2 q
theorem Ar:OpR X (binaryOp .RShift) (rI (λ_ j=>0<=j) λi j=>.int (i / 2 ^ j.toNat)):=opI λi j _ _ _ _ _ hc q=>
 rshift_int hc (by rw [Int.fdiv_eq_ediv_of_nonneg i (rL _)];exact q)
theorem unI {f:Value->Sem Value}{g:Int->Int}
  (rule:∀ (i:Int) (t:Tok) (s:Shared) (Q:Value->Shared->Prop) (E:Value->Shared->Prop),Q (.int (g i) s.toks) { s with toks:=s.toks+1 }->wpAny (model X.prog X.w) X.A (f (.int i t)) Q E s) :
  UnR X f (rU λi=>.int (g i)):=by
 intro pins s σ H x v Q I rx h
 obtain⟨i,rfl,q⟩:=h
 obtain⟨t,rfl⟩:=rx
 exact rule i t s _ _ ⟨.int (g i),H,I.tok _,⟨_,rfl⟩,q⟩
theorem As:UnR X (unaryOp .USub) (rU λi=>.int (-i)):=unI λ_ _ _ _ _ q=>neg_int q
end
section
variable {X:Cx}{a b c:Expr}{ta tb tc:TE}{pos:Pos}
theorem zy {pins:List (Addr×Obj)}{σ:St}{H:Hp}{s:Shared}{Q:VK}{k k':Bool} (I:Inv X pins σ H s) (q:Q (.bl k) H) (e:k=k'):EP X pins σ Q (.bool k') s:=by
 subst e
 exact⟨.bl k,H,I,rfl,q⟩
theorem AM:OpR X (compareOp .Lt) (rI0 λi j=>.bl (decide (i < j))):=xH λ_ _ _ _ _ _ _ q=>lt_int q
theorem AN:OpR X (compareOp .LtE) (rI0 λi j=>.bl (decide (i<=j))):=xH λ_ _ _ _ _ _ _ q=>le_int q
theorem A5:OpR X (compareOp .Gt) (rI0 λi j=>.bl (decide (j < i))):=xH λ_ _ _ _ _ _ _ q=>gt_int q
theorem BF:OpR X (compareOp .GtE) (rI0 λi j=>.bl (decide (j<=i))):=xH λ_ _ _ _ _ _ _ q=>ge_int q
theorem xO:OpR X (compareOp .IsNot) (λx y H Q=>y=.non/\Q (.bl (!decide (x=.non))) H):=by
 intro pins s σ H x y v u Q I rx ry h
 obtain⟨rfl,q⟩:=h
 cases ry
 refine isnot_none_gen (zy I q ?_)
 cases x<;>first
  | (cases rx;rfl)
  | (obtain⟨t,rfl⟩:=rx;rfl)
theorem bq (b:Expr) {op:CmpOp} (h:op≠.In:=by decide) (h2:op≠.NotIn:=by decide):behindInMarks op b=false:=by
 have e1:(op==CmpOp.In)=false:=by cases op<;>first | rfl | exact absurd rfl h
 have e2:(op==CmpOp.NotIn)=false:=by cases op<;>first | rfl | exact absurd rfl h2
 cases b<;>simp [behindInMarks,e1,e2]
theorem xf {op:CmpOp}{r:R2} (ho:OpR X (compareOp op) r) (ha:PE X a ta) (hb:PE X b tb) (hm:behindInMarks op b=false):PE X (.Compare a [op] [b] pos) (tOp r ta tb):=by
 intro pins s σ H Q I h
 exact wpAny_Compare1 (zV ha hb I h λv u s2 x y H2 I2 rx ry q=>ho pins s2 σ H2 x y v u Q I2 rx ry q) hm
noncomputable def A1 (t:TE):TT:=λσ H Q=>t σ H λx H'=>∃ k,x=.bl k/\Q k H'
theorem xt {op:CmpOp}{r:R2} (ho:OpR X (compareOp op) r) (ha:PE X a ta) (hb:PE X b tb) (hm:behindInMarks op b=false):PT X (.Compare a [op] [b] pos) (A1 (tOp r ta tb)):=by
 intro pins s σ H Q I h
 refine wpAny_isTrue_Compare1 (thn (ha pins s σ H _ I h) λv s1 ⟨x,H1,I1,r1,q1⟩=>thn (hb pins s1 σ H1 _ I1 q1) λu s2 ⟨y,H2,I2,r2,q2⟩=>
  thn (ho pins s2 σ H2 x y v u _ I2 r1 r2 q2) λc s3 ⟨z,H3,I3,r3,k,e,q3⟩=>?_) hm
 subst e
 cases r3
 exact wpAny_truthy_bool ⟨H3,I3,q3⟩
noncomputable def zv (r r':R2) (ta tb tc:TE):TE:=λσ H Q=>ta σ H λx H1=>tb σ H1 λy H2=>r x y H2 λz H3=>∃ k,z=.bl k/\
 (if k=true then tc σ H3 λw' H4=>r' y w' H4 Q else Q (.bl false) H3)
theorem p6 {op op':CmpOp}{r r':R2} (ho:OpR X (compareOp op) r) (ho':OpR X (compareOp op') r') (ha:PE X a ta) (hb:PE X b tb) (hc:PE X c tc)
  (hm:lastMarks [op,op'] [b,c]=false:=by with_unfolding_all rfl):PE X (.Compare a [op,op'] [b,c] pos) (zv r r' ta tb tc):=by
 intro pins s σ H Q I h
 refine Compare_chain (thn (ha pins s σ H _ I h) λv s1 ⟨x,H1,I1,r1,q1⟩=>chain_link (thn (hb pins s1 σ H1 _ I1 q1) λu s2 ⟨y,H2,I2,r2,q2⟩=>
  thn (ho pins s2 σ H2 x y v u _ I2 r1 r2 q2) λd s3 ⟨z,H3,I3,r3,k,e,q3⟩=>?_)) hm
 subst e
 cases r3
 refine wpAny_truthy_bool ?_
 cases k with
 | false=>exact ite_ff ⟨.bl false,H3,I3,rfl,q3⟩
 | true=>exact ite_tt (chain_last (thn (hc pins s3 σ H3 _ I3 q3) λw' s4 ⟨z',H4,I4,r4,q4⟩=>ho' pins s4 σ H4 y z' u w' Q I4 r2 r4 q4))
noncomputable def x9 (K:PySem.W.Frag) (x:V) (H:Hp) (k:Bool):Prop:=
 match x with
 | .non=>k=false
 | .bl b=>k=b
 | .int i=>k=(i != 0)
 | .str y=>y.length<=sizeLine/\k=((y.length:Int) != 0)
 | .byt y=>y.size<=sizeLine/\k=((y.size:Int) != 0)
 | .ref p=>(∃ xs,SqL K H p xs/\k=!xs.isEmpty)\/(∃ xs,SqT K H p xs/\k=!xs.isEmpty)\/∃ kvs,H p=some (.dK kvs)/\k=!kvs.isEmpty
 | _=>False
theorem rO {κ:Type}{kvs:List (κ×V)}{vs:List (κ×Value)} (r:KV kvs vs):(!vs.isEmpty)=!kvs.isEmpty:=by
 cases r<;>rfl
theorem mf {xs:List V}{its:List Value} (r:aT xs its):(!its.toArray.isEmpty)=!xs.isEmpty:=by
 cases r<;>simp
theorem i9:(sizeLine:Nat) < 2 ^ 63:=by rw [sizeLine_eq];decide
theorem Am:B4 X (λx H Q=>∃ k,x9 X.K x H k/\Q k H):=by
 intro pins s σ H x v Q I rx h
 obtain⟨k,e,q⟩:=h
 have hl:=i9
 have hs:sizeLine=16777216:=sizeLine_eq
 cases x with
 | non=>
  cases rx
  have e':k=false:=e
  subst e'
  exact truthy_none ⟨H,I,q⟩
 | bl b=>
  cases rx
  have e':k=b:=e
  subst e'
  exact wpAny_truthy_bool ⟨H,I,q⟩
 | int i=>
  obtain⟨t,rfl⟩:=rx
  have e':k=(i != 0):=e
  subst e'
  exact PySem.P.truthy_int ⟨H,I,q⟩
 | str y=>
  obtain⟨t,rfl⟩:=rx
  obtain⟨hy,e'⟩:y.length<=sizeLine/\k=((y.length:Int) != 0):=e
  subst e'
  exact PySem.P.truthy_str (by lia) ⟨H,I.tok _,q⟩
 | byt y=>
  obtain⟨t,rfl⟩:=rx
  obtain⟨hy,e'⟩:y.size<=sizeLine/\k=((y.size:Int) != 0):=e
  subst e'
  exact PySem.W.truthy_bytes (by lia) ⟨H,I.tok _,q⟩
 | ref p=>
  cases rx
  have e':(∃ xs,SqL X.K H p xs/\k=!xs.isEmpty)\/(∃ xs,SqT X.K H p xs/\k=!xs.isEmpty)\/∃ kvs,H p=some (.dK kvs)/\k=!kvs.isEmpty:=e
  rcases e' with⟨xs,hx,e'⟩ | ⟨xs,hx,e'⟩ | ⟨kvs,hx,e'⟩
  ·subst e'
   obtain⟨its,r,pl,hz⟩:=I.list hx
   have hlen:=r.length
   exact wpAny_truthy_list pl.isList (by simp only [List.size_toArray];lia) ⟨H,I.tok _,by rw [mf r];exact q⟩
  ·subst e'
   obtain⟨its,r,pl,hz⟩:=I.tuple hx
   have hlen:=r.length
   exact truthy_tuple pl (by simp only [List.size_toArray];lia) ⟨H,I.tok _,by rw [mf r];exact q⟩
  ·subst e'
   obtain⟨hz,hS,vs,r,m⟩:kvs.length<=sizeLine/\(p==sysModules)=false/\∃ vs,KV kvs vs/\s.heap.DictOf (cz X.prog X.w) p vs:=I.hok p _ hx
   have hlen:kvs.length=vs.length:=Paired.length r
   exact wpAny_truthy_dict hS m (by lia) ⟨H,I.tok _,by rw [rO r];exact q⟩
 | _=>exact (show False from e).elim
theorem vU (ha:PE X a ta) (he:∀ whole,isTrue a X.env whole=(do let v <-whole;standAt a.pos;holding [v] (truthy v))) :
  PT X a (λσ H Q=>ta σ H λx H'=>∃ k,x9 X.K x H' k/\Q k H'):=by
 intro pins s σ H Q I h
 exact isTrue_plain (thn (ha pins s σ H _ I h) λv s1 ⟨x,H1,I1,r1,q1⟩=>Am pins s1 σ H1 x v Q I1 r1 q1) (he _)
theorem rp:OpR X (binaryOp .Add) (λx y H Q=>∃ i j,x=.str i/\y=.str j/\i.length+j.length<=sizeLine/\Q (.str (i++j)) H):=by
 intro pins s σ H x y v u Q I rx ry h
 obtain⟨i,j,rfl,rfl,hz,q⟩:=h
 obtain⟨t,rfl⟩:=rx
 obtain⟨t',rfl⟩:=ry
 exact add_str (λt' tk=>⟨.str (i++j),H,I.tok _,⟨_,rfl⟩,q⟩) hz
theorem ij {x:V}{us:List Value} (r:aT [x] us):∃ u,us=[u]/\aW x u:=by
 cases r with
 | cons r1 r2=>cases r2;exact⟨_,rfl,r1⟩
theorem yJ {x y:V}{us:List Value} (r:aT [x,y] us):∃ u w',us=[u,w']/\aW x u/\aW y w':=by
 cases r with
 | cons r1 r2=>
  cases r2 with
  | cons r3 r4=>cases r4;exact⟨_,_,rfl,r1,r3⟩
theorem um (hc:X.calm=true):dk X (.builtin "max") (λxs H Q=>∃ i j,xs=[.int i,.int j]/\Q (.int (if j > i then j else i)) H):=by
 intro pins s σ H xs us Q I r h
 obtain⟨i,j,rfl,q⟩:=h
 obtain⟨u,w',rfl,⟨t,rfl⟩,⟨t',rfl⟩⟩:=yJ r
 refine max_two_ints (I.ok.hd hc) λh' tk k=>⟨_,H,I.kept k,?_,q⟩
 by_cases hj:j > i
 ·rw [if_pos hj,if_pos hj];exact⟨_,rfl⟩
 ·rw [if_neg hj,if_neg hj];exact⟨_,rfl⟩
theorem ue (hc:X.calm=true):dk X (.builtin "min") (λxs H Q=>∃ i j,xs=[.int i,.int j]/\Q (.int (if j < i then j else i)) H):=by
 intro pins s σ H xs us Q I r h
 obtain⟨i,j,rfl,q⟩:=h
 obtain⟨u,w',rfl,⟨t,rfl⟩,⟨t',rfl⟩⟩:=yJ r
 refine min_two_ints (I.ok.hd hc) λh' tk k=>⟨_,H,I.kept k,?_,q⟩
 by_cases hj:j < i
 ·rw [if_pos hj,if_pos hj];exact⟨_,rfl⟩
 ·rw [if_neg hj,if_neg hj];exact⟨_,rfl⟩
theorem nY:dk X (.type "int") (λxs H Q=>(∃ i,xs=[.int i]/\Q (.int i) H)\/∃ k,xs=[.bl k]/\Q (.int (if k then 1 else 0)) H):=by
 intro pins s σ H xs us Q I r h
 rcases h with⟨i,rfl,q⟩ | ⟨k,rfl,q⟩
 ·obtain⟨u,rfl,t,rfl⟩:=ij r
  exact call_int_int ⟨.int i,H,I,⟨_,rfl⟩,q⟩
 ·obtain⟨u,rfl,r1⟩:=ij r
  cases r1
  exact call_int_bool ⟨.int (if k then 1 else 0),H,I.tok _,⟨_,rfl⟩,q⟩
end
end L2
namespace L2
open PySem PySem.Spec PyProof.Rows
structure Ad (h:Heap) (x dx C:Addr) (mA:Str->Option Value):Prop where
 obj:h.get? x=some (PySem.W.instObj C dx)
 ns:h.Ns1 dx mA
 ne:dx≠x
theorem tR {h:Heap}{dx:Addr}{mA:Str->Option Value} (n:h.Ns1 dx mA):∃ od,h.get? dx=some od/\∀ name,PySem.W.lookIn name od=some (mA name):=by
 obtain⟨o,es,ep,ho,hd,hk,_,hm⟩:=n
 refine⟨o,ho,λname=>?_⟩
 have e:=hm name
 unfold nsFind findBy at e
 rw [<-Array.find?_toList] at e
 unfold PySem.W.lookIn
 rw [hd]
 dsimp only
 split
 ·rename_i y q
  rw [q] at e
  exact congrArg some e
 ·rename_i q
  rw [q] at e
  have a:es.toList.any (·.refKey)=false:=by
   rw [List.any_eq_false]
   intro y hy
   obtain⟨z,t,hkey⟩:=hk y (Array.mem_toList_iff.mp hy)
   simp [DictEntry.refKey,hkey]
  have a':¬ es.toList.any (·.refKey)=true:=by rw [a];exact Bool.false_ne_true
  rw [if_neg a']
  exact congrArg some e
theorem Ad.look {h:Heap}{x dx C:Addr}{mA:Str->Option Value} (I:Ad h x dx C mA):∃ od,PySem.W.InstAt h x (PySem.W.instObj C dx) C (some od)/\∀ name,PySem.W.lookIn name od=some (mA name):=
 let ⟨od,ho,hl⟩:=tR I.ns
 ⟨od,⟨I.obj,rfl,rfl,ho⟩,hl⟩
section
variable {prog:Program}{w:World}{A:Around}{E:Value->Shared->Prop}{s:Shared}{K:PySem.W.Frag}{x dx C f:Addr}{mA:Str->Option Value}{name:Str}{v:Value}
end
theorem j5.some_of {v:V}{o:Option Value} (r:j5 (some v) o):∃ u,o=some u/\aW v u:=by
 cases o with
 | none=>exact (show False from r).elim
 | some u=>exact⟨u,rfl,r⟩
section
variable {P:Program}{w:World}{H H':Hp}{h h':Heap}{a C dx:Addr}{fs fs':List (Str×V)}
theorem wW (hok:HOk P w H h) (e:H a=some (.ins C dx fs)):∃ mA,Ad h a dx C mA/\(∀ f,j5 (fs.lookup f) (mA f))/\PySem.Within mA (fs.map (·.1))/\fs.length<=1000/\H dx=some (.own a):=by
 obtain⟨d,z,ne,ob,mA,n,r,q⟩:=(show bY P w H h a (.ins C dx fs) from hok a _ e)
 exact⟨mA,⟨ob,n,ne⟩,r,q,z,d⟩
end
structure Cls (K:PySem.W.Frag) (C:Addr):Prop where
 pg:PySem.W.plainGet K C Str.empty=true
 hd:PySem.W.hasDictIn K C=true
 po:PySem.W.plainOver K C=true
 sa:PySem.W.findIn K (.ref C) "__setattr__" = some (some (.builtin "object.__setattr__"))
theorem Cls.get {K:PySem.W.Frag}{C:Addr} (c:Cls K C) (f:Str):PySem.W.plainGet K C f=true:=c.pg
section
variable {X:Cx}{pins:List (Addr×Obj)}{σ:St}{H:Hp}{s:Shared}{a C dx:Addr}{fs:List (Str×V)}{f:Str}{v:V}{A:Around}{E:Value->Shared->Prop}
end
section
variable {X:Cx}{o e value:Expr}{f:Str}{pos pos' tpos:Pos}{ta tv:TE}
end
section
variable {X:Cx}{pins:List (Addr×Obj)}{σ:St}{H:Hp}{s:Shared}{A:Around}{E:Value->Shared->Prop}{Q:Value->Shared->Prop}{c:Value}{b:Bool}
inductive kM (K:PySem.W.Frag) (H:Hp):V->Value->Prop where
 | non:kM K H .non (.type "NoneType")
 | bl (x:Bool):kM K H (.bl x) (.type "bool")
 | int (i:Int):kM K H (.int i) (.type "int")
 | str (x:Str):kM K H (.str x) (.type "str")
 | flt (x:UInt64):kM K H (.flt x) (.type "float")
 | lst {a:Addr}{xs:List V} (e:H a=some (.lst xs)):kM K H (.ref a) (.type "list")
 | frz {a:Addr}{o:Obj}{xs:List V} (e:H a=some (.frz o (.lst xs))):kM K H (.ref a) (.type "list")
 | tup {a:Addr}{xs:List V} (e:H a=some (.tup xs)):kM K H (.ref a) (.type "tuple")
 | dK {a:Addr}{kvs:List (Key×V)} (e:H a=some (.dK kvs)):kM K H (.ref a) (.type "dict")
 | dT {a:Addr}{kvs:List (List Key×V)} (e:H a=some (.dT kvs)):kM K H (.ref a) (.type "dict")
 | ins {a C dx:Addr}{fs:List (Str×V)} (e:H a=some (.ins C dx fs)) (cl:Cls K C) (ha:PySem.W.findIn K (.ref C) "__class__" = some (some (.builtin "object.__class__")))
   (hn:PySem.W.specialIn K (.builtin "object.__class__") "__get__" = some (some (.builtin "getset_descriptor.__get__"))) (htk:PySem.W.takesIn K (.builtin "object.__class__")=some true)
   (hm:PySem.W.mroIn K C (.type "object")=some true):kM K H (.ref a) (.ref C)
theorem dc {x:V}{u t:Value} (I:Inv X pins σ H s) (rx:aW x u) (ty:kM X.K H x t) (e:PySem.W.kitOne X.K t c=some b) (h:∀ tk,Q (.bool b) { s with toks:=tk }) :
  wpAny (model X.prog X.w) A (call (.builtin "isinstance") [u,c]) Q E s:=by
 cases ty with
 | non=>cases (show u=Value.none from rx);exact PySem.W.kia_one PySem.W.kitx_none I.kIn True.intro e (λz=>nomatch z) h
 | bl y=>cases (show u=Value.bool y from rx);exact PySem.W.kia_one PySem.W.kitx_bool I.kIn True.intro e (λz=>nomatch z) h
 | int i=>obtain⟨t,q⟩:=(show ∃ t,u=Value.int i t from rx);cases q;exact PySem.W.kia_one PySem.W.kitx_int I.kIn True.intro e (λz=>nomatch z) h
 | str y=>obtain⟨t,q⟩:=(show ∃ t,u=Value.str y t from rx);cases q;exact PySem.W.kia_one PySem.W.kitx_str I.kIn True.intro e (λz=>nomatch z) h
 | flt y=>obtain⟨t,q⟩:=(show ∃ t,u=Value.float y t from rx);cases q;exact PySem.W.kia_one PySem.W.kitx_float I.kIn True.intro e (λz=>nomatch z) h
 | @lst a xs ea=>
  cases (show u=Value.ref a from rx)
  obtain⟨_,_,n,_,h1⟩:=(show bY X.prog X.w H s.heap a (.lst xs) from I.hok a _ ea)
  exact PySem.W.kia_one PySem.W.kitx_list I.kIn ⟨_,h1,rfl⟩ e (λz=>nomatch z) h
 | @frz a ob xs ea=>
  cases (show u=Value.ref a from rx)
  obtain⟨_,_,_,n,_,h1⟩:=(show bY X.prog X.w H s.heap a (.frz ob (.lst xs)) from I.hok a _ ea)
  exact PySem.W.kia_one PySem.W.kitx_list I.kIn ⟨_,h1,rfl⟩ e (λz=>nomatch z) h
 | @tup a xs ea=>
  cases (show u=Value.ref a from rx)
  obtain⟨_,_,_,p⟩:=(show bY X.prog X.w H s.heap a (.tup xs) from I.hok a _ ea)
  obtain⟨o,h1,h2,_⟩:=p
  exact PySem.W.kia_one PySem.W.kitx_tuple I.kIn ⟨o,h1,h2⟩ e (λz=>nomatch z) h
 | @dK a kvs ea=>
  cases (show u=Value.ref a from rx)
  obtain⟨_,_,vs,_,p⟩:=(show bY X.prog X.w H s.heap a (.dK kvs) from I.hok a _ ea)
  obtain⟨o,es,ep,h1,h2,_⟩:=p
  exact PySem.W.kia_one PySem.W.kitx_dict I.kIn ⟨o,h1,h2.1⟩ e (λz=>nomatch z) h
 | @dT a kvs ea=>
  cases (show u=Value.ref a from rx)
  obtain⟨_,_,xs,_,o,es,ep,h1,h2,_⟩:=(show bY X.prog X.w H s.heap a (.dT kvs) from I.hok a _ ea)
  exact PySem.W.kia_one PySem.W.kitx_dict I.kIn ⟨o,h1,h2.1⟩ e (λz=>nomatch z) h
 | @ins a C dx fs ea cl ha hn htk hm=>
  cases (show u=Value.ref a from rx)
  obtain⟨mA,O,_⟩:=wW I.hok ea
  obtain⟨od,J,_⟩:=O.look
  exact PySem.W.kia_one (PySem.W.kitx_own (cl.get _) cl.hd ha hn htk hm) I.kIn J e (λz=>nomatch z) h
end
end L2
namespace L2
open PySem PySem.Spec PyProof.Rows
structure bo (k:Nat) (A:Around):Prop where
 hd:A.handled=none
 dp:A.depth+3*k+5 < recursionLimit
 un:A.units+16*k+200 < cLine
 gd:A.guards=some []
theorem bo.mono {j k:Nat}{A:Around} (r:bo k A) (h:j<=k):bo j A:=⟨r.hd,by have:=r.dp;lia,by have:=r.un;lia,r.gd⟩
theorem bo.deeper {k:Nat}{A:Around} (r:bo (k+1) A) (env:Env):bo k (A.deeper env):=
 ⟨r.hd,by have:=r.dp;show A.depth+1+3*k+5 < _;lia,by have:=r.un;show A.units+3+16*k+200 < _;lia,r.gd⟩
theorem bo.depth {k:Nat}{A:Around} (r:bo k A):A.depth < recursionLimit:=by have:=r.dp;lia
theorem bo.units {k:Nat}{A:Around} (r:bo k A):A.units+64 < cLine:=by have:=r.un;lia
theorem bo.units0 {k:Nat}{A:Around} (r:bo k A):A.units < cLine:=by have:=r.un;lia
noncomputable def Bw:TA:=λ_ H Q=>Q [] H
noncomputable def yM (ta:TE) (tr:TA):TA:=λσ H Q=>ta σ H λx H1=>tr σ H1 λxs H2=>Q (x::xs) H2
section
variable {X:Cx}{e:Expr}{es:List Expr}{te:TE}{t:TA}{pos:Pos}
theorem Ab:PA X [] Bw:=λ_ _ _ _ H Q I h=>Calls.spliced_nil ⟨[],H,I,.nil,h⟩
theorem wT (ha:PE X e te) (hr:PA X es t) (hs:starEach (e::es) X.env=(false,eval e X.env)::starEach es X.env:=by rfl):PA X (e::es) (yM te t):=by
 intro pos pins s σ H Q I h
 rw [hs]
 show wpAny _ _ (spliced ((false,eval e X.env)::backTo pos (starEach es X.env))) _ _ s
 refine Calls.spliced_cons (thn (ha pins s σ H _ I h) λu s1 ⟨x,H1,I1,r1,q1⟩=>?_)
 exact thn (hr pos pins s1 σ H1 _ I1 q1) λus s2 ⟨xs,H2,I2,r2,q2⟩=>⟨x::xs,H2,I2,.cons r1 r2,q2⟩
noncomputable def BK (t:TA):TE:=λσ H Q=>t σ H λxs H1=>xs.length<=sizeLine/\∀ p,H1 p=none->Q (.ref p) (upd H1 p (.tup xs))
noncomputable def BN (t:TA):TE:=λσ H Q=>t σ H λxs H1=>xs.length<=sizeLine/\∀ p,H1 p=none->Q (.ref p) (upd H1 p (.lst xs))
theorem yQ {x1} (h:PA X es t):PE X (.Tuple es x1 pos) (BK t):=by
 intro pins s σ H Q I hq
 refine wpAny_Tuple_spliced (thn (h pos pins s σ H _ I hq) λus s1 ⟨xs,H1,I1,r,z,q⟩=>⟨by rw [<-r.length];exact z,?_⟩)
 have hf:H1 s1.heap.objs.size=none:=I1.hok.fresh (Nat.le_refl _)
 refine⟨.ref s1.heap.objs.size,upd H1 s1.heap.objs.size (.tup xs),I1.laid (t':=s1.toks) (λb u e=>Heap.get?_push_of_some _ e) (Nat.le_refl _) ?_,rfl,q _ hf⟩
 exact⟨z,us,r,dE.new _ _⟩
theorem y3 (h:PA X es t):PE X (.List es pos) (BN t):=by
 intro pins s σ H Q I hq
 refine wpAny_List_spliced (thn (h pos pins s σ H _ I hq) λus s1 ⟨xs,H1,I1,r,z,q⟩=>⟨by rw [<-r.length];exact z,?_⟩)
 have hf:H1 s1.heap.objs.size=none:=I1.hok.fresh (Nat.le_refl _)
 refine⟨.ref s1.heap.objs.size,upd H1 s1.heap.objs.size (.lst xs),I1.laid (t':=s1.toks) (λb u e=>Heap.get?_push_of_some _ e) (Nat.le_refl _) ?_,rfl,q _ hf⟩
 exact⟨z,us,0,r,Heap.get?_push_size _ rfl⟩
end
abbrev Sp:=List V->Hp->VK->XK->Prop
abbrev CXT:=List Env->Hp->Shared->XK->Value->Shared->Prop
structure wS (P:Program) (w:World) (K:PySem.W.Frag) (mg:Str->Option Value) (base:Heap) (A:Around) (outer:List Env) (s:Shared) (H:Hp):Prop where
 frames:A.frames=some outer
 mod:Mod K mg base
 bs:∀ b o,base.get? b=some o->s.heap.get? b=some o/\H b=none
 bsz:base.objs.size<=s.heap.objs.size
 funs:s.heap.FunFrames base outer
 frf:∀ b ∈ frs outer,H b=none
 hok:HOk P w H s.heap
 bare:AllBare s.gens
noncomputable def CE (outer:List Env) (P:Program) (w:World) (H:Hp) (s:Shared) (Q:VK) (u:Value) (s':Shared):Prop:=
 ∃ v H',s'.os=s.os/\AllBare s'.gens/\Un (frs outer) [] H H' s.heap s'.heap/\HOk P w H' s'.heap/\aW v u/\Q v H'
noncomputable def CR (CX:CXT) (outer:List Env) (P:Program) (w:World) (H:Hp) (s:Shared) (Q:VK) (E:XK) (r:Result) (s':Shared):Prop:=
 match r with
 | .ok (.ret u)=>CE outer P w H s Q u s'
 | .ok _=>False
 | .error e=>CX outer H s E e s'
structure aU (P:Program) (w:World) (K:PySem.W.Frag) (mg:Str->Option Value) (base:Heap) (CX:CXT) (k:Nat) (f:Addr) (fd:FuncData) (ps:List Str) (sp:Sp):Prop where
 len:∀ vs H Q E,sp vs H Q E->vs.length=ps.length
 run:∀ (A:Around) (outer:List Env) (s:Shared) (H:Hp) (args:Args) (us:List Value) (vs:List V) (Q:VK) (E:XK),bo k A->wS P w K mg base A outer s H->BindsTo s fd args (ps.zip us)->aT vs us->sp vs H Q E->
  codeAny (model P w) A (.call (.ref f) args) (CR CX outer P w H s Q E) s
theorem aU.mono {P:Program}{w:World}{K:PySem.W.Frag}{mg:Str->Option Value}{base:Heap}{CX:CXT}{j k:Nat}{f:Addr}{fd:FuncData}{ps:List Str}{sp:Sp} (F:aU P w K mg base CX j f fd ps sp) (h:j<=k) :
  aU P w K mg base CX k f fd ps sp:=⟨F.len,λA outer s H args us vs Q E hr=>F.run A outer s H args us vs Q E (hr.mono h)⟩
section
variable {X:Cx}{pins:List (Addr×Obj)}{σ:St}{H:Hp}{s s':Shared}
theorem Inv.env0 (I:Inv X pins σ H s):wS X.prog X.w X.K X.mg X.base X.A X.stack s H:=
 ⟨I.ok.frames,I.ok.mod,I.bs,Nat.le_trans I.ok.bsz I.sz,I.stack,I.stkFree,I.hok,I.bare⟩
theorem Inv.after {Q:VK}{u:Value} (I:Inv X pins σ H s) (h:CE X.stack X.prog X.w H s Q u s'):EP X pins σ Q u s':=by
 obtain⟨v,H',os,bare,un,hok,r,q⟩:=h
 obtain⟨hh,g,d,t,os'⟩:=s'
 obtain rfl:os'=s.os:=os
 exact⟨v,H',I.call (h':=hh) (g':=g) (d':=d) (t':=t) (ch:=[]) un hok bare (λb z=>absurd z (by simp)),r,q⟩
end
noncomputable def By (sp:Sp) (dvs:List V) (E:XK) (t:TA):TE:=λσ H Q=>t σ H λvs H1=>sp (vs++dvs) H1 Q E
noncomputable def bC (K:PySem.W.Frag) (fd:FuncData) (ps:List Str) (ds:List Value):Prop:=
 ∀ (s:Shared) (us:List Value),K.In s.heap->(us++ds).length=ps.length->BindsTo s fd ⟨us,[]⟩ (ps.zip (us++ds))
theorem bC.all {K:PySem.W.Frag}{fd:FuncData}{ps:List Str} (h:∀ us:List Value,us.length=ps.length->bindArgs fd ⟨us,[]⟩=pure (ps.zip us)):bC K fd ps []:=λs us _ hl=>by
 rw [List.append_nil] at hl ⊢
 exact .of_eq (h us hl)
noncomputable def rP (CX:CXT) (X:Cx) (E:XK):Prop:=∀ (pins:List (Addr×Obj)) (σ:St) (H:Hp) (s:Shared) (e:Value) (s':Shared),Inv X pins σ H s->CX X.stack H s E e s'->X.xe e s'
section
variable {X:Cx}{CX:CXT}{k:Nat}{f C:Addr}{fd:FuncData}{ps:List Str}{sp:Sp}{dvs:List V}{ds:List Value}{E:XK}{x m:Str}{p pos apos:Pos}{e o:Expr}{es:List Expr}{ta:TE}{t:TA}
theorem zw {pins:List (Addr×Obj)}{σ:St}{H:Hp}{s:Shared}{Q:VK}{us:List Value}{vs:List V} (F:aU X.prog X.w X.K X.mg X.base CX k f fd ps sp) (hr:bo k X.A) (hb:bC X.K fd ps ds) (hd:aT dvs ds) (hx:rP CX X E)
  (I:Inv X pins σ H s) (r:aT vs us) (h:sp (vs++dvs) H Q E):wpAny (model X.prog X.w) X.A (call (.ref f) us) (EP X pins σ Q) X.xe s:=by
 have r2:aT (vs++dvs) (us++ds):=r.append hd
 have hl:(us++ds).length=ps.length:=by rw [<-r2.length];exact F.len _ _ _ _ h
 refine wpAny_call (codeAny_mono (F.run X.A X.stack s H ⟨us,[]⟩ (us++ds) (vs++dvs) Q E hr I.env0 (hb s us I.kIn hl) r2 h) λr s' hq=>?_)
 cases r with
 | error e=>exact hx pins σ H s e s' I hq
 | ok fl=>
  cases fl with
  | ret u=>exact I.after hq
  | next=>exact False.elim hq
  | brk=>exact False.elim hq
  | cont=>exact False.elim hq
theorem xi (F:aU X.prog X.w X.K X.mg X.base CX k f fd ps sp) (hr:bo k X.A) (hg:Gl X x) (hm:X.mg x=some (.ref f)) (hk:PySem.W.keepIn X.K (.ref f)=true) (hb:bC X.K fd ps ds) (hd:aT dvs ds) (hx:rP CX X E)
  (ha:PA X (e::es) t) (hdb:(x==("__debug__" : Str))=false:=by decide) (he:starEach (e::es) X.env=(false,eval e X.env)::starEach es X.env:=by rfl) (hpl:(backTo pos (starEach es X.env)).any (·.1)=false:=by rfl) :
  PE X (.Call (.Name x p) (e::es) [] pos) (By sp dvs E t):=by
 intro pins s σ H Q I h
 refine wpAny_Call_Name_kw (xE I hg hm ?_ hdb)
 refine PySem.W.callWith_K (h₀:=X.base) I.ok.mod.kin hk (thn (ha pos pins s σ H _ I h) λus s1 ⟨vs,H1,I1,r,q⟩=>⟨I1.kIn,?_⟩) he hpl
 exact zw F hr hb hd hx I1 r q
end
noncomputable def PK (X:Cx) (kws:List Keyword) (t:TA):Prop:=
 ∀ (pos:Pos) (pins:List (Addr×Obj)) (s:Shared) (σ:St) (H:Hp) (Q:List V->Hp->Prop),Inv X pins σ H s->t σ H Q->wpAny (model X.prog X.w) X.A (evalAll ((backToKw pos (keywordEach kws X.env)).map (·.2))) (AP X pins σ Q) X.xe s
section
variable {X:Cx}{CX:CXT}{k:Nat}{f C:Addr}{fd:FuncData}{ps ks:List Str}{sp:Sp}{E:XK}{x m:Str}{p pos apos kpos:Pos}{e o:Expr}{es:List Expr}{kws:List Keyword}{te ta:TE}{t tk:TA}{nm:Option Str}
theorem y7:PK X [] Bw:=λ_ _ _ _ H Q I h=>wpAny_evalAll_nil ⟨[],H,I,.nil,h⟩
theorem yq (ha:PE X e te) (hr:PK X kws t):PK X (⟨nm,e,kpos⟩::kws) (yM te t):=by
 intro pos pins s σ H Q I h
 show wpAny _ _ (evalAll ((do let v <-eval e X.env;standAt pos;pure v)::(backToKw pos (keywordEach kws X.env)).map (·.2))) _ _ s
 refine wpAny_evalAll_cons (wpAny_bind (thn (ha pins s σ H _ I h) λu s1 ⟨x,H1,I1,r1,q1⟩=>wpAny_bind (wpAny_standAt (wpAny_pure ?_))))
 exact thn (hr pos pins s1 σ H1 _ I1 q1) λus s2 ⟨xs,H2,I2,r2,q2⟩=>⟨x::xs,H2,I2,.cons r1 r2,q2⟩
variable {g:List Value->List Value->List Value}{gV:List V->List V->List V}
end
structure aH (N P:List Str) (sc:Scope):Prop where
 kind:sc.kind=.function
 co:sc.isCoroutine=false
 gen:sc.isGenerator=false
 nd:N.Nodup
 pre:N.take P.length=P
 par:∀ x ∈ P,sc.names.lookup x=some .local\/sc.names.lookup x=some .cell
 nofree:∀ y ∈ sc.names,y.2≠.free
theorem nM {kindOf:Str->Option NameKind}{x:Str}:∀ {binds:List (Str×Value)}{m:Str->Option Value},(∀ v,(x,v) ∉ binds)->bindL kindOf binds m x=m x
 | [],_,_=>rfl
 | (n,v)::r,m,h=>by
  unfold bindL
  rw [nM λw hw=>h w (List.mem_cons_of_mem _ hw)]
  split
  ·have:x≠n:=by rintro rfl;exact h v List.mem_cons_self
   simp [this]
  ·rfl
theorem np {kindOf:Str->Option NameKind}{x:Str}:∀ {binds:List (Str×Value)}{m:Str->Option Value},(∀ v,(x,v) ∉ binds)->bindC kindOf binds m x=m x
 | [],_,_=>rfl
 | (n,v)::r,m,h=>by
  unfold bindC
  rw [np λw hw=>h w (List.mem_cons_of_mem _ hw)]
  split
  ·rfl
  ·have:x≠n:=by rintro rfl;exact h v List.mem_cons_self
   simp [this]
theorem nH {kindOf:Str->Option NameKind}{x:Str}{v:Value}:∀ {P:List Str}{vs:List Value}{i:Nat}{m:Str->Option Value},P.Nodup->P[i]?=some x->vs[i]?=some v->kindOf x=some .local->
  bindL kindOf (P.zip vs) m x=some v
 | [],_,_,_,_,h,_,_=>by simp at h
 | _::_,[],_,_,_,_,h,_=>by simp at h
 | p::P,w::vs,0,m,nd,h1,h2,hk=>by
  simp at h1 h2;subst h1;subst h2
  show bindL kindOf ((p,w)::P.zip vs) m p=_
  unfold bindL
  rw [nM λv hv=>(List.nodup_cons.mp nd).1 (List.of_mem_zip hv).1,if_pos hk]
  simp
 | p::P,w::vs,i+1,m,nd,h1,h2,hk=>by
  show bindL kindOf ((p,w)::P.zip vs) m x=_
  unfold bindL
  exact nH (i:=i) (List.nodup_cons.mp nd).2 (by simpa using h1) (by simpa using h2) hk
theorem nJ {kindOf:Str->Option NameKind}{x:Str}{v:Value}:∀ {P:List Str}{vs:List Value}{i:Nat}{m:Str->Option Value},P.Nodup->P[i]?=some x->vs[i]?=some v->kindOf x≠some .local->
  bindC kindOf (P.zip vs) m x=some v
 | [],_,_,_,_,h,_,_=>by simp at h
 | _::_,[],_,_,_,_,h,_=>by simp at h
 | p::P,w::vs,0,m,nd,h1,h2,hk=>by
  simp at h1 h2;subst h1;subst h2
  show bindC kindOf ((p,w)::P.zip vs) m p=_
  unfold bindC
  rw [np λv hv=>(List.nodup_cons.mp nd).1 (List.of_mem_zip hv).1,if_neg hk]
  simp
 | p::P,w::vs,i+1,m,nd,h1,h2,hk=>by
  show bindC kindOf ((p,w)::P.zip vs) m x=_
  unfold bindC
  exact nJ (i:=i) (List.nodup_cons.mp nd).2 (by simpa using h1) (by simpa using h2) hk
noncomputable def start (N:List Str) (vs:List V):St:=vs.map some++List.replicate (N.length - vs.length) none
noncomputable def cy (CX:CXT) (P:Program) (w:World) (K:PySem.W.Frag) (mg:Str->Option Value) (base:Heap) (N:List Str) (qual:Str) (scope:Scope) (f:Addr) (cd:Value) (A:Around) (outer:List Env) (s:Shared) (H:Hp) (E:XK):Cx where
 prog:=P
 w:=w
 K:=K
 mg:=mg
 base:=base
 A:=A.deeper (envOfC qual scope s.heap.objs.size f cd)
 N:=N
 s₀:=s
 H₀:=H
 env:=envOfC qual scope s.heap.objs.size f cd
 outer:=outer
 stack:=envOfC qual scope s.heap.objs.size f cd::outer
 ex:=[]
 calm:=true
 fn:=λ_=>true
 pn:=[]
 xe:=λe s'=>wpAny (model P w) (A.deeper (envOfC qual scope s.heap.objs.size f cd)) (leaving (envOfC qual scope s.heap.objs.size f cd) e) (λ_ s''=>CX outer H s E e s'') (λe' s''=>CX outer H s E e' s'') s'
theorem qc {sc:Scope}{n:Nat}{x:Str} (h:sc.names.lookup x=some .cell):∃ c,(cellsFrom n sc.names []).lookup x=some c:=by
 have q:=PySem.W.cellsFrom_some sc.names n [] (.inl h)
 exact Option.isSome_iff_exists.mp q
theorem t0 {CX:CXT}{P:Program}{w:World}{K:PySem.W.Frag}{mg:Str->Option Value}{base:Heap}{N ps:List Str}{qual:Str}{scope:Scope}{f:Addr}{cd:Value}{A:Around}{outer:List Env}{s s1:Shared}{H:Hp}{E:XK}{us:List Value}{vs:List V}
  (S:aH N ps scope) (hd:A.handled=none) (e0:wS P w K mg base A outer s H) (hl:vs.length=ps.length) (r:aT vs us)
  (x:InCallC s s.heap.objs.size (bindL (envOfC qual scope s.heap.objs.size f cd).kindOf (ps.zip us) λ_=>none) (cellsFrom (s.heap.objs.size+1) scope.names []) (bindC (envOfC qual scope s.heap.objs.size f cd).kindOf (ps.zip us) λ_=>none) s1) :
  Inv (cy CX P w K mg base N qual scope f cd A outer s H E) [] (start N vs) H s1:=by
 have hpl:ps.length<=N.length:=by have:=congrArg List.length S.pre;rw [List.length_take] at this;lia
 obtain⟨h1,tk,rfl,hk⟩:=x.done
 have noA:∀ b:Addr,b ∉ (cy CX P w K mg base N qual scope f cd A outer s H E).ex:=λb z=>absurd (show b ∈ ([]:List Addr) from z) (by simp)
 refine⟨⟨e0.mod,S.kind,rfl,rfl,Nat.le_refl _,λy z c h1 h2=>?_,λy hy=>?_,λy c _ h=>?_,λ_=>hd,Around.frames_deeper e0.frames,.inr ⟨rfl,rfl⟩,λb z=>absurd z (noA b),e0.bs,e0.bsz,λb _ _=>noA b,λb z=>absurd z (noA b),e0.funs,e0.frf⟩,
  rfl,e0.bare,Un.kept hk,⟨_,x.toInCall.ns,λi y v h1 h2 h3=>?_⟩,λy c h=>⟨_,x.cell y c h⟩,e0.hok.fresh (Nat.le_refl _),λy c h=>?_,λp hp=>absurd (show p ∈ ([]:List (Addr×Obj)) from hp) (by simp),e0.hok.kept hk,?_⟩
 ·exact name_of_addr x.apart (PySem.mem_of_lookup h1) (PySem.mem_of_lookup h2)
 ·have hy:scope.names.lookup y=some .cell\/scope.names.lookup y=some .free:=hy
  rcases hy with hy | hy
  ·exact qc hy
  ·exact absurd rfl (S.nofree _ (PySem.mem_of_lookup hy))
 ·exact Nat.le_of_lt (x.above y c (PySem.mem_of_lookup h))
 ·have hi:i < vs.length:=by
   unfold start at h2
   by_cases hi:i < vs.length
   ·exact hi
   ·rw [List.getElem?_append_right (by simpa using hi)] at h2
    rw [List.getElem?_replicate] at h2
    split at h2<;>cases h2
  have ha:vs[i]?=some v:=by
   unfold start at h2
   rw [List.getElem?_append_left (by simpa using hi),List.getElem?_map] at h2
   cases e:vs[i]? with
   | none=>rw [e] at h2;cases h2
   | some a=>rw [e] at h2;cases h2;rfl
  obtain⟨u,hu,rv⟩:=r.get ha
  have hp:ps[i]?=some y:=by
   rw [<-S.pre,List.getElem?_take_of_lt (by lia)];exact h1
  have ndP:ps.Nodup:=by rw [<-S.pre];exact S.nd.sublist (List.take_sublist _ _)
  refine⟨u,rv,?_⟩
  rcases S.par y (List.mem_of_getElem? hp) with k | k
  ·exact .inl ⟨k,nH ndP hp hu k⟩
  ·obtain⟨c,e⟩:=qc (n:=s.heap.objs.size+1) k
   refine .inr ⟨.inl k,c,e,?_⟩
   have q:=x.cell y c e
   rw [nJ ndP hp hu (by show scope.names.lookup y≠_;rw [k];decide)] at q
   exact q
 ·exact e0.hok.fresh (Nat.le_of_lt (x.above y c (PySem.mem_of_lookup h)))
 ·unfold start
  show _=N.length
  rw [List.length_append,List.length_map,List.length_replicate]
  lia
theorem BG {CX:CXT}{P:Program}{w:World}{K:PySem.W.Frag}{mg:Str->Option Value}{base:Heap}{k:Nat}{f:Addr}{name qual:Str}{params:Arguments}{body:List Stmt}{scope:Scope}{dV kV doc pm cdv ct oc:Value}{an od:Option Addr}
  {osl:Array (Option Value)}{N ps:List Str}{sp:Sp} (lk:K.lookup f=some ⟨oc,od,.func (PySem.W.fnOf name qual params body scope dV kV doc pm an cdv ct),osl⟩) (hcd:PySem.W.codeIn K cdv qual=true) (S:aH N ps scope)
  (len:∀ vs H Q E,sp vs H Q E->vs.length=ps.length)
  (hbody:∀ (A:Around) (outer:List Env) (s:Shared) (H:Hp) (vs:List V) (Q:VK) (E:XK),bo k (A.deeper (envOfC qual scope s.heap.objs.size f cdv))->sp vs H Q E->
    ∃ t,PSs (cy CX P w K mg base N qual scope f cdv A outer s H E) body t/\t { nx:=λ_ H'=>Q .non H',rt:=Q } (start N vs) H) :
  aU P w K mg base CX (k+1) f (PySem.W.fnOf name qual params body scope dV kV doc pm an cdv ct) ps sp:=by
 refine⟨len,λA outer s H args us vs Q E hr e0 hb r hsp=>?_⟩
 have hl:=len _ _ _ _ hsp
 have KX:K.In s.heap:=e0.mod.kin.keeps λb o e=>(e0.bs b o e).1
 have lim:s.heap.NoLimit:=e0.mod.nolimit.keeps λb o e=>(e0.bs b o e).1
 have hkind:∀ y ∈ ps.zip us,scope.names.lookup y.1=some .local\/(scope.names.lookup y.1=some .cell/\((cellsFrom (s.heap.objs.size+1) scope.names []).lookup y.1).isSome=true):=λ⟨n,v⟩ hy=>by
  rcases S.par n (List.of_mem_zip hy).1 with q | q
  ·exact .inl q
  ·exact .inr ⟨q,PySem.W.cellsFrom_some _ _ _ (.inl q)⟩
 refine codeAny_call_function hr.depth (KX _ _ lk) rfl S.co S.gen rfl (PySem.W.codeRec_of KX hcd) (hb _ _ _ _ ?_)
 refine wpAny_newFunctionEnv_cells S.kind hkind λenv he s1 x=>?_
 subst he
 refine⟨lim.keeps x.toInCall.keep,codeAny_func ?_⟩
 obtain⟨t,ht,hq⟩:=hbody A outer s H vs Q E (hr.deeper _) hsp
 have I:Inv (cy CX P w K mg base N qual scope f cdv A outer s H E) [] (start N vs) H s1:=t0 S hr.hd e0 hl r x
 refine wpAny_mono (ht [] s1 (start N vs) H _ I hq) (λfl s' hs=>?_) λe s' hs=>hs
 have fin:∀ {σ':St}{H':Hp}{v:V}{u:Value},Inv (cy CX P w K mg base N qual scope f cdv A outer s H E) [] σ' H' s'->aW v u->Q v H'->CE outer P w H s Q u s':=
  λ{σ' H' v u} J rv q=>⟨v,H',J.os,J.bare,J.base,J.hok,rv,q⟩
 cases fl with
 | ret u=>
  obtain⟨v,σ',H',J,rv,q⟩:=hs
  exact fin J rv q
 | next=>
  obtain⟨σ',H',J,q⟩:=hs
  exact fin (v:=V.non) (u:=Value.none) J rfl q
 | brk=>
  obtain⟨_,_,_,q⟩:=hs
  exact False.elim q
 | cont=>
  obtain⟨_,_,_,q⟩:=hs
  exact False.elim q
end L2
namespace L2
open PySem PySem.Spec PyProof.Rows
section
variable {X:Cx}{x:Str}{p pos:Pos}{e:Expr}{es:List Expr}{t:TA}{id T:String}{r:List V->Hp->VK->Prop}
noncomputable def tCB (r:List V->Hp->VK->Prop) (t:TA):TE:=λσ H Q=>t σ H λvs H1=>r vs H1 Q
theorem lM (hc:dk X (.builtin id) r) (hg:Gl X x) (hm:X.mg x=none) (hv:bootBuiltins x=some (.builtin id)) (ha:PA X (e::es) t) (hn:x≠"__name__":=by decide) (hdb:(x==("__debug__" : Str))=false:=by decide)
  (he:starEach (e::es) X.env=(false,eval e X.env)::starEach es X.env:=by rfl) (hpl:(backTo pos (starEach es X.env)).any (·.1)=false:=by rfl):PE X (.Call (.Name x p) (e::es) [] pos) (tCB r t):=by
 intro pins s σ H Q I h
 refine wpAny_Call_Name_kw (h8 I hg hm hv ?_ hn hdb)
 exact PyProof.Rows.callWith_builtin1 (thn (ha pos pins s σ H _ I h) λus s1 ⟨vs,H1,I1,r1,q1⟩=>hc pins s1 σ H1 vs us Q I1 r1 q1) he hpl
theorem n5 (hc:dk X (.type T) r) (hg:Gl X x) (hm:X.mg x=none) (hv:bootBuiltins x=some (.type T)) (ha:PA X (e::es) t) (hn:x≠"__name__":=by decide) (hdb:(x==("__debug__" : Str))=false:=by decide)
  (he:starEach (e::es) X.env=(false,eval e X.env)::starEach es X.env:=by rfl) (hpl:(backTo pos (starEach es X.env)).any (·.1)=false:=by rfl):PE X (.Call (.Name x p) (e::es) [] pos) (tCB r t):=by
 intro pins s σ H Q I h
 refine wpAny_Call_Name_kw (h8 I hg hm hv ?_ hn hdb)
 exact PyProof.Rows.callWith_type1 (thn (ha pos pins s σ H _ I h) λus s1 ⟨vs,H1,I1,r1,q1⟩=>hc pins s1 σ H1 vs us Q I1 r1 q1) he hpl
end
end L2
namespace HT
open PySem PyProof.Rows
noncomputable def lexLt:List Int->List Int->Bool
 | [],[]=>false
 | [],_::_=>true
 | _::_,[]=>false
 | x::xs,y::ys=>if x=y then lexLt xs ys else decide (x < y)
theorem lexLt_cons (x y:Int) (xs ys:List Int):lexLt (x::xs) (y::ys)=if x=y then lexLt xs ys else decide (x < y):=rfl
theorem m4:lexLt [] []=false:=rfl
theorem mh (y:Int) (ys:List Int):lexLt [] (y::ys)=true:=rfl
theorem lW (x:Int) (xs:List Int):lexLt (x::xs) []=false:=rfl
theorem wm (A:Around) (s:Shared) (a:Int) (t:Tok) (c:Int) (u:Tok):∃ e,SeqAt.EqAt A s (.int a t) (.int c u) e/\(e=true↔a=c):=
 ⟨(a==c),SeqAt.EqAt.int_int a t c u,by simp⟩
theorem wn (A:Around) (s:Shared) (a:Int) (t:Tok) (c:Int) (u:Tok) (prog:Program) (w:World) (E:Value->Shared->Prop) (Q:Value->Shared->Prop) (h:Q (.bool (decide (a < c))) s) :
  wpAny (model prog w) A (richCompare .Lt (.int a t) (.int c u)) Q E s:=
 (PyProof.Rows.lt_int h:wpAny (model prog w) A (compareOp .Lt (.int a t) (.int c u)) Q E s)
section
open PySem.SeqAt
open PySem.AutoSeq1 (wpAny_loadPart')
open PySem.MeetsSeq PySem.MeetsSeq2 PySem.MeetsSeq3
theorem mR (l b:Addr) (items items2:Array Value) (n n2:Nat) (dd dd2:Option Addr) (sl sl2:Array (Option Value)) (ns ms:List Int) (hi:IntsAre items.toList ns) (hj:IntsAre items2.toList ms) :
  Meets (Builtin.«tuple.__lt__» ⟨[.ref l,.ref b],[]⟩)
   (λ_ R s=>s.heap.get? l=some { cls:=.type "tuple",dict:=dd,data:=.seq items n,slots:=sl }/\s.heap.get? b=some { cls:=.type "tuple",dict:=dd2,data:=.seq items2 n2,slots:=sl2 }/\
     R (.ok (.ret (.bool (lexLt ns ms)))) s):=
 .of_wp λprog w A R s h=>by
  obtain⟨hp,g,d,tk,os⟩:=s;obtain⟨hl,hb,h⟩:=h
  have f2:=AutoSeq1.sub_tuple_tuple
  have z1:items.size=ns.length:=by rw [<-hi.length];simp
  have z2:items2.size=ms.length:=by rw [<-hj.length];simp
  wp_walk using wpAny_loadPart' hl,wpAny_loadPart' hb,wpAny_forIn_list _ (λrest b s'=>b.1=none/\s'=⟨hp,g,d,tk,os⟩/\∃ (vs ws:List Value) (ns' ms':List Int),rest=vs.zip ws/\
   IntsAre vs ns'/\IntsAre ws ms'/\ns'.length+items2.size=ms'.length+items.size/\R (.ok (.ret (.bool (lexLt ns' ms')))) ⟨hp,g,d,tk,os⟩) _
  case turn=>
   rintro⟨y,x⟩ rest b s' ⟨hb',rfl,vs,ws,ns',ms',hz,hvi,hwi,hlen,hR⟩
   cases hvi with
   | nil=>rw [List.zip_nil_left] at hz;cases hz
   | cons a t hvi'=>
    cases hwi with
    | nil=>rw [List.zip_nil_right] at hz;cases hz
    | cons c u hwi'=>
     rw [List.zip_cons_cons] at hz
     injection hz with hyx hrest
     injection hyx with hy hx
     subst hy hx
     rw [lexLt_cons] at hR
     simp only [List.length_cons] at hlen
     obtain⟨e,he,hiff⟩:=wm A.in1 ⟨hp,g,d,tk,os⟩ a t c u
     refine wpAny_bind (he prog w _ _ ?_)
     cases e with
     | true=>
      rw [if_pos (hiff.mp rfl)] at hR
      wp_walk
      exact⟨rfl,rfl,_,_,_,_,hrest,hvi',hwi',by lia,hR⟩
     | false=>
      rw [if_neg (λq=>absurd (hiff.mpr q) Bool.false_ne_true)] at hR
      have hri:=wn A.in1 ⟨hp,g,d,tk,os⟩ a t c u prog w
      wp_walk using hri
      exact⟨_,rfl,by simpa using hR⟩
  case fin=>
   rintro⟨b1,b2⟩ s' ⟨hb',rfl,vs,ws,ns',ms',hz,hvi,hwi,hlen,hR⟩
   simp only at hb'
   subst hb'
   have hv:lexLt ns' ms'=decide (items.size < items2.size):=by
    cases hvi with
    | nil=>
     cases hwi with
     | nil=>
      simp only [List.length_nil] at hlen
      rw [m4]
      exact (decide_eq_false (by lia)).symm
     | cons c u hw=>
      simp only [List.length_nil,List.length_cons] at hlen
      rw [mh]
      exact (decide_eq_true (by lia)).symm
    | cons a t hv=>
     cases hwi with
     | nil=>
      simp only [List.length_nil,List.length_cons] at hlen
      rw [lW]
      exact (decide_eq_false (by lia)).symm
     | cons c u hw=>
      rw [List.zip_cons_cons] at hz
      cases hz
   rw [hv] at hR
   wp_walk
   exact⟨_,rfl,by simpa [Builtin.Tuple.tupleCompareSizes] using hR⟩
  case h=>
   exact⟨rfl,rfl,items.toList,items2.toList,ns,ms,rfl,hi,hj,by lia,h⟩
end
section
variable {prog:Program}{w:World}{A:Around}{E:Value->Shared->Prop}{s:Shared}
theorem lt_tupInts {l b:Addr}{items items2:Array Value}{ns ms:List Int}{Q:Value->Shared->Prop} (hl:IsTup s.heap l items) (hb:IsTup s.heap b items2) (hi:IntsAre items.toList ns) (hj:IntsAre items2.toList ms)
  (hu:A.units < cLine) (h:Q (.bool (lexLt ns ms)) s):wpAny (model prog w) A (compareOp .Lt (.ref l) (.ref b)) Q E s:=by
 obtain⟨⟨cls,dd,data,sl⟩,ho,hc,n,hd⟩:=id hl
 obtain⟨⟨cls2,dd2,data2,sl2⟩,ho2,hc2,n2,hd2⟩:=id hb
 simp only at hc hd hc2 hd2
 subst hc hd hc2 hd2
 exact richCompare_meets_room (op:=.Lt) ⟨_,ho,rfl⟩ ⟨_,ho2,rfl⟩ PySem.F.slot_tuple_lt PySem.F.entry_tuple_lt (PySem.F.args_tuple_lt_2 _ _) (mR l b items items2 n n2 dd dd2 sl sl2 ns ms hi hj)
  ⟨ho,ho2,show Value.bool (lexLt ns ms)≠Value.notImplemented/\Q (.bool (lexLt ns ms)) s from ⟨(λx=>nomatch x),h⟩⟩ hu
theorem cat_tup {t b:Addr}{vs ws:List Value}{Q:Value->Shared->Prop} (ht:IsTup s.heap t vs.toArray) (hb:IsTup s.heap b ws.toArray) (hv:vs≠[])
  (h1:ws=[]->Q (.ref t) s) (h2:ws≠[]->Q (.ref s.heap.objs.size) { s with heap:=s.heap.push { cls:=.type "tuple",data:=.seq (vs++ws).toArray } })
  (hsz:vs.length+ws.length<=sizeLine):wpAny (model prog w) A (binaryOp .Add (.ref t) (.ref b)) Q E s:=by
 obtain⟨⟨cls,dd,data,sl⟩,ho,hc,n,hd⟩:=id ht
 obtain⟨⟨cls2,dd2,data2,sl2⟩,ho2,hc2,n2,hd2⟩:=id hb
 simp only at hc hd hc2 hd2
 subst hc hd hc2 hd2
 have e:vs.toArray++ws.toArray=(vs++ws).toArray:=by simp
 by_cases hw:ws=[]
 ·exact concat_meets ⟨_,ho,rfl⟩ ⟨_,ho2,rfl⟩ noFill_tuple_add seq_tuple_add PySem.F.slot_tuple_add PySem.F.entry_tuple_add (PySem.F.args_tuple_add_2 _ _)
   (tuple_addW1 t b vs.toArray ws.toArray n n2 dd dd2 sl sl2 (by simpa using hv) (by simp [hw])) ⟨ho,ho2,h1 hw⟩
 ·refine concat_meets ⟨_,ho,rfl⟩ ⟨_,ho2,rfl⟩ noFill_tuple_add seq_tuple_add PySem.F.slot_tuple_add PySem.F.entry_tuple_add (PySem.F.args_tuple_add_2 _ _)
   (tuple_addW2 t b vs.toArray ws.toArray n n2 dd dd2 sl sl2 (by simpa using hv) (by simpa using hw) (by rw [List.size_toArray,List.size_toArray];exact hsz)) ⟨ho,ho2,?_⟩
  rw [e]
  exact h2 hw
noncomputable def sIx (n d:Nat):Option Int->Nat
 | none=>d
 | some v=>if v < 0 then (v+(n:Int)).toNat else min v.toNat n
theorem sIx_none (n d:Nat):sIx n d none=d:=rfl
theorem sIx_nat (n d k:Nat):sIx n d (some (k:Int))=min k n:=by
 show (if (k:Int) < 0 then ((k:Int)+(n:Int)).toNat else min (k:Int).toNat n)=min k n
 rw [if_neg (by lia),Int.toNat_natCast]
theorem zq (n d:Nat) (hd:d<=n) (o:Option Int):sIx n d o<=n:=by
 cases o with
 | none=>exact hd
 | some v=>
  show (if v < 0 then (v+(n:Int)).toNat else min v.toNat n)<=n
  by_cases hv:v < 0
  ·rw [if_pos hv];lia
  ·rw [if_neg hv];exact Nat.min_le_right _ _
theorem sP (v:Int) (n d:Nat):(if v < 0 then max (v+(n:Int)) 0 else min v (n:Int))=((sIx n d (some v):Nat):Int):=by
 show (if v < 0 then max (v+(n:Int)) 0 else min v (n:Int))=(((if v < 0 then (v+(n:Int)).toNat else min v.toNat n):Nat):Int)
 by_cases hv:v < 0
 ·simp only [if_pos hv];lia
 ·simp only [if_neg hv];lia
theorem rj (lo hi:Option Int) (n:Nat):Builtin.Slice.sliceAdjust lo hi 1 (n:Int)=(((sIx n 0 lo:Nat):Int),((sIx n n hi:Nat):Int)):=by
 have h1:¬ ((1:Int) < 0):=by lia
 unfold Builtin.Slice.sliceAdjust
 simp only [h1,if_false]
 refine Prod.ext ?_ ?_
 ·cases lo with
  | none=>rfl
  | some v=>exact sP v n 0
 ·cases hi with
  | none=>rfl
  | some v=>exact sP v n n
theorem r8 (i j:Nat):Builtin.Slice.slicePlaces (i:Int) (j:Int) 1=j - i:=by
 unfold Builtin.Slice.slicePlaces
 have h1:(1:Int) > 0:=by lia
 simp only [h1,if_true,Int.ediv_one]
 split<;>lia
theorem mB {v:Value}{o:Option Int}{Q:Option Int->Shared->Prop} (p:IsPart v o) (h:Q o s):wpAny (model prog w) A (Builtin.Slice.slicePartIndex v) Q E s:=by
 cases p with
 | none=>exact slicePart_none h
 | int i t=>exact slicePart_int h
theorem gm {sl:Addr}{vl vu:Value}{lo hi:Option Int}{n:Nat}{Q:Int×Int×Nat->Shared->Prop} (hs:s.heap.IsSliceOf sl vl vu .none) (pl:IsPart vl lo) (pu:IsPart vu hi)
  (h:Q (((sIx n 0 lo:Nat):Int),1,sIx n n hi - sIx n 0 lo) s):wpAny (model prog w) A (Builtin.Slice.sliceApplied (.ref sl) (pure (n:Int))) Q E s:=by
 obtain⟨os,hos,hcs,hds⟩:=id hs
 unfold Builtin.Slice.sliceApplied Builtin.Slice.sliceFields
 refine wpAny_bind (wpAny_bind (wpAny_field hos hds (x:=vl) rfl (wpAny_bind (wpAny_field hos hds (x:=vu) rfl (wpAny_bind (wpAny_field hos hds (x:=.none) rfl (wpAny_pure ?_)))))))
 refine wpAny_bind (slicePart_none ?_)
 show wpAny _ _ (if ((1:Int)==0)=true then _ else _) _ _ s
 rw [if_neg (by decide)]
 refine wpAny_bind (mB pl (wpAny_bind (mB pu (wpAny_bind (wpAny_pure ?_)))))
 show wpAny _ _ (match Builtin.Slice.sliceAdjust lo hi 1 (n:Int) with | (lo,hi)=>pure (lo,(1:Int),Builtin.Slice.slicePlaces lo hi 1)) _ _ s
 rw [rj lo hi n]
 show wpAny _ _ (pure (((sIx n 0 lo:Nat):Int),(1:Int),Builtin.Slice.slicePlaces ((sIx n 0 lo:Nat):Int) ((sIx n n hi:Nat):Int) 1)) _ _ s
 rw [r8]
 exact wpAny_pure h
theorem wM (xs:Array Value) (i k:Nat):((List.range k).filterMap λ(m:Nat)=>xs[((i:Int)+(m:Int)*1).toNat]?).toArray=((xs.toList.drop i).take k).toArray:=by
 have e:(λ(m:Nat)=>xs[((i:Int)+(m:Int)*1).toNat]?)=λm=>xs[i+m]?:=by
  funext m
  have:((i:Int)+(m:Int)*1).toNat=i+m:=by lia
  rw [this]
 rw [e]
 have:=pick_run xs i k
 rw [List.filterMap_map] at this
 have e2:((λx=>xs[x]?) ∘ λx=>i+x)=λm=>xs[i+m]?:=rfl
 rw [e2] at this
 rw [this]
theorem getItem_tuple_cut {t sl:Addr}{items:Array Value}{vl vu:Value}{lo hi:Option Int}{Q:Value->Shared->Prop} (ht:IsTup s.heap t items) (hs:s.heap.IsSliceOf sl vl vu .none) (pl:IsPart vl lo) (pu:IsPart vu hi)
  (hw:¬ (sIx items.size 0 lo=0/\sIx items.size items.size hi=items.size))
  (h:Q (.ref s.heap.objs.size) { s with heap:=s.heap.push { cls:=.type "tuple",data:=.seq ((items.toList.drop (sIx items.size 0 lo)).take (sIx items.size items.size hi - sIx items.size 0 lo)).toArray } })
  (hsz:items.size<=sizeLine):wpAny (model prog w) A (getItem (.ref t) (.ref sl)) Q E s:=by
 have htake:sizeOk (.seq ((items.toList.drop (sIx items.size 0 lo)).take (sIx items.size items.size hi - sIx items.size 0 lo)).toArray):=by
  show ((items.toList.drop (sIx items.size 0 lo)).take (sIx items.size items.size hi - sIx items.size 0 lo)).toArray.size<=sizeLine
  rw [List.size_toArray,List.length_take,List.length_drop,Array.length_toList]
  lia
 have hj:sIx items.size items.size hi<=items.size:=zq _ _ (Nat.le_refl _) hi
 obtain⟨os,hos,hcs,hds⟩:=id hs
 have hTs:s.TypeIs (.ref sl) "slice":=⟨os,hos,hcs⟩
 unfold getItem
 try with_reducible refine wpAny_holding ?_
 first | refine wpAny_bind (wpAny_pure ?_) | skip
 refine wpAny_bind (wpAny_sequenceKey ht.typeIs (by decide) ?_)
 refine wpAny_bind (wpAny_callSpecial?_slot (name:=Str.ofString "__getitem__") ht.typeIs PyProof.Rows.slot_tuple_getitem
  (wpAny_call_entry PyProof.Rows.slot_tuple_getitem ht.typeIs entry_tuple_getitem ?_ (args_tuple_getitem _ _)))
 show wpAny _ _ (Builtin.Tuple.tupleItemsOf (.ref t) >>= _) _ _ s
 refine wpAny_bind (tupleItemsOf_ ht ?_)
 refine wpAny_bind (wpAny_typeOf hTs ?_)
 rw [if_pos (by decide)]
 refine wpAny_bind (gm hs pl pu ?_)
 have hno:¬ ((((sIx items.size 0 lo:Nat):Int)==0 && (1:Int)==1 && (sIx items.size items.size hi - sIx items.size 0 lo)==items.size)=true):=by
  intro q
  rw [Bool.and_eq_true,Bool.and_eq_true] at q
  have q1:((sIx items.size 0 lo:Nat):Int)=0:=eq_of_beq q.1.1
  have q2:sIx items.size items.size hi - sIx items.size 0 lo=items.size:=eq_of_beq q.2
  exact hw ⟨by lia,by lia⟩
 show wpAny _ _ (if (((sIx items.size 0 lo:Nat):Int)==0 && (1:Int)==1 && (sIx items.size items.size hi - sIx items.size 0 lo)==items.size)=true then _ else _) _ _ s
 rw [if_neg hno,wM]
 first
  | exact wpAny_bind (m:=Builtin.Tuple.tupleExact _) (wpAny_newObj_type (wpAny_pure ⟨_,rfl,wpAny_pure h⟩) htake)
  | exact wpAny_bind (m:=Builtin.Tuple.tupleExact _) (wpAny_newObj_type (wpAny_bind (wpAny_pure (wpAny_pure ⟨_,rfl,wpAny_pure h⟩))) htake)
  | exact wpAny_bind (wpAny_bind (m:=Builtin.Tuple.tupleExact _) (wpAny_newObj_type (wpAny_pure (wpAny_pure ⟨_,rfl,wpAny_pure h⟩)) htake))
  | exact wpAny_bind (wpAny_bind (m:=Builtin.Tuple.tupleExact _) (wpAny_newObj_type (wpAny_pure ⟨_,rfl,wpAny_pure h⟩) htake))
end
end HT
namespace L2
open PySem PySem.Spec PyProof.Rows
abbrev TO:=St->Hp->(Option Int->Hp->Prop)->Prop
noncomputable def PO (X:Cx) (e:Option Expr) (t:TO):Prop:=
 ∀ (pins:List (Addr×Obj)) (s:Shared) (σ:St) (H:Hp) (Q:Option Int->Hp->Prop),Inv X pins σ H s->t σ H Q->
  wpAny (model X.prog X.w) X.A (evalPart e X.env) (λu s'=>∃ o H',Inv X pins σ H' s'/\IsPart u o/\Q o H') X.xe s
noncomputable def xK:TO:=λ_ H Q=>Q none H
noncomputable def AY (t:TE):TO:=λσ H Q=>t σ H λx H1=>∃ i,x=.int i/\Q (some i) H1
theorem eO {ns:List Int}:∀ {us:List Value},aT (ns.map V.int) us->IntsAre us ns:=by
 induction ns with
 | nil=>intro us r;rw [List.map_nil] at r;cases r;exact .nil
 | cons n ns ih=>
  intro us r
  rw [List.map_cons] at r
  cases r with
  | cons r1 r2=>
   obtain⟨t,e⟩:=r1
   subst e
   exact .cons n t (ih r2)
section
variable {X:Cx}{e:Expr}{te:TE}{lo hi:Option Expr}{tl th:TO}{pos p2:Pos}
theorem yc:PO X none xK:=by
 intro pins s σ H Q I h
 rw [evalPart_none]
 exact wpAny_pure ⟨none,H,I,.none,h⟩
theorem xV (h:PE X e te):PO X (some e) (AY te):=by
 intro pins s σ H Q I hw
 rw [evalPart_some]
 refine thn (h pins s σ H _ I hw) λu s1 ⟨x,H1,I1,r1,q1⟩=>?_
 obtain⟨i,rfl,q⟩:=q1
 obtain⟨t,rfl⟩:=r1
 exact⟨some i,H1,I1,.int i t,q⟩
noncomputable def SlR (X:Cx) (r:V->Option Int->Option Int->Hp->VK->Prop):Prop:=
 ∀ (pins:List (Addr×Obj)) (s:Shared) (σ:St) (H:Hp) (x:V) (v vl vu:Value) (lo hi:Option Int) (sl:Addr) (Q:VK),Inv X pins σ H s->aW x v->s.heap.IsSliceOf sl vl vu .none->IsPart vl lo->IsPart vu hi->r x lo hi H Q->
  ∃ T id,typeLookup (.type T) "__getitem__" = pure (some (.builtin id))/\s.TypeIs v T/\wpAny (model X.prog X.w) X.A (getItem v (.ref sl)) (EP X pins σ Q) X.xe s
noncomputable def tSl (r:V->Option Int->Option Int->Hp->VK->Prop) (te:TE) (tl th:TO):TE:=λσ H Q=>te σ H λx H1=>tl σ H1 λl H2=>th σ H2 λu H3=>r x l u H3 Q
theorem qG {r:V->Option Int->Option Int->Hp->VK->Prop} (hr:SlR X r) (he:PE X e te) (hl:PO X lo tl) (hu:PO X hi th):PE X (.Subscript e (.Slice lo hi none p2) pos) (tSl r te tl th):=by
 intro pins s σ H Q I h
 refine Subscript_ (thn (he pins s σ H _ I h) λv s1 ⟨x,H1,I1,r1,q1⟩=>?_)
 refine wpAny_Slice (thn (hl pins s1 σ H1 _ I1 q1) λvl s2 ⟨l,H2,I2,pl,q2⟩=>thn (hu pins s2 σ H2 _ I2 q2) λvu s3 ⟨u,H3,I3,pu,q3⟩=>?_)
 rw [evalPart_none]
 refine wpAny_pure ?_
 have I4:Inv X pins σ H3 { s3 with heap:=s3.heap.push { cls:=.type "slice",data:=.fields #[vl,vu,.none] } }:=I3.kept (t':=s3.toks) λb ob q=>Heap.get?_push_of_some _ q
 obtain⟨T,id,hT,ht,hg⟩:=hr pins { s3 with heap:=s3.heap.push { cls:=.type "slice",data:=.fields #[vl,vu,.none] } } σ H3 x v vl vu l u s3.heap.objs.size Q I4 r1 (Heap.IsSliceOf.new ..) pl pu q3
 show wpAny (model X.prog X.w) X.A (subscriptTail e (.Slice lo hi none p2) v (.ref s3.heap.objs.size)) (EP X pins σ Q) X.xe { s3 with heap:=s3.heap.push { cls:=.type "slice",data:=.fields #[vl,vu,.none] } }
 exact tail_any (ops:=[.ref s3.heap.objs.size,v]) ht hT hg (by with_unfolding_all rfl)
noncomputable def oU (xs:List V) (lo hi:Option Int):List V:=(xs.drop (HT.sIx xs.length 0 lo)).take (HT.sIx xs.length xs.length hi - HT.sIx xs.length 0 lo)
theorem kj (xs:List V) (lo hi:Option Int):(oU xs lo hi).length<=xs.length:=by
 unfold oU
 rw [List.length_take,List.length_drop]
 lia
noncomputable def BM (K:PySem.W.Frag):V->Option Int->Option Int->Hp->VK->Prop:=λx lo hi H Q=>∃ a xs,x=.ref a/\SqT K H a xs/\
 ¬ (HT.sIx xs.length 0 lo=0/\HT.sIx xs.length xs.length hi=xs.length)/\∀ p,H p=none->Q (.ref p) (upd H p (.tup (oU xs lo hi)))
theorem Ao:SlR X (BM X.K):=by
 intro pins s σ H x v vl vu lo hi sl Q I rx hs pl pu h
 obtain⟨a,xs,rfl,hx,hw,q⟩:=h
 cases rx
 obtain⟨its,r,ht,hz⟩:=I.tuple hx
 have hlen:its.toArray.size=xs.length:=by rw [List.size_toArray];exact r.length.symm
 refine⟨"tuple",_,PyProof.Rows.slot_tuple_getitem.lookup,ht.typeIs,?_⟩
 refine HT.getItem_tuple_cut ht hs pl pu (by rw [hlen];exact hw) ?_ (by rw [hlen];exact hz)
 rw [hlen]
 refine⟨.ref s.heap.objs.size,_,I.laid (t':=s.toks) (o:=.tup (oU xs lo hi)) (λb ob q=>Heap.get?_push_of_some _ q) (Nat.le_refl _) ?_,rfl,q _ (I.hok.fresh (Nat.le_refl _))⟩
 exact⟨Nat.le_trans (kj xs lo hi) hz,_,(r.drop (HT.sIx xs.length 0 lo)).take (HT.sIx xs.length xs.length hi - HT.sIx xs.length 0 lo),dE.new _ _⟩
noncomputable def B7 (K:PySem.W.Frag):R2:=λx y H Q=>∃ a b ns ms,x=.ref a/\y=.ref b/\SqT K H a (ns.map V.int)/\SqT K H b (ms.map V.int)/\Q (.bl (HT.lexLt ns ms)) H
theorem Ag (hu:X.A.units < cLine):OpR X (compareOp .Lt) (B7 X.K):=by
 intro pins s σ H x y v u Q I rx ry h
 obtain⟨a,b,ns,ms,rfl,rfl,ha,hb,q⟩:=h
 cases rx
 cases ry
 obtain⟨its,r1,p1,_⟩:=I.tuple ha
 obtain⟨its2,r2,p2,_⟩:=I.tuple hb
 have i1:IntsAre its.toArray.toList ns:=eO r1
 have i2:IntsAre its2.toArray.toList ms:=eO r2
 exact HT.lt_tupInts p1 p2 i1 i2 hu ⟨.bl (HT.lexLt ns ms),H,I,rfl,q⟩
noncomputable def BD (K:PySem.W.Frag):R2:=λx y H Q=>∃ a b xs ys,x=.ref a/\y=.ref b/\SqT K H a xs/\SqT K H b ys/\xs≠[]/\xs.length+ys.length<=sizeLine/\
 (ys=[]->Q (.ref a) H)/\(ys≠[]->∀ p,H p=none->Q (.ref p) (upd H p (.tup (xs++ys))))
theorem aT.nil_iff {xs:List V}{us:List Value} (r:aT xs us):us=[]↔xs=[]:=by
 cases r with
 | nil=>simp
 | cons _ _=>simp
theorem xa:OpR X (binaryOp .Add) (BD X.K):=by
 intro pins s σ H x y v u Q I rx ry h
 obtain⟨a,b,xs,ys,rfl,rfl,ha,hb,hx,hz,q1,q2⟩:=h
 cases rx
 cases ry
 obtain⟨its,r1,p1,_⟩:=I.tuple ha
 obtain⟨its2,r2,p2,_⟩:=I.tuple hb
 refine HT.cat_tup p1 p2 (λz=>hx (r1.nil_iff.mp z)) (λz=>⟨.ref a,H,I,rfl,q1 (r2.nil_iff.mp z)⟩) (λz=>?_) (by rw [<-r1.length,<-r2.length];exact hz)
 refine⟨.ref s.heap.objs.size,_,I.laid (t':=s.toks) (o:=.tup (xs++ys)) (λb ob q=>Heap.get?_push_of_some _ q) (Nat.le_refl _) ?_,rfl,q2 (λw=>z (r2.nil_iff.mpr w)) _ (I.hok.fresh (Nat.le_refl _))⟩
 exact⟨by rw [List.length_append];exact hz,_,r1.append r2,dE.new _ _⟩
end
end L2
namespace L2
open PySem PySem.Spec PyProof.Rows
noncomputable def ixN (n:Nat) (i:Int):Option Nat:=if 0<=i then (if i < n then some i.toNat else none) else if -(n:Int)<=i then some (i+n).toNat else none
noncomputable def atI {α:Type} (xs:List α) (i:Int):Option α:=(ixN xs.length i).bind λj=>xs[j]?
theorem sq {n:Nat}{i:Int}{j:Nat} (h:ixN n i=some j):seqIndex? i n=some j/\j < n/\-(n:Int)<=i/\i < n:=by
 unfold ixN at h
 by_cases h0:0<=i
 ·rw [if_pos h0] at h
  by_cases h1:i < n
  ·rw [if_pos h1] at h
   have e:i.toNat=j:=Option.some.inj h
   exact⟨by rw [seqIndex_of h0 h1,e],by lia,by lia,h1⟩
  ·rw [if_neg h1] at h;cases h
 ·rw [if_neg h0] at h
  by_cases h1:-(n:Int)<=i
  ·rw [if_pos h1] at h
   have e:(i+n).toNat=j:=Option.some.inj h
   exact⟨by rw [seqIndex_neg (by lia) h1,e],by lia,h1,by lia⟩
  ·rw [if_neg h1] at h;cases h
theorem oO {α:Type}{xs:List α}{i:Int}{v:α} (h:atI xs i=some v):∃ j,seqIndex? i xs.length=some j/\xs[j]?=some v/\j < xs.length/\-(xs.length:Int)<=i/\i < xs.length:=by
 unfold atI at h
 cases e:ixN xs.length i with
 | none=>rw [e] at h;cases h
 | some j=>
  rw [e] at h
  obtain⟨h1,h2,h3,h4⟩:=sq e
  exact⟨j,h1,h,h2,h3,h4⟩
theorem gH {α:Type}{xs:List α}{j:Nat}{v:α} (h:xs[j]?=some v):atI xs (j:Int)=some v:=by
 have hj:j < xs.length:=(List.getElem?_eq_some_iff.mp h).1
 have e:ixN xs.length (j:Int)=some j:=by
  unfold ixN
  rw [if_pos (by lia),if_pos (by lia)];simp
 unfold atI;rw [e];exact h
noncomputable def sV (b:Expr):Prop:=∀ o i,subscripted b false o i=operate [o,i] (getItem o i)
noncomputable def IxR (X:Cx) (r:R2):Prop:=
 ∀ (value slice:Expr) (pins:List (Addr×Obj)) (s:Shared) (σ:St) (H:Hp) (x y:V) (v u:Value) (Q:VK),Inv X pins σ H s->aW x v->aW y u->r x y H Q->
  subscripted slice false v u=operate [v,u] (getItem v u)->wpAny (model X.prog X.w) X.A (subscriptTail value slice v u) (EP X pins σ Q) X.xe s
noncomputable def MtR (X:Cx) (id:String) (r:V->List V->Hp->VK->Prop):Prop:=
 ∀ (pins:List (Addr×Obj)) (s:Shared) (σ:St) (H:Hp) (x:V) (xs:List V) (v:Value) (us:List Value) (Q:VK),Inv X pins σ H s->aW x v->aT xs us->r x xs H Q->
  wpAny (model X.prog X.w) X.A (call (.builtin id) (v::us)) (EP X pins σ Q) X.xe s
section
variable {X:Cx}{a b:Expr}{ta tb:TE}{pos:Pos}
theorem IxR.or {r r':R2} (h:IxR X r) (h':IxR X r'):IxR X (λx y H Q=>r x y H Q\/r' x y H Q):=by
 intro value slice pins s σ H x y v u Q I rx ry q hs
 rcases q with q | q
 ·exact h value slice pins s σ H x y v u Q I rx ry q hs
 ·exact h' value slice pins s σ H x y v u Q I rx ry q hs
theorem Bt {r:R2} (hr:IxR X r) (ha:PE X a ta) (hb:PE X b tb) (hs:sV b):PE X (.Subscript a b pos) (tOp r ta tb):=by
 intro pins s σ H Q I h
 exact Subscript_ (zV ha hb I h λv u s2 x y H2 I2 rx ry q=>hr a b pins s2 σ H2 x y v u Q I2 rx ry q (hs _ _))
noncomputable def Bb (K:PySem.W.Frag):R2:=λx y H Q=>∃ p xs i v,x=.ref p/\y=.int i/\SqL K H p xs/\atI xs i=some v/\Q v H
noncomputable def Bl (K:PySem.W.Frag):R2:=λx y H Q=>∃ p xs i v,x=.ref p/\y=.int i/\SqT K H p xs/\atI xs i=some v/\Q v H
noncomputable def BJ:R2:=λx y H Q=>∃ z i c,x=.str z/\y=.int i/\z.length<=sizeLine/\atI z.cps.toList i=some c/\Q (.str ⟨#[c]⟩) H
theorem ya:IxR X (Bb X.K):=by
 intro value slice pins s σ H x y v u Q I rx ry h hs
 obtain⟨p,xs,i,z,rfl,rfl,hq,he,q⟩:=h
 cases rx
 obtain⟨t,rfl⟩:=ry
 obtain⟨its,r,pl,hz⟩:=I.list hq
 obtain⟨j,h1,h2,h3,h4,h5⟩:=oO he
 obtain⟨w,ew,rw'⟩:=r.get h2
 have hl:=r.length
 have hn:=i9
 have fin:EP X pins σ Q w s:=⟨z,H,I,rw',q⟩
 by_cases h0:0<=i
 ·have hj:i.toNat=j:=by
   rw [seqIndex_of h0 h5] at h1
   exact Option.some.inj h1
  exact item_listR pl.isList h0 (by lia) (by rw [hj];simpa using ew) fin hs
 ·have hj:(i+(its.toArray.size:Int)).toNat=j:=by
   rw [seqIndex_neg (by lia) h4] at h1
   rw [List.size_toArray,<-hl]
   exact Option.some.inj h1
  exact subscriptTail_builtinR (x:=w) pl.isList.typeIs slot_list_getitem.lookup
   (wpAny_getItem_list_neg (Q:=λr s'=>r=w/\EP X pins σ Q r s') pl.isList (by lia) (by rw [List.size_toArray]<;>lia) (by lia) (by rw [hj];simpa using ew) ⟨rfl,fin⟩) hs
theorem zO:IxR X (Bl X.K):=by
 intro value slice pins s σ H x y v u Q I rx ry h hs
 obtain⟨p,xs,i,z,rfl,rfl,hq,he,q⟩:=h
 cases rx
 obtain⟨t,rfl⟩:=ry
 obtain⟨its,r,pl,hz⟩:=I.tuple hq
 obtain⟨j,h1,h2,h3,h4,h5⟩:=oO he
 obtain⟨w,ew,rw'⟩:=r.get h2
 have hl:=r.length
 have hn:=i9
 have fin:EP X pins σ Q w s:=⟨z,H,I,rw',q⟩
 exact subscriptTail_builtinR (x:=w) pl.typeIs slot_tuple_getitem.lookup
  (getItem_tuple (j:=j) (Q:=λr s'=>r=w/\EP X pins σ Q r s') pl (by lia) (by lia) (by rw [List.size_toArray,<-hl];exact h1) (by simpa using ew) ⟨rfl,fin⟩) hs
theorem zp:IxR X BJ:=by
 intro value slice pins s σ H x y v u Q I rx ry h hs
 obtain⟨z,i,c,rfl,rfl,hz,he,q⟩:=h
 obtain⟨t,rfl⟩:=rx
 obtain⟨t',rfl⟩:=ry
 obtain⟨j,h1,h2,h3,h4,h5⟩:=oO he
 have hl:z.cps.toList.length=z.length:=by simp [Str.length]
 rw [hl] at h1 h4 h5
 have hn:=i9
 exact tail_any (typeIs_str s z t) slot_str_getitem.lookup (getItem_str (c:=c) (by
  have e1:decide (i < -(2 ^ 63:Int))=false:=decide_eq_false (by lia)
  have e2:decide (i>=2 ^ 63)=false:=decide_eq_false (by lia)
  rw [e1,e2,Bool.or_false]) (by rw [h1];simpa using h2) ⟨.str ⟨#[c]⟩,H,I.tok _,⟨_,rfl⟩,q⟩) hs
noncomputable def rIx (K:PySem.W.Frag):R2:=λx y H Q=>Bb K x y H Q\/Bl K x y H Q\/BJ x y H Q
theorem vb:IxR X (rIx X.K):=ya.or (zO.or zp)
theorem rR (its:List Value) (n j:Nat) (u:Value):Obj.mapSeq (·.setIfInBounds j u) { cls:=.type "list",data:=.seq its.toArray n }={ cls:=.type "list",data:=.seq (its.set j u).toArray n }:=by
 simp [Obj.mapSeq]
theorem Inv.lst {pins:List (Addr×Obj)}{σ:St}{H:Hp}{s:Shared}{p:Addr}{xs:List V} (I:Inv X pins σ H s) (h:H p=some (.lst xs)) :
  ∃ (its:List Value) (n:Nat),aT xs its/\s.heap.get? p=some { cls:=.type "list",data:=.seq its.toArray n }/\xs.length<=sizeLine:=by
 obtain⟨z,its,n,r,e⟩:=I.hok p _ h
 exact⟨its,n,r,e,z⟩
theorem Inv.lstUpd {pins:List (Addr×Obj)}{σ:St}{H:Hp}{s:Shared}{p:Addr}{xs ys:List V}{its its':List Value}{n n':Nat}{f:Obj->Obj} (I:Inv X pins σ H s) (h:H p=some (.lst xs))
  (ho:s.heap.get? p=some { cls:=.type "list",data:=.seq its.toArray n }) (hf:f { cls:=.type "list",data:=.seq its.toArray n }={ cls:=.type "list",data:=.seq its'.toArray n' }) (r:aT ys its') (hz:ys.length<=sizeLine) (t:Nat) :
  Inv X pins σ (upd H p (.lst ys)) { s with heap:=s.heap.update p f,toks:=t }:=by
 have e:(s.heap.update p f).get? p=some { cls:=.type "list",data:=.seq its'.toArray n' }:=by
  rw [Heap.get?_update_self f ho (by rw [hf]<;>rfl),hf]
 refine I.write (x:=p) (e:=p) (by rw [h];trivial) (.inl rfl) (λb u hb q=>(Heap.get?_update_other _ _ (Ne.symm hb)).trans q) ⟨_,e⟩ ?_
 exact⟨hz,its',n',r,e⟩
noncomputable def BH:V->V->V->Hp->(Hp->Prop)->Prop:=λo i v H Q=>∃ p xs k j,o=.ref p/\i=.int k/\H p=some (.lst xs)/\ixN xs.length k=some j/\Q (upd H p (.lst (xs.set j v)))
theorem vk:Bo X BH:=by
 intro pins s σ H o i v ov iv u Q I ro ri rv h
 obtain⟨p,xs,k,j,rfl,rfl,hp,hj,q⟩:=h
 cases ro
 obtain⟨t,rfl⟩:=ri
 obtain⟨its,n,r,ho,hz⟩:=I.lst hp
 obtain⟨h1,h2,h3,h4⟩:=sq hj
 have hl:=r.length
 have hn:=i9
 have I':Inv X pins σ (upd H p (.lst (xs.set j v))) { s with heap:=s.heap.update p (Obj.mapSeq (·.setIfInBounds j u)) }:=
  I.lstUpd hp ho (rR its n j u) (r.set rv j) (by rw [List.length_set];exact hz) s.toks
 by_cases h0:0<=k
 ·have hk:k.toNat=j:=by
   rw [seqIndex_of h0 h4] at h1
   exact Option.some.inj h1
  exact PySem.W.ki_setAt ho h0 (by lia) (by rw [List.size_toArray,<-hl];exact h4) (by rw [hk];exact⟨_,I',q⟩)
 ·have hk:(k+(its.toArray.size:Int)).toNat=j:=by
   rw [seqIndex_neg (by lia) h3] at h1
   rw [List.size_toArray,<-hl]
   exact Option.some.inj h1
  exact PySem.W.ki_setBack ho (by lia) (by rw [List.size_toArray,<-hl];exact h3) (by lia) (by rw [hk];exact⟨_,I',q⟩)
theorem ox (lo hi:Option Int) (n:Nat):(sliceBounds lo hi none n).1=((HT.sIx n 0 lo:Nat):Int)/\(sliceBounds lo hi none n).2.1=((HT.sIx n n hi:Nat):Int)/\(sliceBounds lo hi none n).2.2=1:=by
 refine⟨?_,?_,rfl⟩
 ·cases lo with
  | none=>simp [sliceBounds,HT.sIx]
  | some i=>
   simp only [sliceBounds,HT.sIx,Option.getD_none,show (1:Int) > 0 by decide,if_true]
   by_cases h:i < 0
   ·simp only [h,if_true]<;>lia
   ·simp only [h,if_false]<;>lia
 ·cases hi with
  | none=>simp [sliceBounds,HT.sIx]
  | some i=>
   simp only [sliceBounds,HT.sIx,Option.getD_none,show (1:Int) > 0 by decide,if_true]
   by_cases h:i < 0
   ·simp only [h,if_true]<;>lia
   ·simp only [h,if_false]<;>lia
theorem mY (its:List Value) (lo hi:Option Int):slicePick its.toArray lo hi none=((its.drop (HT.sIx its.length 0 lo)).take (HT.sIx its.length its.length hi - HT.sIx its.length 0 lo)).toArray:=by
 obtain⟨h1,h2,h3⟩:=ox lo hi its.toArray.size
 unfold slicePick
 rw [h1,h2,h3]
 simp only [sliceRange_one,pick_run,List.size_toArray]<;>rfl
noncomputable def BO (K:PySem.W.Frag):V->Option Int->Option Int->Hp->VK->Prop:=λx lo hi H Q=>∃ a xs,x=.ref a/\SqL K H a xs/\∀ p,H p=none->Q (.ref p) (upd H p (.lst (oU xs lo hi)))
theorem xM:SlR X (BO X.K):=by
 intro pins s σ H x v vl vu lo hi sl Q I rx hs pl pu h
 obtain⟨a,xs,rfl,hx,q⟩:=h
 cases rx
 obtain⟨its,r,ht,hz⟩:=I.list hx
 have hlen:=r.length
 refine⟨"list",_,slot_list_getitem.lookup,ht.isList.typeIs,?_⟩
 refine wpAny_getItem_list_slice ht.isList hs pl pu .none (by simp) ?_ (by rw [List.size_toArray]<;>lia)
 rw [mY,<-hlen]
 refine⟨.ref s.heap.objs.size,_,I.laid (t':=s.toks) (o:=.lst (oU xs lo hi)) (λb ob q=>Heap.get?_push_of_some _ q) (Nat.le_refl _) ?_,rfl,q _ (I.hok.fresh (Nat.le_refl _))⟩
 exact⟨Nat.le_trans (kj xs lo hi) hz,_,0,(r.drop (HT.sIx xs.length 0 lo)).take (HT.sIx xs.length xs.length hi - HT.sIx xs.length 0 lo),Heap.get?_push_size _ rfl⟩
noncomputable def eX:V->Bool
 | .non=>true
 | .bl _=>true
 | .int _=>true
 | .str _=>true
 | _=>false
noncomputable def eqV:V->V->Bool
 | .non,.non=>true
 | .bl a,.bl b=>a==b
 | .bl a,.int b=>(if a then 1 else 0)==b
 | .int a,.bl b=>a==(if b then 1 else 0)
 | .int a,.int b=>a==b
 | .str a,.str b=>a==b
 | _,_=>false
theorem rg {A:Around}{s:Shared}{y x:V}{u v:Value} (ry:aW y u) (rx:aW x v) (fy:eX y=true) (fx:eX x=true):SeqAt.EqAt A s u v (eqV y x):=by
 cases y with
 | non=>
  cases ry
  cases x with
  | non=>cases rx;exact SeqAt.EqAt.same _
  | bl b=>cases rx;exact SeqAt.EqAt.none_bool b
  | int b=>obtain⟨t,rfl⟩:=rx;exact SeqAt.EqAt.none_int b t
  | str b=>obtain⟨t,rfl⟩:=rx;exact SeqAt.EqAt.none_str b t
  | _=>exact absurd (show false=true from fx) Bool.false_ne_true
 | bl a=>
  cases ry
  cases x with
  | non=>cases rx;exact SeqAt.EqAt.bool_none a
  | bl b=>cases rx;exact SeqAt.EqAt.bool_bool a b
  | int b=>obtain⟨t,rfl⟩:=rx;exact SeqAt.EqAt.bool_int a b t
  | str b=>obtain⟨t,rfl⟩:=rx;exact SeqAt.EqAt.bool_str a b t
  | _=>exact absurd (show false=true from fx) Bool.false_ne_true
 | int a=>
  obtain⟨t',rfl⟩:=ry
  cases x with
  | non=>cases rx;exact SeqAt.EqAt.int_none a t'
  | bl b=>cases rx;exact SeqAt.EqAt.int_bool a t' b
  | int b=>obtain⟨t,rfl⟩:=rx;exact SeqAt.EqAt.int_int a t' b t
  | str b=>obtain⟨t,rfl⟩:=rx;exact SeqAt.EqAt.int_str a t' b t
  | _=>exact absurd (show false=true from fx) Bool.false_ne_true
 | str a=>
  obtain⟨t',rfl⟩:=ry
  cases x with
  | non=>cases rx;exact SeqAt.EqAt.str_none a t'
  | bl b=>cases rx;exact SeqAt.EqAt.str_bool a t' b
  | int b=>obtain⟨t,rfl⟩:=rx;exact SeqAt.EqAt.str_int a t' b t
  | str b=>obtain⟨t,rfl⟩:=rx;exact SeqAt.EqAt.str_str a t' b t
  | _=>exact absurd (show false=true from fx) Bool.false_ne_true
 | _=>exact absurd (show false=true from fy) Bool.false_ne_true
noncomputable def eqU (x:V) (u:Value):Bool:=match u with
 | .none=>eqV .non x
 | .bool b=>eqV (.bl b) x
 | .int i _=>eqV (.int i) x
 | .str z _=>eqV (.str z) x
 | _=>false
theorem vo {x y:V}{u:Value} (r:aW y u) (f:eX y=true):eqU x u=eqV y x:=by
 cases y with
 | non=>cases r;rfl
 | bl b=>cases r;rfl
 | int i=>obtain⟨t,rfl⟩:=r;rfl
 | str z=>obtain⟨t,rfl⟩:=r;rfl
 | _=>exact absurd (show false=true from f) Bool.false_ne_true
theorem oI {x:V}:∀ {xs:List V}{us:List Value},aT xs us->xs.all eX=true->us.any (eqU x)=xs.any λy=>eqV y x
 | _,_,.nil,_=>rfl
 | y::xs,u::us,.cons r t,f=>by
  rw [List.all_cons,Bool.and_eq_true] at f
  rw [List.any_cons,List.any_cons,vo r f.1,oI t f.2]
theorem mH {A:Around}{s:Shared}{x:V}{v:Value} (rx:aW x v) (fx:eX x=true):∀ {xs:List V}{us:List Value},aT xs us->xs.all eX=true->∀ u ∈ us,SeqAt.EqAt A s u v (eqU x u)
 | _,_,.nil,_=>λu hu=>by cases hu
 | y::xs,u::us,.cons r t,f=>λu' hu=>by
  rw [List.all_cons,Bool.and_eq_true] at f
  rcases List.mem_cons.mp hu with rfl | hu
  ·rw [vo r f.1];exact rg r rx f.1 fx
  ·exact mH rx fx t f.2 u' hu
noncomputable def inV (x:V) (xs:List V):Bool:=xs.any λy=>eqV y x
noncomputable def rIn (K:PySem.W.Frag) (neg:Bool):R2:=λx y H Q=>∃ p xs,y=.ref p/\(SqL K H p xs\/SqT K H p xs)/\eX x=true/\xs.all eX=true/\Q (.bl (if neg then !inV x xs else inV x xs)) H
theorem pe:OpR X (compareOp .NotIn) (rIn X.K true):=by
 intro pins s σ H x y v u Q I rx ry h
 obtain⟨p,xs,rfl,hq,fx,fs,q⟩:=h
 cases ry
 rcases hq with hq | hq
 ·obtain⟨its,r,pl,hz⟩:=I.list hq
  refine SeqAt.notIn_listAt (eqU x) pl.isList (λw hw=>mH rx fx r fs w (by simpa using hw)) ⟨.bl _,H,I,rfl,?_⟩
  rw [show its.toArray.any (eqU x)=its.any (eqU x) by simp,oI r fs]
  exact q
 ·obtain⟨its,r,pl,hz⟩:=I.tuple hq
  refine SeqAt.notIn_tupleAt (eqU x) pl (λw hw=>mH rx fx r fs w (by simpa using hw)) ⟨.bl _,H,I,rfl,?_⟩
  rw [show its.toArray.any (eqU x)=its.any (eqU x) by simp,oI r fs]
  exact q
theorem oV:dk X (.builtin "len") (λxs H Q=>∃ p ys,xs=[.ref p]/\(SqL X.K H p ys\/SqT X.K H p ys)/\Q (.int ys.length) H):=by
 intro pins s σ H xs us Q I r h
 obtain⟨p,ys,rfl,hq,q⟩:=h
 obtain⟨u,rfl,rx⟩:=ij r
 cases rx
 have hn:=i9
 rcases hq with hq | hq
 ·obtain⟨its,r',pl,hz⟩:=I.list hq
  have hlen:=r'.length
  exact Calls.call_len_list pl.isList (by simp only [List.size_toArray]<;>lia) ⟨.int ys.length,H,I.tok _,⟨s.toks+1,by rw [List.size_toArray,hlen]⟩,q⟩
 ·obtain⟨its,r',pl,hz⟩:=I.tuple hq
  have hlen:=r'.length
  exact len_tuple pl (by simp only [List.size_toArray]<;>lia) ⟨.int ys.length,H,I.tok _,⟨s.toks+1,by rw [List.size_toArray,hlen]⟩,q⟩
theorem pc:dk X (.builtin "len") (λxs H Q=>∃ z,xs=[.str z]/\z.length<=sizeLine/\Q (.int z.length) H):=by
 intro pins s σ H xs us Q I r h
 obtain⟨z,rfl,hz,q⟩:=h
 obtain⟨u,rfl,t,rfl⟩:=ij r
 have hn:=i9
 exact len_str (by lia) ⟨.int z.length,H,I.tok _,⟨_,rfl⟩,q⟩
theorem nh:dk X (.type "tuple") (λxs H Q=>∃ p ys,xs=[.ref p]/\((SqL X.K H p ys/\∀ l,H l=none->Q (.ref l) (upd H l (.tup ys)))\/(SqT X.K H p ys/\Q (.ref p) H))):=by
 intro pins s σ H xs us Q I r h
 obtain⟨p,ys,rfl,h⟩:=h
 obtain⟨u,rfl,rx⟩:=ij r
 cases rx
 rcases h with⟨hq,q⟩ | ⟨hq,q⟩
 ·obtain⟨its,r',pl,hz⟩:=I.list hq
  have hlen:=r'.length
  refine call_tuple_list pl.isList (λh' kp=>?_) (by simp only [List.size_toArray]<;>lia)
  have I1:Inv X pins σ H { s with heap:=h' }:=I.kept (t':=s.toks) kp
  have I2:Inv X pins σ (upd H h'.objs.size (.tup ys)) { s with heap:=h'.push { cls:=.type "tuple",data:=.seq its.toArray } }:=
   I1.laid (t':=s.toks) (λb o e=>Heap.get?_push_of_some _ e) (Nat.le_refl _) (show bY X.prog X.w _ _ _ (.tup ys) from ⟨hz,its,r',dE.new _ _⟩)
  exact⟨.ref h'.objs.size,_,I2,rfl,q _ (I1.hok.fresh (Nat.le_refl _))⟩
 ·obtain⟨its,r',pl,hz⟩:=I.tuple hq
  exact call_tuple_same pl ⟨.ref p,H,I,rfl,q⟩
noncomputable def tyV (K:PySem.W.Frag) (T:String) (x:V) (H:Hp):Prop:=match x with
 | .str _=>T = "str"
 | .int _=>T = "int"
 | .ref p=>(T = "list"/\∃ xs,SqL K H p xs)\/(T = "tuple"/\((∃ o,K.lookup p=some o/\o.cls=.type "tuple"/\o.dict=none)\/∃ xs,SqT K H p xs))\/
   (T = "dict"/\((∃ kvs,H p=some (.dK kvs))\/∃ kvs,H p=some (.dT kvs)))\/(T = "set"/\∃ S n,H p=some (.set S n))
 | _=>False
theorem y9 {pins:List (Addr×Obj)}{σ:St}{H:Hp}{s:Shared}{T:String}{x:V}{v:Value} (I:Inv X pins σ H s) (r:aW x v) (ty:tyV X.K T x H) :
  s.TypeIs v T/\∀ a,v=.ref a->∃ ob,s.heap.get? a=some ob/\ob.dict=none:=by
 cases x with
 | str z=>
  obtain⟨t,rfl⟩:=r
  cases (show T = "str" from ty)
  exact⟨typeIs_str s z t,λ_ e=>nomatch e⟩
 | int i=>
  obtain⟨t,rfl⟩:=r
  cases (show T = "int" from ty)
  exact⟨typeIs_int s i t,λ_ e=>nomatch e⟩
 | ref p=>
  cases r
  rcases ty with⟨rfl,xs,hq⟩ | ⟨rfl,ht⟩ | ⟨rfl,hk⟩ | ⟨rfl,S,n,hk⟩
  ·obtain⟨its,_,pl,_⟩:=I.list hq
   refine⟨pl.isList.typeIs,λa e=>?_⟩
   cases e
   obtain⟨o,n,e,c,hd,_⟩:=pl
   exact⟨o,e,hd⟩
  ·have z:∃ o:Obj,s.heap.get? p=some o/\o.cls=.type "tuple"/\o.dict=none:=by
    rcases ht with⟨o,hk,hc,hd⟩ | ⟨xs,hq⟩
    ·exact⟨o,I.kIn p o hk,hc,hd⟩
    ·exact I.tuple1 hq
   obtain⟨o,e1,hc,hd⟩:=z
   refine⟨⟨o,e1,hc⟩,λa e=>?_⟩
   cases e
   exact⟨o,e1,hd⟩
  ·have z:∃ o,s.heap.get? p=some o/\o.ExactDict:=by
    rcases hk with⟨kvs,hk⟩ | ⟨kvs,hk⟩
    ·obtain⟨_,_,_,_,o,_,_,e,ex,_⟩:=I.hok p _ hk
     exact⟨o,e,ex⟩
    ·obtain⟨_,_,_,_,o,_,_,e,ex,_⟩:=I.hok p _ hk
     exact⟨o,e,ex⟩
   obtain⟨o,e,ex⟩:=z
   refine⟨⟨o,e,ex.1⟩,λa e2=>?_⟩
   cases e2
   exact⟨o,e,ex.2.1⟩
  ·obtain⟨o,_,_,_,e,ex,_⟩:=I.hok p _ hk
   refine⟨⟨o,e,ex.1⟩,λa e2=>?_⟩
   cases e2
   exact⟨o,e,ex.2.1⟩
 | _=>exact False.elim ty
noncomputable def tBM (K:PySem.W.Frag) (T:String) (r:V->List V->Hp->VK->Prop) (to:TE) (t:TA):TE:=λσ H Q=>to σ H λx H1=>tyV K T x H1/\t σ H1 λxs H2=>r x xs H2 Q
variable {o e:Expr}{es:List Expr}{to:TE}{t:TA}{name:Str}{apos cpos:Pos}{T id:String}{r:V->List V->Hp->VK->Prop}
theorem AR (pa:PlainAttrs T) (slot:Slot T name id) (hty:typeOf (.builtin id)=pure (.type "method_descriptor")) (hm:MtR X id r) (ho:PE X o to) (ha:PA X (e::es) t)
  (hbase:attributeBase o name X.env (eval o X.env)=eval o X.env:=by rfl)
  (hfew:((backTo cpos (starEach (e::es) X.env)).all (λx=>!x.1) && (backToKw cpos (keywordEach [] X.env)).all (λx=>x.1.isSome)
    && decide ((e::es).length+([]:List Keyword).length+(if ([]:List Keyword).isEmpty then 0 else 1) < 30))=true:=by rfl)
  (hline:(apos.endLine==cpos.line)=true:=by rfl) (hs:starEach (e::es) X.env=(false,eval e X.env)::starEach es X.env:=by rfl) (hplain:(backTo cpos (starEach es X.env)).any (·.1)=false:=by rfl) :
  PE X (.Call (.Attribute o name apos) (e::es) [] cpos) (tBM X.K T r to t):=by
 intro pins s σ H Q I h
 refine wpAny_Call_method_late hbase hfew hline rfl (thn (ho pins s σ H _ I h) λv s1 ⟨x,H1,I1,r1,ty,q1⟩=>?_)
 obtain⟨h1,h2⟩:=y9 I1 r1 ty
 refine⟨T,id,pa,slot,hty,h1,h2,?_⟩
 have hA:=ha cpos pins s1 σ H1 _ I1 q1
 rw [hs] at hA ⊢
 refine Calls.callWith_builtin (by show (false || (backTo cpos (starEach es X.env)).any (·.1))=false;rw [hplain]<;>rfl) (Calls.evalArgs_plain ?_)
 exact thn hA λus s2 ⟨vs,H2,I2,r2,q2⟩=>hm pins s2 σ H2 x vs v us Q I2 r1 r2 q2
end
end L2
namespace L2
open PySem PySem.Spec PyProof.Rows
theorem aT.one {x:V}{us:List Value} (h:aT [x] us):∃ u,us=[u]/\aW x u:=by
 cases h with
 | cons r t=>cases t;exact⟨_,rfl,r⟩
theorem aT.two {x y:V}{us:List Value} (h:aT [x,y] us):∃ u v,us=[u,v]/\aW x u/\aW y v:=by
 cases h with
 | cons r t=>cases t with
  | cons q t2=>cases t2;exact⟨_,_,rfl,r,q⟩
theorem aT.rep {xs:List V}{us:List Value} (h:aT xs us):∀ k:Nat,aT (List.replicate k xs).flatten (List.replicate k us).flatten
 | 0=>.nil
 | k+1=>by
  rw [List.replicate_succ,List.replicate_succ,List.flatten_cons,List.flatten_cons]
  exact aT.append h (aT.rep h k)
theorem jZ (its:List Value):∀ (k:Nat) (acc:List Value),
  List.foldl (λx1 x2=>x1++x2) acc.toArray (List.replicate k its.toArray)=(acc++(List.replicate k its).flatten).toArray
 | 0,acc=>by simp
 | k+1,acc=>by
  have e:acc.toArray++its.toArray=(acc++its).toArray:=by simp
  have e2:(acc++its)++(List.replicate k its).flatten=acc++(List.replicate (k+1) its).flatten:=by
   rw [List.replicate_succ,List.flatten_cons,List.append_assoc]
  rw [<-e2,<-jZ its k (acc++its),<-e,List.replicate_succ,List.foldl_cons]
section
variable {X:Cx}{pins:List (Addr×Obj)}{σ:St}{H:Hp}{s:Shared}{l b:Addr}{xs ys zs:List V}
theorem Inv.lset {its its':List Value}{n:Nat}{f:Array Value->Array Value}{t':Nat} (I:Inv X pins σ H s) (hH:H l=some (.lst xs))
  (e:s.heap.get? l=some { cls:=.type "list",data:=.seq its.toArray n }) (hf:f its.toArray=its'.toArray) (hv:aT ys its') (hz:ys.length<=sizeLine) :
  Inv X pins σ (upd H l (.lst ys)) { s with heap:=s.heap.update l (Obj.mapSeq f),toks:=t' }:=by
 have q:=PySem.IsL.update e f
 rw [hf] at q
 refine I.write (x:=l) (e:=l) (by rw [hH];exact trivial) (.inl rfl) (λb' u hb hu=>(Heap.get?_update_other s.heap (Obj.mapSeq f) (Ne.symm hb)).trans hu) ⟨_,q⟩ ?_
 exact⟨hz,its',_,hv,q⟩
theorem Inv.lnew {its:List Value}{t':Nat} (I:Inv X pins σ H s) (hv:aT ys its) (hz:ys.length<=sizeLine) :
  Inv X pins σ (upd H s.heap.objs.size (.lst ys)) { s with heap:=s.heap.push { cls:=.type "list",data:=.seq its.toArray },toks:=t' }:=
 I.laid (λ_ _ q=>Heap.get?_push_of_some _ q) (Nat.le_refl _) ⟨hz,its,0,hv,Heap.get?_push_size _ rfl⟩
theorem Inv.fresh (I:Inv X pins σ H s):H s.heap.objs.size=none:=I.hok.fresh (Nat.le_refl _)
theorem Inv.lstM (I:Inv X pins σ H s) (hH:H l=some (.lst xs)):xs.length<=sizeLine/\∃ (its:List Value) (n:Nat),aT xs its/\xs.length=its.length/\s.heap.get? l=some { cls:=.type "list",data:=.seq its.toArray n }:=by
 obtain⟨z,its,n,r,e⟩:=I.hok l _ hH
 exact⟨z,its,n,r,r.length,e⟩
theorem qr {n:Nat} (h:n<=sizeLine):Builtin.List.listTooLong n=false:=by
 unfold Builtin.List.listTooLong
 exact decide_eq_false (by lia)
end
section
variable {X:Cx}
theorem oT {α:Type} (xs:List α) (k:Nat):(List.replicate k xs).flatten.length=k*xs.length:=by
 induction k with
 | zero=>simp
 | succ k ih=>rw [List.replicate_succ,List.flatten_cons,List.length_append,ih,Nat.succ_mul,Nat.add_comm]
end
section
variable {prog:Program}{w:World}{A:Around}{E:Value->Shared->Prop}{s:Shared}
end
section
variable {X:Cx}
end
end L2
namespace Att
open PySem PySem.W PySem.Calls PyProof.Rows
theorem kH {P:Params}{h:Heap}:∀ (ns:List Int) (vs:List Value),WellAll P h vs (ns.map WData.int)->IntsAre vs ns:=by
 intro ns
 induction ns with
 | nil=>
  intro vs w
  rw [List.map_nil] at w
  cases w
  exact .nil
 | cons n ns ih=>
  intro vs w
  rw [List.map_cons] at w
  cases w with
  | cons a b=>
   cases a
   exact .cons _ _ (ih _ b)
theorem ur {l:OpenLaw}{n:Nat} (hn:l.most=some n) {P:Params}{h:Heap}{args:List WData}{vals:List Value}
  (hpre:l.row.toRowW.claim.pre args=true) (hwl:WellAll P h vals args) :
  ∃ a vs ns,vals=[Value.ref a]/\args=[WData.list (ns.map WData.int)]/\h.get? a=some { cls:=.type "list",data:=.seq vs.toArray }/\IntsAre vs ns/\ns.length<=n:=by
 have hsh:WShape.hasAll [] args [.list .int]=true:=(pre_splitW hpre).1
 have hc:l.pre.holds [] { args:=args }=true:=(pre_splitW hpre).2
 obtain⟨d,r,rfl,h1,h2⟩:=hasAllW_cons hsh
 obtain rfl:=hasAllW_nil h2
 obtain⟨xs,rfl,h3⟩:=hasW_list h1
 obtain⟨ns,rfl⟩:=items_int h3
 have hlen:ns.length<=n:=by
  unfold OpenLaw.pre at hc
  have h4:(WTm.not (.lt (.lit (.int (n:Int))) (.len (.arg 0)))).holds [] { args:=[.list (ns.map .int)] }=true:=by
   have h4:=(holds_andW hc).1
   rw [hn] at h4
   exact h4
  have h5:=condW_of h4 (w_not (w_lt w_lit (w_len_list (w_arg rfl))))
  rw [List.length_map] at h5
  refine Nat.le_of_not_lt λq=>?_
  have q':(n:Int) < ((ns.length:Nat):Int):=by lia
  first
   | (rw [decide_eq_true q'] at h5;exact absurd h5 (by decide))
   | (simp at h5;lia)
 cases hwl with
 | cons w1 w2=>
  cases w2
  cases w1 with
  | list ho hall=>exact⟨_,_,ns,rfl,rfl,ho,kH ns _ hall,hlen⟩
theorem uD (l:OpenLaw) (args:List WData):l.row.toRowW.claim.post args (.bool true) args=true:=
 postW_of (r:=l.row.toRowW) (X:=(true==true))
  (show WShape.has [] (.bool true) .bool=true by first | rfl | decide | simp [WShape.has,WShape.arms,WShape.armsAll])
  (show (WTm.eq .res (.lit (.bool true))).value [] { args:=args,res:=some (.bool true),after:=args }=some (.bool (true==true)) from w_eq_bool (w_res rfl) w_lit) rfl
theorem attach_call {l:OpenLaw}{n:Nat}{q:Program}{loose:List Str}{XP:(Str->Option Value)->Heap->Prop}{YP:World->Heap->Prop}{d:DefRec}
  (hn:l.most=some n) (hdf:d.params.defaults=[])
  (call:∀ (w:World) (s₀ s₁:Shared) (mg mb:Str->Option Value) (fa:Addr) (o:Obj) (pm cd doc:Value) (a:Addr) (vs:List Value) (ns:List Int),
    Ground q loose [] XP w s₀ mg mb s₁.heap->YP w s₁.heap->
    s₁.heap.get? fa=some o->o.data=.func (docDef d.name d.params d.body d.scope pm cd doc)->s₁.heap.CodeRec cd d.name->mg d.name=some (.ref fa)->
    s₁.heap.get? a=some { cls:=.type "list",data:=.seq vs.toArray }->IntsAre vs ns->ns.length<=n->s₁.gens=#[]->
    codeAny (model l.prog w) callerA (.call (.ref fa) ⟨[.ref a],[]⟩) (λr s'=>r=.ok (.ret (.bool true))/\OldK s₁.heap s'.heap/\s'.os=s₁.os/\AllBare s'.gens) s₁) :
  WalkO q loose XP YP l.row.toRowW d [] (λf vs=>PySem.call f vs):=by
 intro w s₀ s₁ mg mb G Y fa o pm cd doc dV kV ho hd hcd hD hmg hg args vals as hpre hlay hrd hwl hlo
 obtain rfl:dV=.none:=Dflts.none hD hdf
 obtain rfl:kV=.none:=Dflts.noKw hD
 obtain⟨a,vs,ns,rfl,rfl,hobj,hints,hlen⟩:=ur hn hpre hwl
 refine enter_call (codeAny_mono (call w s₀ s₁ mg mb fa o pm cd doc a vs ns G Y ho (fd_plain hd) hcd hmg hobj hints hlen hg) λr s' hq=>?_)
 obtain⟨rfl,h2,h3,h4⟩:=hq
 exact⟨.inl ⟨.bool true,.bool true,[],rfl,λ_=>rfl,.bool true,uD l _,λ_=>⟨List.Pairwise.nil,λ_ hm=>(nomatch hm)⟩⟩,h2,h3,h4⟩
section
variable {prog:Program}{w:World}{A:Around}{E:Value->Shared->Prop}{s:Shared}{K:Frag}
end
end Att
namespace L2
open PySem PySem.Spec PyProof.Rows
theorem n6:∀ {vs:List Value}{ns:List Int},IntsAre vs ns->aT (ns.map V.int) vs
 | _,_,.nil=>.nil
 | _,_,.cons n t h=>.cons ⟨t,rfl⟩ (n6 h)
noncomputable def xB (H:Hp):Prop:=∀ b,H b=none\/∃ o xs,H b=some (.frz o (.lst xs))
theorem wt {P:Program}{w:World}{K:PySem.W.Frag}{mg mb:Str->Option Value}{CX:CXT}{k:Nat}{fa a:Addr}{fd:FuncData}{x:Str}{sp:Sp}{s₁:Shared}{vs:List Value}{ns:List Int}
  (KX:K.In s₁.heap) (hns:s₁.heap.Ns mainGlobals mg) (hb:s₁.heap.Ns builtinsNs mb) (hbb:∀ x:Str,x≠"__name__"->mb x=bootBuiltins x) (hlim:s₁.heap.NoLimit) (hg:s₁.gens=#[])
  (ha:s₁.heap.get? a=some { cls:=.type "list",data:=.seq vs.toArray }) (hi:IntsAre vs ns) (hl:ns.length<=sizeLine) (hr:bo k callerA)
  (F:∀ base:Heap,K.In base->base.Ns mainGlobals mg->aU P w K mg base CX k fa fd [x] sp) (hbind:∀ (s:Shared) (u:Value),BindsTo s fd ⟨[u],[]⟩ [(x,u)])
  (hsp:∀ H:Hp,xB H->SqL K H a (ns.map V.int)->sp [.ref a] H (λv _=>v=.bl true) λ_ _ _=>False)
  (hCX:∀ H e s',CX [] H s₁ (λ_ _ _=>False) e s'->False) :
  codeAny (model P w) callerA (.call (.ref fa) ⟨[.ref a],[]⟩) (λr s'=>r=.ok (.ret (.bool true))/\OldK s₁.heap s'.heap/\s'.os=s₁.os/\AllBare s'.gens) s₁:=by
 have rv:=n6 hi
 have lenV:=hi.length
 -- from an abstract heap in which nothing but the script may be tracked
 have core:∀ H:Hp,xB H->SqL K H a (ns.map V.int)->HOk P w H s₁.heap->(∀ b,H b≠none->b=a)->(H a≠none->K.lookup a=none)->
   codeAny (model P w) callerA (.call (.ref fa) ⟨[.ref a],[]⟩) (λr s'=>r=.ok (.ret (.bool true))/\OldK s₁.heap s'.heap/\s'.os=s₁.os/\AllBare s'.gens) s₁:=by
  intro H hO hS hok hA hK
  have base_of:∀ {b:Addr}{o:Obj},s₁.heap.get? b=some o->H b=none->(og s₁.heap H).get? b=some o:=λe n=>u5 e n
  have noA:∀ {b:Addr}{o:Obj}{es:Array DictEntry}{ep:Nat},s₁.heap.get? b=some o->o.data=.dict es ep->H b=none:=λ{b o es ep} e d=>by
   cases q:H b with
   | none=>rfl
   | some u=>
    have e':b=a:=hA b (by rw [q];simp)
    subst e'
    rw [ha] at e;cases e
    have d':Data.seq vs.toArray _=Data.dict es ep:=d
    cases d'
  have nsK:∀ {b:Addr}{m:Str->Option Value},s₁.heap.Ns b m->(og s₁.heap H).Ns b m:=λ{b m} ⟨o,es,ep,e,d,r⟩=>⟨o,es,ep,base_of e (noA e d),d,r⟩
  have hKb:K.In (og s₁.heap H):=λb o e=>base_of (KX b o e) (by
   cases q:H b with
   | none=>rfl
   | some u=>
    have e':b=a:=hA b (by rw [q];simp)
    subst e'
    rw [hK (by rw [q];simp)] at e;cases e)
  have hM:Mod K mg (og s₁.heap H):=⟨hKb,nsK hns,⟨mb,nsK hb,hbb⟩,let ⟨mc,h1,h2⟩:=hlim;⟨mc,nsK h1,h2⟩⟩
  have e0:wS P w K mg (og s₁.heap H) callerA [] s₁ H:=⟨rfl,hM,λb o e=>xx e,Nat.le_of_eq (uA _ _),trivial,λb hb=>absurd (show b ∈ ([]:List Addr) from hb) (by simp),hok,.of_eq hg⟩
  refine codeAny_mono ((F _ hKb (nsK hns)).run callerA [] s₁ H ⟨[.ref a],[]⟩ [.ref a] [.ref a] _ _ hr e0 (hbind s₁ (.ref a)) (.cons rfl .nil) (hsp H hO hS)) λr s' h=>?_
  cases r with
  | error e=>exact (hCX H e s' h).elim
  | ok fl=>
   cases fl with
   | next=>exact False.elim h
   | brk=>exact False.elim h
   | cont=>exact False.elim h
   | ret u=>
    obtain⟨v,H',os,bare,un,hok',r',q⟩:=h
    have q':v=.bl true:=q
    subst q'
    obtain rfl:u=Value.bool true:=r'
    refine⟨rfl,OldK.of_keep λb o e=>?_,os,bare⟩
    cases q:H b with
    | none=>exact un.keep b o e q (by intro z;exact absurd (show b ∈ ([]:List Addr) from z) (by simp)) (by simp)
    | some u=>
     rcases hO b with z | ⟨ob,xs,z⟩
     ·rw [q] at z;cases z
     ·have z2:=un.frzs b ob _ z
      obtain⟨e1,_⟩:=hok b _ z
      obtain⟨e2,_⟩:=hok' b _ z2
      rw [e] at e1;cases e1
      exact e2
 cases hk:K.lookup a with
 | some o=>
  -- the script is one of the module's own objects
  have e:=KX a o hk
  rw [ha] at e
  cases e
  refine core (λ_=>none) (λ_=>.inl rfl) (.inr ⟨_,vs.toArray,_,hk,rfl,rfl,rfl,by rw [List.size_toArray,lenV];exact hl,by simpa using rv⟩) (λb u z=>by have z':(none:Option HO)=some u:=z;cases z') (λb z=>absurd rfl z) λz=>absurd rfl z
 | none=>
  refine core (λb=>if b=a then some (.frz { cls:=.type "list",data:=.seq vs.toArray } (.lst (ns.map V.int))) else none) (λb=>?_) (.inl (.inr ⟨{ cls:=.type "list",data:=.seq vs.toArray },if_pos rfl⟩)) (λb u z=>?_) (λb z=>?_) λ_=>hk
  ·by_cases hb:b=a
   ·exact .inr ⟨_,_,if_pos hb⟩
   ·exact .inl (if_neg hb)
  ·by_cases hb:b=a
   ·have z':=(if_pos hb).symm.trans z
    cases z'
    subst hb
    exact⟨ha,by rw [List.length_map];exact hl,vs,_,rv,ha⟩
   ·have z':=(if_neg hb).symm.trans z
    cases z'
  ·by_cases hb:b=a
   ·exact hb
   ·exact absurd (if_neg hb) z
end L2
namespace L2
open PySem PySem.Spec PyProof.Rows
theorem walk_of {l:PySem.W.OpenLaw}{n k:Nat}{q:Program}{loose:List Str}{XP:(Str->Option Value)->Heap->Prop}{YP:World->Heap->Prop}{d:DefRec}{K:Params->PySem.W.Frag}{CX:World->CXT}{sp:World->Sp}{x:Str}
  (hn:l.most=some n) (hn2:n<=sizeLine) (hdf:d.params.defaults=[]) (hr:bo k callerA)
  (hY:∀ (w:World) (h:Heap),YP w h->(K w.params).In h)
  (F:∀ (w:World) (mg:Str->Option Value) (fa:Addr) (h:Heap),(K w.params).In h->h.Ns mainGlobals mg->mg d.name=some (.ref fa)->
    ∃ fd:FuncData,(∀ (s:Shared) (u:Value),BindsTo s fd ⟨[u],[]⟩ [(x,u)])/\
     ∀ base:Heap,(K w.params).In base->base.Ns mainGlobals mg->aU l.prog w (K w.params) mg base (CX w) k fa fd [x] (sp w))
  (hsp:∀ (w:World) (H:Hp) (a:Addr) (ns:List Int),ns.length<=n->xB H->SqL (K w.params) H a (ns.map V.int)->sp w [.ref a] H (λv _=>v=.bl true) λ_ _ _=>False)
  (hCX:∀ (w:World) (H:Hp) (s:Shared) (e:Value) (s':Shared),CX w [] H s (λ_ _ _=>False) e s'->False) :
  PySem.W.WalkO q loose XP YP l.row.toRowW d [] (λf vs=>PySem.call f vs):=by
 refine Att.attach_call hn hdf λw s₀ s₁ mg mb fa o pm cd doc a vs ns G Y ho hd hcd hmg hobj hints hlen hg=>?_
 have KX:=hY w _ Y
 obtain⟨fd,hb,hF⟩:=F w mg fa _ KX G.T.g hmg
 exact wt KX G.T.g G.T.b G.T.builtins G.T.nolimit hg hobj hints (Nat.le_trans hlen hn2) hr hF hb (λH hO hS=>hsp w H a ns hlen hO hS) λH e s'=>hCX w H s₁ e s'
end L2
namespace L2
open PySem PySem.Spec PyProof.Rows
noncomputable def aK (s:Stmt):Arguments:=match s with
 | .FunctionDef _ a _ _ _ _ _ _ _ _=>a
 | _=>{ posonlyargs:=[],args:=[],vararg:=none,kwonlyargs:=[],kw_defaults:=[],kwarg:=none,defaults:=[] }
noncomputable def ap (s:Stmt):List Stmt:=match s with
 | .FunctionDef _ _ b _ _ _ _ _ _ _=>b
 | _=>[]
noncomputable def ab (s:Stmt):Scope:=match s with
 | .FunctionDef _ _ _ _ _ _ sc _ _ _=>sc
 | _=>{ kind:=.function,names:=[],isGenerator:=false,isCoroutine:=false }
abbrev CX0:CXT:=λ_ _ _ _ _ _=>False
abbrev E0:XK:=λ_ _ _=>False
theorem A2 {X:Cx}:rP CX0 X E0:=λ_ _ _ _ _ _ _ h=>h.elim
structure Fun (K:PySem.W.Frag) (x qual:Str) (st:Stmt) (f:Addr) (fd:FuncData):Prop where
 ex:∃ (oc:Value) (od:Option Addr) (kV doc pm:Value) (an:Option Addr) (cdv ct:Value) (osl:Array (Option Value)),
  fd=PySem.W.fnOf x qual (aK st) (ap st) (ab st) .none kV doc pm an cdv ct/\K.lookup f=some ⟨oc,od,.func fd,osl⟩/\PySem.W.codeIn K cdv qual=true
 kp:PySem.W.keepIn K (.ref f)=true
section
variable {P:Program}{w:World}{K:PySem.W.Frag}{mg:Str->Option Value}{base:Heap}
theorem Fun.ok {x qual:Str}{st:Stmt}{f:Addr}{fd:FuncData}{N ps:List Str}{k:Nat}{sp:Sp} (F:Fun K x qual st f fd) (S:aH N ps (ab st)) (len:∀ vs H Q E,sp vs H Q E->vs.length=ps.length)
  (hbody:∀ (cdv:Value) (A:Around) (outer:List Env) (s:Shared) (H:Hp) (vs:List V) (Q:VK) (E:XK),bo k (A.deeper (envOfC qual (ab st) s.heap.objs.size f cdv))->sp vs H Q E->
    ∃ t,PSs (cy CX0 P w K mg base N qual (ab st) f cdv A outer s H E).nox (ap st) t/\t { nx:=λ_ H'=>Q .non H',rt:=Q } (start N vs) H):aU P w K mg base CX0 (k+1) f fd ps sp:=by
 obtain⟨oc,od,kV,doc,pm,an,cdv,ct,osl,rfl,lk,hcd⟩:=F.ex
 refine BG lk hcd S len λA outer s H vs Q E hr hsp=>?_
 obtain⟨t,h,q⟩:=hbody cdv A outer s H vs Q E hr hsp
 exact⟨t,h.nox,q⟩
theorem Fun.binds {x qual:Str}{st:Stmt}{f:Addr}{fd:FuncData}{ps:List Str} (F:Fun K x qual st f fd)
  (h:∀ (kV doc pm:Value) (an:Option Addr) (cdv ct:Value) (us:List Value),us.length=ps.length->bindArgs (PySem.W.fnOf x qual (aK st) (ap st) (ab st) .none kV doc pm an cdv ct) ⟨us,[]⟩=pure (ps.zip us)):bC K fd ps []:=by
 obtain⟨oc,od,kV,doc,pm,an,cdv,ct,osl,rfl,lk,hcd⟩:=F.ex
 exact .all (h kV doc pm an cdv ct)
theorem bj {x qual:Str}{st:Stmt}{f:Addr}{oc:Value}{od an:Option Addr}{osl:Array (Option Value)}{kV doc pm cdv ct:Value} (l:K.lookup f=some ⟨oc,od,.func (PySem.W.fnOf x qual (aK st) (ap st) (ab st) .none kV doc pm an cdv ct),osl⟩)
  (c:PySem.W.codeIn K cdv qual=true) (k:PySem.W.keepIn K (.ref f)=true):Fun K x qual st f (PySem.W.fnOf x qual (aK st) (ap st) (ab st) .none kV doc pm an cdv ct):=⟨⟨oc,od,kV,doc,pm,an,cdv,ct,osl,rfl,l,c⟩,k⟩
end
theorem uP {A:Around}{k:Nat} (hr:bo k A):A.units+1 < cLine:=Nat.lt_of_le_of_lt (Nat.add_le_add_left (by decide:1<=64) _) hr.units
theorem uh {n:Nat} (h:n<=1000):n < sizeLine:=Nat.lt_of_le_of_lt h (by decide)
section
variable {X:Cx}
end
theorem vh {A B:Prop} (h:B):if false=true then A else B:=by
 rw [if_neg Bool.false_ne_true]
 exact h
theorem vg {A B:Prop} (h:A):if true=true then A else B:=by
 rw [if_pos rfl]
 exact h
noncomputable def bK (H H':Hp):Prop:=∀ b o,H b=some o->H' b=some o
theorem bK.refl (H:Hp):bK H H:=λ_ _ h=>h
end L2
namespace L2
open PySem PySem.Spec PyProof.Rows
noncomputable def ck (cells:List (Str×Addr)):List (Str×NameKind)->List (Str×Addr)->List (Str×Addr)
 | [],acc=>acc
 | (n,k)::r,acc=>if k==.free then ck cells r ((n,(cells.lookup n).getD 0)::acc) else ck cells r acc
theorem i6 {env:Env} (f:Str×NameKind->List (Str×Addr)->Sem (ForInStep (List (Str×Addr))))
  (hf:∀ n k cs,f (n,k) cs=if k==.free then (do let c <-cellOf env n;pure (.yield ((n,c)::cs))) else pure (.yield cs)) :
  ∀ (names:List (Str×NameKind)) (acc:List (Str×Addr)),(∀ x ∈ names,x.2=.free->∃ c,env.cells.lookup x.1=some c)->
   forIn names acc f=pure (ck env.cells names acc)
 | [],acc,_=>by rw [List.forIn_nil];rfl
 | (n,k)::r,acc,h=>by
  rw [List.forIn_cons,hf]
  unfold ck
  by_cases hk:(k==.free)=true
  ·obtain⟨c,hc⟩:=h (n,k) List.mem_cons_self (beq_iff_eq.mp hk)
   have hc':env.cells.lookup n=some c:=hc
   rw [if_pos hk,if_pos hk]
   have:cellOf env n=pure c:=by unfold cellOf;rw [hc']
   rw [this,hc']
   simp only [pure_bind,Option.getD_some]
   exact i6 f hf r _ λx hx=>h x (List.mem_cons_of_mem _ hx)
  ·rw [if_neg hk,if_neg hk]
   simp only [pure_bind]
   exact i6 f hf r _ λx hx=>h x (List.mem_cons_of_mem _ hx)
theorem iQ {scope:Scope}{env:Env} (h:∀ x ∈ scope.names,x.2=.free->∃ c,env.cells.lookup x.1=some c) :
  closureFor scope env=pure (ck env.cells scope.names []):=by
 simp only [closureFor]
 rw [i6 (env:=env) _ (λn k cs=>by cases hk:k==NameKind.free<;>simp [hk]) scope.names [] h]
 simp
theorem fX {cells:List (Str×Addr)}:∀ (names:List (Str×NameKind)) (acc:List (Str×Addr)) {x:Str}{c:Addr},(ck cells names acc).lookup x=some c->
  acc.lookup x=some c\/((x,NameKind.free) ∈ names/\c=(cells.lookup x).getD 0)
 | [],_,_,_,h=>.inl h
 | (n,k)::r,acc,x,c,h=>by
  unfold ck at h
  by_cases hk:(k==.free)=true
  ·rw [if_pos hk] at h
   rcases fX r _ h with q | ⟨q1,q2⟩
   ·rw [List.lookup_cons] at q
    cases hx:x==n with
    | true=>
     rw [hx] at q
     have e:=beq_iff_eq.mp hx
     subst e
     exact .inr ⟨by rw [<-beq_iff_eq.mp hk];exact List.mem_cons_self,(Option.some.inj q).symm⟩
    | false=>rw [hx] at q;exact .inl q
   ·exact .inr ⟨List.mem_cons_of_mem _ q1,q2⟩
  ·rw [if_neg hk] at h
   rcases fX r _ h with q | ⟨q1,q2⟩
   ·exact .inl q
   ·exact .inr ⟨List.mem_cons_of_mem _ q1,q2⟩
theorem fI {cells:List (Str×Addr)}{x:Str}:∀ (names:List (Str×NameKind)) (acc:List (Str×Addr)),((x,NameKind.free) ∈ names\/(acc.lookup x).isSome=true)->((ck cells names acc).lookup x).isSome=true
 | [],_,h=>h.elim (λz=>nomatch z) id
 | (n,k)::r,acc,h=>by
  unfold ck
  by_cases hk:(k==.free)=true
  ·rw [if_pos hk]
   refine fI r _ ?_
   rcases h with h | h
   ·rcases List.mem_cons.mp h with e | h
    ·cases e
     exact .inr (by rw [List.lookup_cons,beq_self_eq_true];rfl)
    ·exact .inl h
   ·refine .inr ?_
    rw [List.lookup_cons]
    cases x==n
    ·exact h
    ·rfl
  ·rw [if_neg hk]
   refine fI r _ ?_
   rcases h with h | h
   ·rcases List.mem_cons.mp h with e | h
    ·cases e;exact absurd rfl hk
    ·exact .inl h
   ·exact .inr h
theorem dQ:∀ (names:List (Str×NameKind)) (n:Nat) (acc:List (Str×Addr)) {x:Str}{c:Addr},(cellsFrom n names acc).lookup x=some c->acc.lookup x=some c\/((x,NameKind.cell) ∈ names/\n<=c)
 | [],_,_,_,_,h=>.inl h
 | (m,k)::r,n,acc,x,c,h=>by
  unfold cellsFrom at h
  by_cases hk:(k==.cell)=true
  ·rw [if_pos hk] at h
   rcases dQ r _ _ h with q | ⟨q1,q2⟩
   ·rw [List.lookup_cons] at q
    cases hx:x==m with
    | true=>
     rw [hx] at q
     have e:=beq_iff_eq.mp hx
     subst e
     exact .inr ⟨by rw [<-beq_iff_eq.mp hk];exact List.mem_cons_self,by rw [Option.some.inj q];exact Nat.le_refl _⟩
    | false=>rw [hx] at q;exact .inl q
   ·exact .inr ⟨List.mem_cons_of_mem _ q1,Nat.le_of_succ_le q2⟩
  ·rw [if_neg hk] at h
   rcases dQ r _ _ h with q | ⟨q1,q2⟩
   ·exact .inl q
   ·exact .inr ⟨List.mem_cons_of_mem _ q1,q2⟩
theorem m9:∀ (names:List (Str×NameKind)) (n:Nat) (acc:List (Str×Addr)),(∀ p ∈ acc,p.2 < n)->∀ {x y:Str}{c:Addr},(cellsFrom n names acc).lookup x=some c->(cellsFrom n names acc).lookup y=some c->n<=c->x=y:=by
 have key:∀ (names:List (Str×NameKind)) (n:Nat) (acc:List (Str×Addr)) (lo:Nat),lo<=n->(∀ p ∈ acc,p.2 < n)->(∀ p ∈ acc,∀ q ∈ acc,lo<=p.2->p.2=q.2->p.1=q.1)->
   ∀ p ∈ cellsFrom n names acc,∀ q ∈ cellsFrom n names acc,lo<=p.2->p.2=q.2->p.1=q.1:=by
  intro names
  induction names with
  | nil=>intro n acc lo _ _ h;exact h
  | cons z r ih=>
   intro n acc lo hlo hlt h
   obtain⟨m,k⟩:=z
   unfold cellsFrom
   by_cases hk:(k==.cell)=true
   ·rw [if_pos hk]
    refine ih _ _ lo (Nat.le_succ_of_le hlo) (λp hp=>?_) (λp hp q hq l e=>?_)
    ·rcases List.mem_cons.mp hp with e | hp
     ·rw [e];exact Nat.lt_succ_self _
     ·exact Nat.lt_succ_of_lt (hlt p hp)
    ·rcases List.mem_cons.mp hp with e1 | hp<;>rcases List.mem_cons.mp hq with e2 | hq
     ·rw [e1,e2]
     ·rw [e1] at e;exact absurd (hlt q hq) (by rw [<-e];exact Nat.lt_irrefl _)
     ·rw [e2] at e;exact absurd (hlt p hp) (by rw [e];exact Nat.lt_irrefl _)
     ·exact h p hp q hq l e
   ·rw [if_neg hk]
    exact ih _ _ lo hlo hlt h
 intro names n acc hlt x y c hx hy hc
 exact key names n acc n (Nat.le_refl _) hlt (λp hp q hq l _=>absurd (hlt p hp) (Nat.not_lt.mpr l)) _ (PySem.mem_of_lookup hx) _ (PySem.mem_of_lookup hy) hc rfl
theorem en:∀ (names:List (Str×NameKind)) (h:Heap) (acc:List (Str×Addr)),(∀ p ∈ acc,∃ v,h.IsCell p.2 v)->∀ p ∈ cellsFrom h.objs.size names acc,∃ v,(pushCells h names).IsCell p.2 v
 | [],_,_,h=>h
 | (m,k)::r,h,acc,hc=>by
  unfold cellsFrom pushCells
  by_cases hk:(k==.cell)=true
  ·rw [if_pos hk,if_pos hk]
   have:=en r (h.push { cls:=.type "cell",data:=.cell none }) ((m,h.objs.size)::acc) (λp hp=>by
    rcases List.mem_cons.mp hp with e | hp
    ·rw [e];exact⟨none,_,Heap.get?_push_size _ rfl,rfl⟩
    ·obtain⟨v,z⟩:=hc p hp
     exact⟨v,z.keeps λb o e=>Heap.get?_push_of_some _ e⟩)
   rwa [Heap.size_push] at this
  ·rw [if_neg hk,if_neg hk]
   exact en r h acc hc
theorem eJ {names:List (Str×NameKind)} (nd:(names.map (·.1)).Nodup):∀ {x:Str}{k:NameKind},(x,k) ∈ names->names.lookup x=some k:=by
 induction names with
 | nil=>intro x k h;cases h
 | cons z r ih=>
  intro x k h
  obtain⟨m,k'⟩:=z
  rw [List.map_cons,List.nodup_cons] at nd
  rw [List.lookup_cons]
  rcases List.mem_cons.mp h with e | h
  ·cases e;rw [beq_self_eq_true]
  ·have:(x==m)=false:=beq_eq_false_iff_ne.mpr λe=>nd.1 (e ▸ List.mem_map.mpr ⟨(x,k),by assumption,rfl⟩)
   rw [this]
   exact ih nd.2 h
theorem dG {env:Env}:∀ {names:List (Str×NameKind)}{x:Str}{k:NameKind},
  (names.map λ(n,k)=>if (k==NameKind.free && env.scope.kind==.function && env.kindOf n==some .cell) then (n,NameKind.cell) else (n,k)).lookup x=some k->
  ∃ k0,names.lookup x=some k0/\(k=k0\/(k0=.free/\k=.cell))
 | [],_,_,h=>by cases h
 | (n,k0)::r,x,k,h=>by
  rw [List.map_cons] at h
  dsimp only at h
  rw [List.lookup_cons]
  by_cases hc:(k0==NameKind.free && env.scope.kind==.function && env.kindOf n==some .cell)=true
  ·rw [if_pos hc,List.lookup_cons] at h
   cases hx:x==n with
   | true=>
    rw [hx] at h
    refine⟨k0,rfl,.inr ⟨?_,(Option.some.inj h).symm⟩⟩
    simp only [Bool.and_eq_true] at hc
    exact beq_iff_eq.mp hc.1.1
   | false=>rw [hx] at h;exact dG h
  ·rw [if_neg hc,List.lookup_cons] at h
   cases hx:x==n with
   | true=>rw [hx] at h;exact⟨k0,rfl,.inl (Option.some.inj h).symm⟩
   | false=>rw [hx] at h;exact dG h
theorem gE {env:Env}:∀ {names:List (Str×NameKind)}{x:Str},names.lookup x=some .free->
  (names.map λ(n,k)=>if (k==NameKind.free && env.scope.kind==.function && env.kindOf n==some .cell) then (n,NameKind.cell) else (n,k)).lookup x=some .free\/
  (names.map λ(n,k)=>if (k==NameKind.free && env.scope.kind==.function && env.kindOf n==some .cell) then (n,NameKind.cell) else (n,k)).lookup x=some .cell
 | [],_,h=>by cases h
 | (n,k0)::r,x,h=>by
  rw [List.map_cons]
  dsimp only
  rw [List.lookup_cons] at h
  by_cases hc:(k0==NameKind.free && env.scope.kind==.function && env.kindOf n==some .cell)=true
  ·rw [if_pos hc,List.lookup_cons]
   cases hx:x==n with
   | true=>exact .inr rfl
   | false=>rw [hx] at h;exact gE h
  ·rw [if_neg hc,List.lookup_cons]
   cases hx:x==n with
   | true=>rw [hx] at h;exact .inl h
   | false=>rw [hx] at h;exact gE h
theorem jg {M:Model}{A:Around}{E:Value->Shared->Prop}{s:Shared}{scope:Scope}{env:Env}{cl:List (Str×Addr)}{Q:Env->Shared->Prop}
  (hQ:Q (newEnv scope s.heap.objs.size env.globals (cellsFrom (s.heap.objs.size+1) scope.names cl) env.qual none .none (some env) builtinsNs)
    { s with heap:=pushCells (s.heap.push { cls:=.type "dict",data:=.dict #[] }) scope.names }) :
  wpAny M A (newFunctionEnv scope env.globals cl [] env.qual none .none (some env)) Q E s:=by
 simp only [newFunctionEnv,Option.isSome_some,if_true]
 refine wpAny_bind (wpAny_alloc ?_)
 refine wpAny_bind (wpAny_layCells _ (λname kind cells=>by cases hkc:kind==NameKind.cell<;>simp [hkc]) _ _ _ _ ?_)
 rw [show ({ s with heap:=s.heap.push { cls:=.type "dict",data:=.dict #[] } }:Shared).heap.objs.size=s.heap.objs.size+1 from Heap.size_push ..]
 refine wpAny_bind ?_
 rw [List.forIn_nil]
 exact wpAny_pure (wpAny_pure hQ)
theorem d4 {prog:Program}{w:World}{A:Around}{R:Result->Shared->Prop}{s:Shared}{elt target iter:Expr}{ifs:List Expr}{scope:Scope}{pos:Pos}{it acc:Value}{env:Env} (I:Nat->Shared->Prop)
  (turn:∀ n s,I n s->wpAny (model prog w) A (pyNext it) (λr s₁=>match r with
    | none=>R (.ok .next) s₁
    | some v=>wpAny (model prog w) A (letOwnedTupleGo target it v) (λ_ s₁'=>wpAny (model prog w) A (assign target env v) (λ_ s₂=>
      wpAny (model prog w) A (forIn ifs true λc r=>if r=true then do let ok <-isTrue c env (eval c env);pure (ForInStep.yield ok) else pure (ForInStep.yield r)) (λok s₃=>
       if ok=true then wpAny (model prog w) A (eval elt env) (λx s₄=>
        wpAny (model prog w) A (call (.builtin "list.append") [acc,x]) (λ_ s₅=>∃ m,m < n/\I m s₅) (λ_ _=>False) s₄) (λ_ _=>False) s₃
       else ∃ m,m < n/\I m s₃) (λ_ _=>False) s₂) (λ_ _=>False) s₁') (λ_ _=>False) s₁) (λ_ _=>False) s)
  (n:Nat) (h:I n s) :
  codeAny (model prog w) A (.compLoop (.ListComp elt [⟨target,iter,ifs,0⟩] scope pos) 0 it acc env) R s:=by
 refine codeAny_loop rfl I (λn s hI=>?_) n h
 show wpAny _ A ((compTurn (.ListComp elt [⟨target,iter,ifs,0⟩] scope pos) 0 it acc env).onRaise (λx=>do noteFrame x env;theTreesLotGoes x)) _ _ s
 refine wpAny_noted ?_
 rw [compTurn_list]
 refine wpAny_bind (wpAny_standAt (wpAny_bind (wpAny_mono (turn n s hI) (λr s₁ h₁=>?_) λ_ _ h'=>h'.elim)))
 cases r with
 | none=>exact wpAny_pure h₁
 | some v=>
  refine wpAny_bind (wpAny_mono h₁ (λ_ s₁' h₁'=>?_) λ_ _ h'=>h'.elim)
  refine wpAny_bind (wpAny_mono h₁' (λ_ s₂ h₂=>wpAny_bind (wpAny_mono h₂ (λok s₃ h₃=>?_) λ_ _ h'=>h'.elim)) λ_ _ h'=>h'.elim)
  cases ok with
  | false=>exact wpAny_pure ⟨rfl,h₃⟩
  | true=>
   exact wpAny_bind (wpAny_bind (wpAny_mono h₃ (λx s₄ h₄=>wpAny_bind (wpAny_mono h₄ (λ_ s₅ h₅=>wpAny_pure (wpAny_pure ⟨rfl,h₅⟩)) λ_ _ h'=>h'.elim)) λ_ _ h'=>h'.elim))
noncomputable def lcX (X:Cx) (scope:Scope) (cells:List (Str×Addr)) (Nc:List Str) (s:Shared) (H:Hp) (C:Addr) (fp:List Addr):Cx where
 prog:=X.prog
 w:=X.w
 K:=X.K
 mg:=X.mg
 base:=X.base
 A:=X.A
 N:=Nc
 s₀:=s
 H₀:=H
 env:=compEnvC scope cells C X.env
 outer:=X.stack
 stack:=X.stack
 ex:=fp
 fn:=λx=>scope.names.lookup x==some .cell
 calm:=X.calm
 pn:=[]
 xe:=λ_ _=>False
structure fQ (X:Cx) (scope:Scope) (Nc:List Str) (emb:St->St):Prop where
 kind:scope.kind=.function
 nd:(scope.names.map (·.1)).Nodup
 nN:Nc.Nodup
 free:∀ x ∈ scope.names,x.2=.free->X.env.kindOf x.1=some .cell\/X.env.kindOf x.1=some .free
 len:∀ σ:St,σ.length=X.N.length->(emb σ).length=Nc.length
 emb:∀ σ:St,σ.length=X.N.length->∀ (i:Nat) (x:Str) (v:V),Nc[i]?=some x->(emb σ)[i]?=some (some v)->∃ j:Nat,X.N[j]?=some x/\σ[j]?=some (some v)/\scope.names.lookup x=some .free
section
variable {X:Cx}{pins:List (Addr×Obj)}{σ:St}{H:Hp}{s:Shared}{scope:Scope}{Nc:List Str}{emb:St->St}
theorem fQ.clos (S:fQ X scope Nc emb) (ok:X.Ok):∀ x ∈ scope.names,x.2=.free->∃ c,X.env.cells.lookup x.1=some c:=λx hx h=>ok.has x.1 (S.free x hx h)
theorem pN (S:fQ X scope Nc emb) (I:Inv X pins σ H s) {fp:List Addr} (hf:∀ b ∈ fp,gT X pins H b) (hfo:∀ b ∈ fp,∃ o,s.heap.get? b=some o) {lo:Obj} (hlo:∀ v,lo.data≠.cell v) (hfr:lo.isFreed=false) :
  Inv (lcX X scope (cellsFrom (s.heap.objs.size+2) scope.names (ck X.env.cells scope.names [])) Nc s H (s.heap.objs.size+1) fp) [(s.heap.objs.size,lo)] (emb σ) H
   { s with heap:=pushCells ((s.heap.push lo).push { cls:=.type "dict",data:=.dict #[] }) scope.names }:=by
 have hsz2:((s.heap.push lo).push { cls:=.type "dict",data:=.dict #[] }).objs.size=s.heap.objs.size+2:=by rw [Heap.size_push,Heap.size_push]
 have hsz1:(s.heap.push lo).objs.size=s.heap.objs.size+1:=by rw [Heap.size_push]
 have hk:∀ b o,s.heap.get? b=some o->(pushCells ((s.heap.push lo).push { cls:=.type "dict",data:=.dict #[] }) scope.names).get? b=some o:=λb o e=>
  pushCells_keeps _ _ b o (Heap.get?_push_of_some _ (Heap.get?_push_of_some _ e))
 have has:=S.clos I.ok
 have cl_old:∀ {x:Str}{c:Addr},(ck X.env.cells scope.names []).lookup x=some c->X.env.cells.lookup x=some c/\(x,NameKind.free) ∈ scope.names:=λ{x c} h=>by
  rcases fX _ _ h with q | ⟨q1,q2⟩
  ·cases q
  ·obtain⟨c',hc'⟩:=has _ q1 rfl
   have hc'':X.env.cells.lookup x=some c':=hc'
   rw [hc''] at q2
   exact⟨by rw [hc'',q2];rfl,q1⟩
 have cells_cases:∀ {x:Str}{c:Addr},(cellsFrom (s.heap.objs.size+2) scope.names (ck X.env.cells scope.names [])).lookup x=some c->
   (X.env.cells.lookup x=some c/\(x,NameKind.free) ∈ scope.names)\/((x,NameKind.cell) ∈ scope.names/\s.heap.objs.size+2<=c):=λ{x c} h=>by
  rcases dQ _ _ _ h with q | q
  ·exact .inl (cl_old q)
  ·exact .inr q
 have oldlt:∀ {x:Str}{c:Addr},X.env.cells.lookup x=some c->c < s.heap.objs.size:=λ{x c} h=>by
  obtain⟨v,z⟩:=I.cell x c h
  exact z.lt
 have fplt:∀ b ∈ fp,b < s.heap.objs.size:=λb hb=>by obtain⟨o,e⟩:=hfo b hb;exact Heap.lt_size e
 have accmem:∀ p ∈ ck X.env.cells scope.names [],∃ x,X.env.cells.lookup x=some p.2:=by
  have key:∀ (names:List (Str×NameKind)) (acc:List (Str×Addr)),(∀ x ∈ names,x.2=.free->∃ c,X.env.cells.lookup x.1=some c)->(∀ p ∈ acc,∃ x,X.env.cells.lookup x=some p.2)->∀ p ∈ ck X.env.cells names acc,∃ x,X.env.cells.lookup x=some p.2:=by
   intro names
   induction names with
   | nil=>intro acc _ h;exact h
   | cons z r ih=>
    intro acc hn h
    obtain⟨m,k⟩:=z
    unfold ck
    by_cases hk:(k==.free)=true
    ·rw [if_pos hk]
     refine ih _ (λx hx=>hn x (List.mem_cons_of_mem _ hx)) λp hp=>?_
     rcases List.mem_cons.mp hp with e | hp
     ·obtain⟨c,hc⟩:=hn _ List.mem_cons_self (beq_iff_eq.mp hk)
      have hc':X.env.cells.lookup m=some c:=hc
      exact⟨m,by rw [e,hc'];rfl⟩
     ·exact h p hp
    ·rw [if_neg hk]
     exact ih _ (λx hx=>hn x (List.mem_cons_of_mem _ hx)) h
  exact key _ _ has λp hp=>nomatch hp
 refine⟨⟨I.ok.mod,S.kind,I.ok.glob,I.ok.blt,Nat.le_succ _,λx y c h1 h2=>?_,λx hx=>?_,λx c hx h=>?_,I.ok.hd,I.ok.frames,.inl rfl,λb hb=>?_,I.bs,Nat.le_trans I.ok.bsz I.sz,λb o e hb=>?_,λb hb=>?_,I.stack,I.stkFree⟩,
  rfl,I.bare,Un.kept hk,⟨_,(Heap.Ns.new (s.heap.push lo) (.type "dict")).keeps (pushCells_keeps _ _) |> λq=>by rw [hsz1] at q;exact q,λi x v h1 h2 _=>?_⟩,λx c h=>?_,I.hok.fresh (Nat.le_succ _),λx c h=>?_,λp hp=>?_,I.hok.kept hk,S.len σ I.len⟩
 ·-- inj
  have h1':(cellsFrom (s.heap.objs.size+2) scope.names (ck X.env.cells scope.names [])).lookup x=some c:=h1
  have h2':(cellsFrom (s.heap.objs.size+2) scope.names (ck X.env.cells scope.names [])).lookup y=some c:=h2
  rcases cells_cases h1' with⟨q1,_⟩ | ⟨_,q1⟩
  ·rcases cells_cases h2' with⟨q2,_⟩ | ⟨_,q2⟩
   ·exact I.ok.inj x y c q1 q2
   ·exact absurd (Nat.lt_of_lt_of_le (Nat.lt_succ_of_lt (Nat.lt_succ_of_lt (oldlt q1))) q2) (Nat.lt_irrefl _)
  ·refine m9 scope.names _ _ (λp hp=>?_) h1' h2' q1
   obtain⟨z,hz⟩:=accmem p hp
   exact Nat.lt_succ_of_lt (Nat.lt_succ_of_lt (oldlt hz))
 ·-- has
  have hx':(relabel scope X.env).names.lookup x=some .cell\/(relabel scope X.env).names.lookup x=some .free:=hx
  have:∃ k0,scope.names.lookup x=some k0/\(k0=.cell\/k0=.free):=by
   rcases hx' with q | q
   ·obtain⟨k0,h1,h2⟩:=dG q
    exact⟨k0,h1,h2.elim (λe=>.inl e.symm) λe=>.inr e.1⟩
   ·obtain⟨k0,h1,h2⟩:=dG q
    exact⟨k0,h1,h2.elim (λe=>.inr e.symm) λe=>by cases e.2⟩
  obtain⟨k0,h1,h2⟩:=this
  refine Option.isSome_iff_exists.mp (PySem.W.cellsFrom_some scope.names _ _ ?_)
  rcases h2 with rfl | rfl
  ·exact .inl h1
  ·exact .inr (fI _ _ (.inl (PySem.mem_of_lookup h1)))
 ·-- cab
  have hx':scope.names.lookup x=some .cell:=beq_iff_eq.mp hx
  rcases cells_cases h with⟨_,q⟩ | ⟨_,q⟩
  ·have:=eJ S.nd q
   rw [hx'] at this;cases this
  ·exact Nat.le_trans (Nat.le_add_right _ 2) q
 ·-- exf
  refine⟨Nat.ne_of_lt (Nat.lt_succ_of_lt (fplt b hb)),λx c h=>?_⟩
  rcases cells_cases h with⟨q,_⟩ | ⟨_,q⟩
  ·exact (hf b hb).2.2.2.2.1 x c q
  ·intro e
   exact absurd (Nat.lt_of_lt_of_le (Nat.lt_succ_of_lt (Nat.lt_succ_of_lt (fplt b hb))) (e ▸ q)) (Nat.lt_irrefl _)
 ·-- noex
  have hb':b ∈ fp:=hb
  rcases (hf b hb').2.2.2.1 with q | q
  ·exact I.ok.noex b o e q
  ·exact absurd (Nat.lt_of_lt_of_le (Heap.lt_size (I.ok.bs b o e).1) q) (Nat.lt_irrefl _)
 ·-- exfs
  intro hb2
  rcases List.mem_cons.mp (I.stkSub b hb2) with q | q
  ·exact (hf b hb).2.1 q
  ·exact (hf b hb).2.2.1 q
 ·-- loc
  obtain⟨j,e1,e2,e3⟩:=S.emb σ I.len i x v h1 h2
  have kx:=S.free (x,.free) (PySem.mem_of_lookup e3) rfl
  have kx':X.env.kindOf x=some .cell\/X.env.kindOf x=some .free:=kx
  obtain⟨m,hn,hl⟩:=I.loc
  obtain⟨u,ru,lk⟩:=hl j x v e1 e2 (.inr kx')
  refine⟨u,ru,.inr ⟨?_,?_⟩⟩
  ·rcases gE (env:=X.env) e3 with q | q
   ·exact .inr q
   ·exact .inl q
  ·rcases lk with⟨z,_⟩ | ⟨_,c,hc,hcell⟩
   ·rcases kx' with q | q<;>(rw [z] at q;cases q)
   ·obtain⟨c',hc'⟩:=Option.isSome_iff_exists.mp (PySem.W.cellsFrom_some scope.names (s.heap.objs.size+2) (ck X.env.cells scope.names []) (x:=x) (.inr (fI _ _ (.inl (PySem.mem_of_lookup e3)))))
    rcases cells_cases hc' with⟨q,_⟩ | ⟨q,_⟩
    ·rw [hc] at q
     cases q
     exact⟨c,hc',hcell.keeps hk⟩
    ·have:=eJ S.nd q
     rw [e3] at this;cases this
 ·-- cell
  have h':(cellsFrom (s.heap.objs.size+2) scope.names (ck X.env.cells scope.names [])).lookup x=some c:=h
  have:=en scope.names ((s.heap.push lo).push { cls:=.type "dict",data:=.dict #[] }) (ck X.env.cells scope.names []) (λp hp=>by
   obtain⟨z,hz⟩:=accmem p hp
   obtain⟨v,q⟩:=I.cell z p.2 hz
   exact⟨v,q.keeps λb o e=>Heap.get?_push_of_some _ (Heap.get?_push_of_some _ e)⟩) (x,c) (by rw [hsz2];exact PySem.mem_of_lookup h')
  exact this
 ·-- freeC
  rcases cells_cases h with⟨q,_⟩ | ⟨_,q⟩
  ·exact I.freeC x c q
  ·exact I.hok.fresh (Nat.le_trans (Nat.le_add_right _ 2) q)
 ·-- pin
  have hp':p=(s.heap.objs.size,lo):=by
   have:p ∈ ([]:List (Addr×Obj))++[(s.heap.objs.size,lo)]:=hp
   simpa using this
  subst hp'
  refine⟨pushCells_keeps _ _ _ _ (Heap.get?_push_of_some _ (Heap.get?_push_size _ hfr)),I.hok.fresh (Nat.le_refl _),Nat.ne_of_lt (Nat.lt_succ_self _),λhb=>?_,hlo⟩
  rcases List.mem_cons.mp (I.stkSub _ hb) with q | q
  ·exact absurd I.lt (by rw [<-q];exact Nat.lt_irrefl _)
  ·exact I.nofs (Nat.le_refl _) q
end
end L2
namespace L2
open PySem PySem.Spec PyProof.Rows
noncomputable def PTs (X:Cx) (ifs:List Expr) (t:TT):Prop:=
 ∀ (pins:List (Addr×Obj)) (s:Shared) (σ:St) (H:Hp) (Q:Bool->Hp->Prop),Inv X pins σ H s->t σ H Q->
  wpAny (model X.prog X.w) X.A (forIn ifs true λc r=>if r=true then do let ok <-isTrue c X.env (eval c X.env);pure (ForInStep.yield ok) else pure (ForInStep.yield r)) (TP X pins σ Q) X.xe s
noncomputable def BY:TT:=λ_ H Q=>Q true H
theorem yn {X:Cx}:PTs X [] BY:=λ_ _ _ H _ I h=>wpAny_tests_nil ⟨H,I,h⟩
theorem yo {X:Cx}{c:Expr}{t:TT} (hc:PT X c t):PTs X [c] t:=λpins s σ H Q I h=>wpAny_tests_one (hc pins s σ H Q I h)
noncomputable def Sub (σ σ':St):Prop:=σ.length=σ'.length/\∀ (i:Nat) (v:V),σ[i]?=some (some v)->σ'[i]?=some (some v)
noncomputable def A0 (J:It) (σe:St) (g:TG) (tt:TT) (te:TE) (H1:Hp) (Q:VK):Prop:=∃ W:Nat->Nat->List V->Hp->Prop,(∃ m,W 0 m [] H1)/\∀ i m ys H,W i m ys H->
 (J.stop i H/\∀ D,H D=none->Q (.ref D) (upd H D (.lst ys)))\/
 (J.go i H/\ys.length < sizeLine/\∃ N:List V->Hp->Prop,(∀ ys' H',N ys' H'->∃ m',m' < m/\W (i+1) m' ys' H')/\∀ x H',J.yld i H x H'->g x σe H' λσ2 H2=>Sub σe σ2/\tt σ2 H2 λb H3=>if b=true then te σ2 H3 λv H4=>N (ys++[v]) H4 else N ys H3)
noncomputable def tLc (emb:St->St) (wi:TI) (g:TG) (tt:TT) (te:TE):TE:=λσ H Q=>wi σ H λJ H1=>A0 J (emb σ) g tt te H1 Q
section
variable {X:Cx}{scope:Scope}{Nc:List Str}{emb:St->St}{elt iter tg:Expr}{ifs:List Expr}{pos:Pos}{wi:TI}{g:TG}{tt:TT}{te:TE}
theorem A9 (S:fQ X scope Nc emb) (hc:X.calm=true) (hi:PI X tg iter wi)
  (hg:∀ cells s H C fp,PG (lcX X scope cells Nc s H C fp) tg g) (ht:∀ cells s H C fp,PTs (lcX X scope cells Nc s H C fp) ifs tt) (he:∀ cells s H C fp,PE (lcX X scope cells Nc s H C fp) elt te)
  (hs:∀ x,foldedSetIterable iter X.env x=pure x:=by intro _;rfl):PE X (.ListComp elt [⟨tg,iter,ifs,0⟩] scope pos) (tLc emb wi g tt te):=by
 intro pins s σ H Q I h
 rw [eval_ListComp]
 refine wpAny_comprehension_free (use:=none) rfl hs (iQ (S.clos I.ok)) S.kind (λx hx hl=>eJ S.nd (by rw [<-hl];exact hx)) ?_
 refine thn (hi pins s σ H _ I h) λv s1 h1=>thn h1 λitv s2 h2=>?_
 obtain⟨it,fp,tn,J,H2,e,I2,T,st2,f2,W,⟨m0,w0⟩,turn⟩:=h2
 subst e
 refine wpAny_newObj_type (jg ?_)
 rw [show (s2.heap.push { cls:=.type "list",dict:=none,data:=.seq ([]:List Value).toArray }).objs.size=s2.heap.objs.size+1 from Heap.size_push ..]
 generalize hD:s2.heap.objs.size=D
 generalize hlo:({ cls:=.type "list",dict:=none,data:=.seq ([]:List Value).toArray }:Obj)=lo
 have fplt:∀ b ∈ fp,b < s2.heap.objs.size:=λb hb=>by obtain⟨o,e,_⟩:=T.obj _ _ st2 b hb;exact Heap.lt_size e
 have I3:=pN (lo:=lo) S I2 f2 (λb hb=>by obtain⟨o,e,_⟩:=T.obj _ _ st2 b hb;exact⟨o,e⟩) (by rw [<-hlo];intro v z;cases z) (by rw [<-hlo];rfl)
 rw [hD] at I3
 generalize hcells:cellsFrom (D+2) scope.names (ck X.env.cells scope.names [])=cells at I3
 generalize hX':lcX X scope cells Nc s2 H2 (D+1) fp=X' at I3
 have hfpX:∀ {H':Hp}{ps:List (Addr×Obj)},(∀ b ∈ fp,H' b=none)->(∀ p ∈ ps,p.1=D)->∀ b ∈ fp,gT X' ps H' b:=λ{H' ps} hn hps b hb=>by
  have ok:=I3.ok
  refine⟨hn b hb,?_,?_,.inl (by rw [<-hX'];exact hb),?_,λp hp=>?_⟩
  ·exact (ok.exf b (by rw [<-hX'];exact hb)).1
  ·exact ok.exfs b (by rw [<-hX'];exact hb)
  ·exact (ok.exf b (by rw [<-hX'];exact hb)).2
  ·have hp':p ∈ ([]:List (Addr×Obj))++ps:=by rw [<-hX'] at hp;exact hp
   have e:p.1=D:=hps p (by simpa using hp')
   rw [e,<-hD]
   exact Nat.ne_of_gt (fplt b hb)
 have Dex:D ∈ X'.ex\/X'.s₀.heap.objs.size<=D:=.inr (by rw [<-hX',<-hD];exact Nat.le_refl _)
 have Dloc:D≠X'.env.locals:=by rw [<-hX'];exact Nat.ne_of_lt (Nat.lt_succ_self _)
 have pD:=I3.pin (D,lo) (by rw [<-hX'];exact List.mem_append_right _ List.mem_cons_self)
 have Dfs:D ∉ X'.fs:=pD.2.2.2.1
 have Dcell:∀ x c,X'.env.cells.lookup x=some c->c≠D:=λx c hc' e=>by
  obtain⟨v,o,ho,hd⟩:=I3.cell x c hc'
  rw [e,pD.1] at ho
  cases ho
  exact pD.2.2.2.2 v hd
 -- the loop
 have loop:∀ s3:Shared,s3={ s2 with heap:=pushCells ((s2.heap.push lo).push { cls:=.type "dict",data:=.dict #[] }) scope.names }->
   codeAny (model X.prog X.w) X.A (.compLoop (.ListComp elt [⟨tg,iter,ifs,0⟩] scope pos) 0 (.ref it) (.ref D) (compEnvC scope cells (D+1) X.env))
    (compPost (model X.prog X.w) X.A X.xe none (EP X pins σ Q) (.ref D) (D+1)) s3:=by
  rintro s3 rfl
  refine d4 (λn s'=>∃ i ys its k H',Inv X' [(D,{ cls:=.type "list",data:=.seq its.toArray k })] (emb σ) H' s'/\aT ys its/\tn i s'.heap/\(∀ b ∈ fp,H' b=none)/\ys.length<=sizeLine/\W i n ys H') ?_ m0
   ⟨0,[],[],0,H2,?_,.nil,?_,λb hb=>(f2 b hb).1,Nat.zero_le _,w0⟩
  ·rintro n s4 ⟨i,ys,its,k,H4,I4,rv,st4,fr4,hlen,w4⟩
   have hps:∀ p ∈ [(D,({ cls:=.type "list",data:=.seq its.toArray k }:Obj))],p.1=D:=λp hp=>by
    have:=List.mem_singleton.mp hp
    rw [this]
   rcases turn i n ys H4 w4 with⟨stop,qn⟩ | ⟨go,hlt,N,hN,step⟩
   ·-- the end
    have TD:=T.done X' (by rw [<-hX'];rfl) (by rw [<-hX'];rfl) (by rw [<-hX'];rfl) (by rw [<-hX'];exact hc) i _ s4 (emb σ) H4 (λ_ _=>False) I4 (hfpX fr4 hps) st4 stop
    rw [show X'.A=X.A by rw [<-hX'];rfl] at TD
    refine thn TD λr s5 ⟨hr,I5⟩=>?_
    subst hr
    obtain⟨m5,hn5,_⟩:=id I5.loc
    have eC:X'.env.locals=D+1:=by rw [<-hX'];rfl
    rw [eC] at hn5
    refine⟨m5,hn5,λh' hsb=>?_⟩
    have pD5:=I5.pin (D,{ cls:=.type "list",data:=.seq its.toArray k }) (by rw [<-hX'];exact List.mem_append_right _ List.mem_cons_self)
    have neC:∀ b u,H4 b=some u->b≠D+1:=λb u e z=>by
     have:=I5.free
     rw [eC,<-z,e] at this
     cases this
    have hD4:H4 D=none:=pD5.2.1
    have un:=I5.base
    have un':Un (frs X.stack) fp H2 H4 s2.heap s5.heap:=by rw [<-hX'] at un;exact un
    have old_ne:∀ b o,s2.heap.get? b=some o->b≠D/\b≠D+1:=λb o e=>by
     have q:=Heap.lt_size e
     rw [hD] at q
     exact⟨Nat.ne_of_lt q,Nat.ne_of_lt (Nat.lt_succ_of_lt q)⟩
    have h2D:H2 D=none:=by rw [<-hD];exact I2.fresh
    have hok':HOk X.prog X.w H4 h':=λb u e=>by
     have ob:bY X.prog X.w H4 s5.heap b u:=by have:=I5.hok b u e;rw [<-hX'] at this;exact this
     refine ob.stay (λc v hcv q=>(hsb.2 c ?_).trans q) (λ_ q=>q) λ_ _ q=>q
     rcases hcv with z | z
     ·rw [z];exact neC b u e
     ·exact neC c _ z
    have hokD:HOk X.prog X.w (upd H4 D (.lst ys)) h':=λb u e=>by
     by_cases hb:b=D
     ·subst hb
      rw [aX] at e
      cases e
      exact⟨hlen,its,k,rv,(hsb.2 b (Nat.ne_of_lt (Nat.lt_succ_self _))).trans pD5.1⟩
     ·rw [aD hb] at e
      refine (hok' b u e).stay (λ_ _ _ q=>q) (λc q=>?_) λc z q=>?_
      all_goals first
       | (rw [aD (aO q hD4)];exact q)
       | (rw [aD (aO z hD4)];exact z)
    refine⟨.ref D,upd H4 D (.lst ys),?_,rfl,qn D hD4⟩
    refine I2.call' (s':={ s5 with heap:=h' }) (ch:=fp) ?_ ⟨λb o e nb hb hx=>?_,λb o e nb hb hx=>?_,λb o e nb hx=>?_,λb o e hx=>?_,λb xs e=>?_,λb o u e=>?_,λb ps e=>?_⟩ hokD I5.bare (λb hb=>?_)
    ·have:=I5.os
     rw [<-hX'] at this
     exact this
    ·exact (hsb.2 b (old_ne b o e).2).trans (un'.keep b o e nb hb hx)
    ·obtain⟨sl,q⟩:=un'.slot b o e nb hb hx
     exact⟨sl,(hsb.2 b (old_ne b o e).2).trans q⟩
    ·rw [aD (old_ne b o e).1]
     exact un'.free b o e nb hx
    ·obtain⟨o',q⟩:=un'.there b o e hx
     exact⟨o',(hsb.2 b (old_ne b o e).2).trans q⟩
    ·rw [aD (aO e h2D)]
     exact un'.tups b xs e
    ·rw [aD (aO e h2D)]
     exact un'.frzs b o u e
    ·obtain⟨m,q⟩:=un'.tbls b ps e
     exact⟨m,by rw [aD (aO e h2D)];exact q⟩
    ·obtain⟨q0,q1,q2,q3,q4,q5⟩:=f2 b hb
     exact⟨q3,q1,q4,q5⟩
   ·-- a turn
    have hA:X'.A=X.A:=by rw [<-hX'];rfl
    have hP:X'.prog=X.prog:=by rw [<-hX'];rfl
    have hw:X'.w=X.w:=by rw [<-hX'];rfl
    have hE:X'.env=compEnvC scope cells (D+1) X.env:=by rw [<-hX'];rfl
    have hxe:X'.xe=λ_ _=>False:=by rw [<-hX'];rfl
    have TI':=T.item X' hP hw (by rw [<-hX'];rfl) (by rw [<-hX'];exact hc) i _ s4 (emb σ) H4 (λ_ _=>False) I4 (hfpX fr4 hps) st4 go
    rw [hA] at TI'
    refine thn TI' λr s5 ⟨u,hr,h5⟩=>?_
    subst hr
    refine thn h5 λ_ s6 ⟨x,H6,I6,r6,y6,st6,fr6⟩=>?_
    have I6':=I6.pinned (hfpX fr6 hps) (T.obj _ _ st6)
    have G:=hg cells s2 H2 (D+1) fp
    have TT':=ht cells s2 H2 (D+1) fp
    have EE:=he cells s2 H2 (D+1) fp
    rw [hX'] at G TT' EE
    have G':=G _ s6 (emb σ) H6 x u _ I6' r6 (step x H6 y6)
    rw [hA,hP,hw,hE,hxe] at G'
    refine thn G' λ_ s7 ⟨σ7,H7,I7,sb7,q7⟩=>?_
    have T':=TT' _ s7 σ7 H7 _ I7 q7
    rw [hA,hP,hw,hE,hxe] at T'
    refine thn T' λok s8 ⟨H8,I8,q8⟩=>?_
    -- what is pinned
    have pin_fp:∀ {σ9:St}{H9:Hp}{s9:Shared},Inv X' ([(D,({ cls:=.type "list",data:=.seq its.toArray k }:Obj))]++jJ fp s6.heap) σ9 H9 s9->tn (i+1) s9.heap/\∀ b ∈ fp,H9 b=none:=λ{σ9 H9 s9} I9=>
     ⟨T.keep _ _ _ st6 λb hb o e=>(I9.pin (b,o) (List.mem_append_right _ (List.mem_append_right _ (dz hb e)))).1,λb hb=>by
      obtain⟨o,e,_⟩:=T.obj _ _ st6 b hb
      exact (I9.pin (b,o) (List.mem_append_right _ (List.mem_append_right _ (dz hb e)))).2.1⟩
    cases ok with
    | false=>
     rw [if_neg (by decide)] at q8
     rw [if_neg (by decide)]
     obtain⟨m',hm,w8⟩:=hN _ _ q8
     exact⟨m',hm,i+1,ys,its,k,H8,I8.unpinned.weak sb7.1 sb7.2,rv,(pin_fp I8).1,(pin_fp I8).2,hlen,w8⟩
    | true=>
     rw [if_pos rfl] at q8
     rw [if_pos rfl]
     have E':=EE _ s8 σ7 H8 _ I8 q8
     rw [hA,hP,hw,hE,hxe] at E'
     refine thn E' λy s9 ⟨v9,H9,I9,r9,n9⟩=>?_
     obtain⟨m',hm,w9⟩:=hN _ _ n9
     have pD9:=I9.pin (D,{ cls:=.type "list",data:=.seq its.toArray k }) (List.mem_append_right _ (List.mem_append_left _ List.mem_cons_self))
     have hl:=rv.length
     have I9n:Inv X' [] σ7 H9 s9:=I9.pins_of λp hp=>nomatch hp
     refine call_meets F.slot_list_append ⟨_,pD9.1,rfl⟩ F.entry_list_append (F.args_list_append_2 _ _) (PySem.list_append D its.toArray k y (by rw [List.size_toArray];lia)) ⟨pD9.1,?_⟩
     have up:∃ k':Nat,(s9.heap.update D (Obj.mapSeq λxs=>xs.push y)).get? D=some { cls:=.type "list",data:=.seq (its++[y]).toArray k' }:=by
      have q:=PySem.IsL.update pD9.1 (λxs:Array Value=>xs.push y)
      simp only [List.push_toArray] at q
      exact⟨_,q⟩
     obtain⟨k',up⟩:=up
     have hoth:∀ b o,b≠D->s9.heap.get? b=some o->(s9.heap.update D (Obj.mapSeq λxs=>xs.push y)).get? b=some o:=λb o hb e=>(Heap.get?_update_other s9.heap _ (Ne.symm hb)).trans e
     have I10:=I9n.turned (t':=s9.toks) hoth pD9.2.1 Dloc Dex Dcell (λp hp=>absurd (show p ∈ ([]:List (Addr×Obj)) by rw [<-hX'] at hp;exact hp) (by simp))
     refine⟨m',hm,i+1,ys++[v9],its++[y],k',H9,(I10.weak sb7.1 sb7.2).pins_of (λp hp=>?_),rv.append (.cons r9 .nil),T.keep _ _ _ (pin_fp I9).1 (λb hb o e=>hoth b o (by rw [<-hD];exact Nat.ne_of_lt (fplt b hb)) e),(pin_fp I9).2,?_,w9⟩
     ·have:=List.mem_singleton.mp hp
      subst this
      exact⟨up,pD9.2.1,Dloc,Dfs,λv z=>by cases z⟩
     ·rw [List.length_append,List.length_singleton]
      lia
  ·have q:lo={ cls:=.type "list",data:=.seq ([]:List Value).toArray 0 }:=hlo.symm
   rw [<-q]
   exact I3
  ·exact T.keep _ _ _ st2 λb hb o e=>pushCells_keeps _ _ b o (Heap.get?_push_of_some _ (Heap.get?_push_of_some _ e))
 refine codeAny_compStart_list ?_ ?_
 ·exact loop _ rfl
 ·refine T.self X.A 0 _ _ _ (T.keep _ _ _ st2 λb hb o e=>pushCells_keeps _ _ b o (Heap.get?_push_of_some _ (Heap.get?_push_of_some _ e))) ?_
  exact loop _ rfl
end
end L2
namespace L2
open PySem PySem.Spec PyProof.Rows
open PySem.AutoSeq1 (wpAny_loadPart')
section
variable {prog:Program}{w:World}{A:Around}{E:Value->Shared->Prop}{s:Shared}
theorem fE {it l:Addr}{i:Nat}{items}{x:Value}{Q:Value->Shared->Prop} (hit:s.heap.IsTupleIter it l i)
  (hl:s.heap.IsTuple l items) (hx:items[i]?=some x)
  (hQ:∀ h',h'.IsTupleIter it l (i+1)->Heap.SameBut it s.heap h'->Q x { s with heap:=h' }) :
  wpAny (model prog w) A (Builtin.SmallTypes.nextOf (.ref it)) Q E s:=by
 obtain⟨o,ho,hc,hd⟩:=id hit
 obtain⟨ol,hol,_,nl,hdl⟩:=hl
 unfold Builtin.SmallTypes.nextOf
 refine wpAny_bind (wpAny_callSpecial?_slot (name:=Str.ofString "__next__") hit.typeIs F.slot_tuple_iterator_next
  (wpAny_call_entry F.slot_tuple_iterator_next hit.typeIs F.entry_tuple_iterator_next ?_ (F.args_tuple_iterator_next_1 _)))
 show wpAny _ _ (field (.ref it) 0 >>= _) _ _ s
 refine wpAny_bind (wpAny_field ho hd (x:=.ref l) rfl ?_)
 show wpAny _ _ (if (Value.ref l==Value.none)=true then _ else _) _ _ s
 rw [if_neg (show ¬ ((Value.ref l==Value.none)=true) from Bool.false_ne_true)]
 show wpAny _ _ (field (.ref it) 1 >>= _) _ _ s
 refine wpAny_bind (wpAny_field ho hd (x:=.int i 0) rfl ?_)
 show wpAny _ _ (seqItems? (.ref l) >>= _) _ _ s
 refine wpAny_bind (wpAny_seqItems hol hdl ?_)
 simp only [Int.toNat_natCast,hx]
 refine wpAny_bind (wpAny_setField ho hd (by simp) (wpAny_pure ⟨x,rfl,wpAny_pure (hQ _ ?_ (Heap.SameBut.update ..))⟩))
 exact⟨_,Heap.get?_update_self _ ho (Obj.isFreed_of_fields (Obj.data_mapFields hd _)),(Obj.cls_mapFields ..).trans hc,by
  rw [Obj.data_mapFields hd];simp [rawInt]⟩
theorem gn {it l:Addr}{i:Nat}{items}{Q:Value->Shared->Prop} (hh:A.handled=none)
  (hit:s.heap.IsTupleIter it l i) (hl:s.heap.IsTuple l items) (hx:items[i]?=none)
  (hE:∀ h' e,Heap.ExtBut it s.heap h'->(∃ o,h'.get? e=some o/\o.cls=.type "StopIteration")->E (.ref e) { s with heap:=h' }) :
  wpAny (model prog w) A (Builtin.SmallTypes.nextOf (.ref it)) Q E s:=by
 obtain⟨o,ho,hc,hd⟩:=id hit
 obtain⟨ol,hol,_,nl,hdl⟩:=hl
 unfold Builtin.SmallTypes.nextOf
 refine wpAny_bind (wpAny_callSpecial?_slot (name:=Str.ofString "__next__") hit.typeIs F.slot_tuple_iterator_next
  (wpAny_call_entry F.slot_tuple_iterator_next hit.typeIs F.entry_tuple_iterator_next ?_ (F.args_tuple_iterator_next_1 _)))
 show wpAny _ _ (field (.ref it) 0 >>= _) _ _ s
 refine wpAny_bind (wpAny_field ho hd (x:=.ref l) rfl ?_)
 show wpAny _ _ (if (Value.ref l==Value.none)=true then _ else _) _ _ s
 rw [if_neg (show ¬ ((Value.ref l==Value.none)=true) from Bool.false_ne_true)]
 show wpAny _ _ (field (.ref it) 1 >>= _) _ _ s
 refine wpAny_bind (wpAny_field ho hd (x:=.int i 0) rfl ?_)
 show wpAny _ _ (seqItems? (.ref l) >>= _) _ _ s
 refine wpAny_bind (wpAny_seqItems hol hdl ?_)
 simp only [Int.toNat_natCast,hx]
 refine wpAny_bind (wpAny_rule (wpAny_bind (wpAny_setField ho hd (by simp) ?_)))
 show wpAny _ _ (newExc (.type "StopIteration") [] >>= _) _ _ _
 refine wpAny_bind ?_
 simp only [newExc,newTuple]
 refine wpAny_bind (wpAny_newObj_type ?_ (by size_fits))
 refine wpAny_bind (m:=firstArgMember _ _) (wpAny_of_eq (a:=Value.none) (by first | rfl | (simp only [firstArgMember];rfl)) ?_)
 refine wpAny_newObj_type ?_ (by size_fits)
 simp only [raiseNew]
 refine wpAny_bind (wpAny_handled ?_)
 first | rw [show A.in1.handled=none from hh] | rw [hh]
 refine wpAny_bind (wpAny_pure (wpAny_throw ?_))
 exact hE _ _ (((Heap.SameBut.update ..).extBut.push _).push _) ⟨_,Heap.get?_push_size _ rfl,rfl⟩
theorem im (hh:A.handled=none) (it l:Addr) (hne:l≠it) (items:Array Value) :
  Draws prog w A it [it,l] items.size (λi v=>items[i]?=some v) (λi h=>h.IsTupleIter it l i/\h.IsTuple l items) where
 live:=λ_ _ st=>let ⟨o,ho,_⟩:=st.1;⟨o,ho⟩
 frame:=λ_ _ _ st hk=>⟨st.1.at λo e=>hk it (by simp) o e,by
  obtain⟨o,e,r⟩:=st.2
  exact⟨o,hk l (by simp) o e,r⟩⟩
 item:=λi s Q E hi st hQ=>by
  refine fE st.1 st.2 (x:=items[i]) (by simp [hi]) λh' hit' hs'=>?_
  refine hQ _ h' s.toks (by simp [hi]) ⟨hit',?_⟩ hs'
  obtain⟨o,e,r⟩:=st.2
  exact⟨o,(hs'.2 l hne).trans e,r⟩
 done:=λs Q E st hE=>gn hh st.1 st.2 (by simp) hE
end
theorem iq (l:Addr) (items:Array Value) (n:Nat) (dct:Option Addr) (sl:Array (Option Value)) :
  Meets (Builtin.«enumerate.__new__» ⟨[.type "enumerate",.ref l],[]⟩) (λ_ R s=>s.heap.get? l=some { cls:=.type "tuple",dict:=dct,data:=.seq items n,slots:=sl }/\
   R (.ok (.ret (.ref (s.heap.push { cls:=.type "tuple_iterator",data:=.fields #[.ref l,.int 0 0] }).objs.size)))
    { s with heap:=(s.heap.push { cls:=.type "tuple_iterator",data:=.fields #[.ref l,.int 0 0] }).push { cls:=.type "enumerate",data:=.fields #[.none,.bool false,.ref s.heap.objs.size,rawInt 0,.none,.none] } }):=
 .of_wp λprog w A R s h=>by
  obtain⟨hp,g,d,tk,os⟩:=s;obtain⟨hl,h⟩:=h
  have hsub:=sub_enumerate
  have hL:Heap.IsTuple (Shared.heap ⟨hp,g,d,tk,os⟩) l items:=⟨_,hl,rfl,n,rfl⟩
  wp_walk using wpAny_loadPart' hl
  refine wpAny_stack_any λst=>wpAny_pure ?_
  split
  ·rename_i c _ _ _ _ _
   cases (c==Value.type "enumerate")
   ·wp_walk using wpAny_loadPart' hl,wpAny_pyIter_tuple hL
    exact⟨_,rfl,h⟩
   ·wp_walk using wpAny_loadPart' hl,wpAny_pyIter_tuple hL
    exact⟨_,rfl,h⟩
  ·wp_walk using wpAny_loadPart' hl,wpAny_pyIter_tuple hL
   exact⟨_,rfl,h⟩
theorem gS {prog:Program}{w:World}{A:Around}{E:Value->Shared->Prop}{s:Shared}{l:Addr}{items:Array Value}{Q:Value->Shared->Prop} (hL:s.heap.IsTuple l items)
  (h:∀ h',IsEnum h' (s.heap.objs.size+1) s.heap.objs.size 0 .none->h'.IsTupleIter s.heap.objs.size l 0->h'.objs.size=s.heap.objs.size+2->
    (∀ b o,s.heap.get? b=some o->h'.get? b=some o)->Q (.ref (s.heap.objs.size+1)) { s with heap:=h' }) :
  wpAny (model prog w) A (call (.type "enumerate") [.ref l]) Q E s:=by
 obtain⟨⟨c,dct,dt,sl⟩,hl,hc,n,hd⟩:=hL
 replace hc:c=.type "tuple":=hc
 replace hd:dt=.seq items n:=hd
 subst hc hd
 refine callType_new F.called_enumerate (by decide) (F.typeCall_enumerate_1 _) (F.newCall_enumerate_1 _) (λobj=>F.args_object_init_2 obj _) F.entry_enumerate_new
  (iq l items n dct sl) ⟨hl,?_⟩
 have hz:(s.heap.push { cls:=.type "tuple_iterator",data:=.fields #[.ref l,.int 0 0] }).objs.size=s.heap.objs.size+1:=Heap.size_push ..
 show _/\_
 rw [hz]
 have he:IsEnum ((s.heap.push { cls:=.type "tuple_iterator",data:=.fields #[.ref l,.int 0 0] }).push
   { cls:=.type "enumerate",data:=.fields #[.none,.bool false,.ref s.heap.objs.size,rawInt 0,.none,.none] }) (s.heap.objs.size+1) s.heap.objs.size 0 .none:=by
  have:=Heap.get?_push_size (s.heap.push { cls:=.type "tuple_iterator",data:=.fields #[.ref l,.int 0 0] })
   (o:={ cls:=.type "enumerate",data:=.fields #[.none,.bool false,.ref s.heap.objs.size,rawInt 0,.none,.none] }) rfl
  rw [hz] at this;exact this
 refine⟨⟨_,he,rfl⟩,h _ he ⟨_,Heap.get?_push_of_some _ (Heap.get?_push_size _ rfl),rfl,rfl⟩ (by rw [Heap.size_push,hz]) λb o x=>Heap.get?_push_of_some _ (Heap.get?_push_of_some _ x)⟩
section
variable {X:Cx}{pins:List (Addr×Obj)}{σ:St}{H:Hp}{s:Shared}{h':Heap}{fp:List Addr}
theorem gT.ch (hf:∀ b ∈ fp,gT X pins H b):∀ b ∈ fp,(b ∈ X.ex\/X.s₀.heap.objs.size<=b)/\b≠X.env.locals/\(∀ x c,X.env.cells.lookup x=some c->c≠b)/\∀ p ∈ X.pn++pins,p.1≠b:=λb hb=>
 let ⟨_,f1,_,f3,f4,f5⟩:=hf b hb
 ⟨f3,f1,f4,f5⟩
theorem Inv.turns {t':Nat} (I:Inv X pins σ H s) (hf:∀ b ∈ fp,gT X pins H b) (k:∀ b o,b ∉ fp->s.heap.get? b=some o->h'.get? b=some o):Inv X pins σ H { s with heap:=h',toks:=t' }:=by
 have nit:∀ b u,H b=some u->b ∉ fp:=λb u e z=>by have:=(hf b z).1;rw [e] at this;cases this
 refine I.step (g':=s.gens) (d':=s.drawn) (ch:=fp) (gT.ch hf) (λb o _ _ hc e _=>k b o hc e) (λb o _ _ hc e _=>⟨o.slots,k b o hc e⟩) (λ_ _ _ _ n=>n)
  (λb o hc e=>⟨o,k b o hc e⟩) (λ_ _ e=>e) (λ_ _ _ e=>e) (λb ps e=>⟨#[],by rw [e];simp⟩) (λm hm=>?_) (λb u e=>?_) I.bare
 ·obtain⟨o,es,ep,ho,r⟩:=hm
  exact⟨o,es,ep,k _ o (λz=>(hf _ z).2.1 rfl) ho,r⟩
 ·refine (I.hok b u e).stay (λc v hc q=>k c v ?_ q) (λ_ q=>q) λ_ _ q=>q
  rcases hc with z | z
  ·rw [z];exact nit b u e
  ·exact nit c _ z
theorem Inv.turnsT {t':Nat}{T:Addr}{xs:List V}{its:Array Value} (I:Inv X pins σ H s) (hf:∀ b ∈ fp,gT X pins H b) (k:∀ b o,b ∉ fp->s.heap.get? b=some o->h'.get? b=some o)
  (hT:s.heap.objs.size<=T) (ht:dE h' T its) (rv:aT xs its.toList) (hz:xs.length<=sizeLine):Inv X pins σ (upd H T (.tup xs)) { s with heap:=h',toks:=t' }:=by
 have nit:∀ b u,H b=some u->b ∉ fp:=λb u e z=>by have:=(hf b z).1;rw [e] at this;cases this
 have hTn:H T=none:=I.hok.fresh hT
 have lt:∀ b o,s.heap.get? b=some o->b≠T:=λb o e=>Nat.ne_of_lt (Nat.lt_of_lt_of_le (Heap.lt_size e) hT)
 refine I.step (g':=s.gens) (d':=s.drawn) (ch:=fp) (gT.ch hf) (λb o _ _ hc e _=>k b o hc e) (λb o _ _ hc e _=>⟨o.slots,k b o hc e⟩) (λb o _ e n=>by rw [aD (lt b o e)];exact n)
  (λb o hc e=>⟨o,k b o hc e⟩) (λb _ e=>by rw [aD (aO e hTn)];exact e) (λb _ _ e=>by rw [aD (aO e hTn)];exact e) (λb ps e=>⟨#[],by rw [aD (aO e hTn),e];simp⟩) (λm hm=>?_) (λb u e=>?_) I.bare
 ·obtain⟨o,es,ep,ho,r⟩:=hm
  exact⟨o,es,ep,k _ o (λz=>(hf _ z).2.1 rfl) ho,r⟩
 ·by_cases hb:b=T
  ·subst hb
   rw [aX] at e
   cases e
   refine⟨hz,its.toList,rv,?_⟩
   show dE h' b its.toList.toArray
   simpa using ht
  ·rw [aD hb] at e
   refine (I.hok b u e).stay (λc v hc q=>k c v ?_ q) (λc q=>?_) λc z q=>?_
   ·rcases hc with z | z
    ·rw [z];exact nit b u e
    ·exact nit c _ z
   all_goals first
    | (rw [aD (aO q hTn)];exact q)
    | (rw [aD (aO z hTn)];exact z)
end
noncomputable def Ite (S:Hp->List V->Prop):It:=
 ⟨λi H=>∃ xs x,S H xs/\xs[i]?=some x,λi H x H'=>∃ T v,(∀ xs,S H xs->xs[i]?=some v)/\H T=none/\x=.ref T/\H'=upd H T (.tup [.int i,v]),λi H=>∃ xs,S H xs/\xs.length=i⟩
theorem rB {P:Program}{w:World}{K:PySem.W.Frag}{elts:List Expr}{k:Nat}{pos:Pos} (a it e:Addr) (hei:e≠it) (hae:a≠e) (hai:a≠it) :
  rA P w K (.Tuple elts k pos) (Ite λH xs=>SqL K H a xs) [e,it] e (λi h=>(∃ old,IsEnum h e it i old)/\h.IsListIter it a i) where
 mem:=by simp
 obj:=λi h st b hb=>by
  rcases List.mem_cons.mp hb with rfl | hb
  ·obtain⟨⟨old,q⟩,_⟩:=st
   exact⟨_,q,λv z=>by cases z⟩
  ·rw [List.mem_singleton.mp hb]
   obtain⟨_,o,e,c,d⟩:=st
   exact⟨o,e,λv z=>by rw [d] at z;cases z⟩
 keep:=λi h h' st kk=>⟨let ⟨old,q⟩:=st.1;⟨old,kk e (by simp) _ q⟩,st.2.at λo q=>kk it (by simp) o q⟩
 item:=by
  intro X hP hw hK hc i pins s σ H E I hf st hg
  subst hP hw hK
  obtain⟨xs,x,hq,hx⟩:=hg
  obtain⟨its,rv,p,hz⟩:=I.list hq
  obtain⟨u,hu,ru⟩:=rv.get hx
  have W:=WalksT.enumerateD (Draws.list (prog:=X.prog) (w:=X.w) (A:=X.A.in1) (I.ok.hd hc) it a hai its.toArray) e hei (by simp [hei,Ne.symm hae]) (by simp)
  have hi:i < its.toArray.size:=by
   have:=(List.getElem?_eq_some_iff.mp hu).1
   simpa using this
  obtain⟨⟨ol,he0⟩,hit0⟩:=st
  refine wpAny_pyNext_enum_itemD (Draws.list (prog:=X.prog) (w:=X.w) (A:=X.A.in1) (I.ok.hd hc) it a hai its.toArray) he0 ⟨hit0,p.isList⟩ hi hei (by simp [hei,Ne.symm hae]) λy h1 t hy ho hs' ht hsz hk=>⟨_,rfl,?_⟩
  have hm:(λ(i:Nat) (T:Addr) (h:Heap)=>(∃ x,IsEnumOut h e it ((i:Int)+1) x T)/\_/\T≠e/\T≠it) i s.heap.objs.size h1:=⟨⟨_,ho⟩,hs',Nat.ne_of_gt (Heap.lt_size he0),Nat.ne_of_gt (let ⟨_,q,_⟩:=hit0;Heap.lt_size q)⟩
  have kk:∀ b o,b ∉ [e,it]->s.heap.get? b=some o->h1.get? b=some o:=λb o hb q=>hk b o (λz=>hb (by simp [z])) (λz=>hb (by simp [z])) q
  generalize eT:s.heap.objs.size=T at ht ho hm ⊢
  have hT:s.heap.objs.size<=T:=Nat.le_of_eq eT
  have etk:∃ tk,tk=t+1:=⟨_,rfl⟩
  obtain⟨tk,etk⟩:=etk
  rw [<-etk]
  have ey:y=u:=by
   have hy':its[i]?=some y:=by simpa using hy
   rw [hu] at hy'
   exact (Option.some.inj hy').symm
  subst ey
  refine W.go elts k pos i T _ _ _ hm λh2 hst kk2=>?_
  have nT:T ∉ [e,it]:=W.apart i T _ hm
  refine⟨.ref T,upd H T (.tup [.int i,x]),?_,rfl,⟨T,x,λys hy=>by rw [I.list_inj hy hq];exact hx,I.hok.fresh hT,rfl,rfl⟩,⟨hst.1,hst.2.1⟩,λb hb=>?_⟩
  ·have ht2:dE h2 T #[.int i t,y]:=⟨_,kk2 T _ nT ht,rfl,⟨_,rfl⟩,rfl⟩
   have I2:Inv X pins σ (upd H T (.tup [.int i,x])) { s with heap:=h2,toks:=tk }:=
    I.turnsT (fp:=[e,it]) (h':=h2) (t':=tk) (its:=#[.int i t,y]) hf (λb o hb q=>kk2 b o hb (kk b o hb q)) hT ht2 (.cons ⟨t,rfl⟩ (.cons ru .nil)) (by show 2<=sizeLine;decide)
   exact I2
  ·rw [aD (show b≠T from λz=>nT (z ▸ hb))]
   exact (hf b hb).1
 done:=by
  intro X hP hw hK hc i pins s σ H E I hf st hg
  subst hP hw hK
  obtain⟨xs,hq,hx⟩:=hg
  obtain⟨its,rv,p,hz⟩:=I.list hq
  have hl:=rv.length
  have hx':its.toArray[i]?=none:=by simp;lia
  obtain⟨⟨old,he⟩,hit⟩:=st
  -- the end at place i
  obtain⟨f0,f1,f2,f3,f4,f5⟩:=hf e (by simp)
  refine wpAny_pyNext_enum_end (I.ok.hd hc) he hit p.isList hx' λh' eb=>⟨rfl,?_⟩
  exact I.turns (t':=s.toks) (fp:=[e,it]) hf λb o hb q=>eb b o (by simp at hb;exact hb.2) q
 self:=λ_ _ _ _ _ st h=>let ⟨⟨_,he⟩,_⟩:=st;wpAny_pyIter_enum he h
theorem rM {P:Program}{w:World}{K:PySem.W.Frag}{elts:List Expr}{k:Nat}{pos:Pos} (a it e:Addr) (hei:e≠it) (hae:a≠e) (hai:a≠it) :
  rA P w K (.Tuple elts k pos) (Ite λH xs=>SqT K H a xs) [e,it] e (λi h=>(∃ old,IsEnum h e it i old)/\h.IsTupleIter it a i) where
 mem:=by simp
 obj:=λi h st b hb=>by
  rcases List.mem_cons.mp hb with rfl | hb
  ·obtain⟨⟨old,q⟩,_⟩:=st
   exact⟨_,q,λv z=>by cases z⟩
  ·rw [List.mem_singleton.mp hb]
   obtain⟨_,o,e,c,d⟩:=st
   exact⟨o,e,λv z=>by rw [d] at z;cases z⟩
 keep:=λi h h' st kk=>⟨let ⟨old,q⟩:=st.1;⟨old,kk e (by simp) _ q⟩,st.2.at λo q=>kk it (by simp) o q⟩
 item:=by
  intro X hP hw hK hc i pins s σ H E I hf st hg
  subst hP hw hK
  obtain⟨xs,x,hq,hx⟩:=hg
  obtain⟨its,rv,p,hz⟩:=I.tuple hq
  obtain⟨u,hu,ru⟩:=rv.get hx
  have W:=WalksT.enumerateD (im (prog:=X.prog) (w:=X.w) (A:=X.A.in1) (I.ok.hd hc) it a hai its.toArray) e hei (by simp [hei,Ne.symm hae]) (by simp)
  have hi:i < its.toArray.size:=by
   have:=(List.getElem?_eq_some_iff.mp hu).1
   simpa using this
  obtain⟨⟨ol,he0⟩,hit0⟩:=st
  refine wpAny_pyNext_enum_itemD (im (prog:=X.prog) (w:=X.w) (A:=X.A.in1) (I.ok.hd hc) it a hai its.toArray) he0 ⟨hit0,p⟩ hi hei (by simp [hei,Ne.symm hae]) λy h1 t hy ho hs' ht hsz hk=>⟨_,rfl,?_⟩
  have hm:(λ(i:Nat) (T:Addr) (h:Heap)=>(∃ x,IsEnumOut h e it ((i:Int)+1) x T)/\_/\T≠e/\T≠it) i s.heap.objs.size h1:=⟨⟨_,ho⟩,hs',Nat.ne_of_gt (Heap.lt_size he0),Nat.ne_of_gt (let ⟨_,q,_⟩:=hit0;Heap.lt_size q)⟩
  have kk:∀ b o,b ∉ [e,it]->s.heap.get? b=some o->h1.get? b=some o:=λb o hb q=>hk b o (λz=>hb (by simp [z])) (λz=>hb (by simp [z])) q
  generalize eT:s.heap.objs.size=T at ht ho hm ⊢
  have hT:s.heap.objs.size<=T:=Nat.le_of_eq eT
  have etk:∃ tk,tk=t+1:=⟨_,rfl⟩
  obtain⟨tk,etk⟩:=etk
  rw [<-etk]
  have ey:y=u:=by
   have hy':its[i]?=some y:=by simpa using hy
   rw [hu] at hy'
   exact (Option.some.inj hy').symm
  subst ey
  refine W.go elts k pos i T _ _ _ hm λh2 hst kk2=>?_
  have nT:T ∉ [e,it]:=W.apart i T _ hm
  refine⟨.ref T,upd H T (.tup [.int i,x]),?_,rfl,⟨T,x,λys hy=>by rw [I.tuple_inj hy hq];exact hx,I.hok.fresh hT,rfl,rfl⟩,⟨hst.1,hst.2.1⟩,λb hb=>?_⟩
  ·have ht2:dE h2 T #[.int i t,y]:=⟨_,kk2 T _ nT ht,rfl,⟨_,rfl⟩,rfl⟩
   have I2:Inv X pins σ (upd H T (.tup [.int i,x])) { s with heap:=h2,toks:=tk }:=
    I.turnsT (fp:=[e,it]) (h':=h2) (t':=tk) (its:=#[.int i t,y]) hf (λb o hb q=>kk2 b o hb (kk b o hb q)) hT ht2 (.cons ⟨t,rfl⟩ (.cons ru .nil)) (by show 2<=sizeLine;decide)
   exact I2
  ·rw [aD (show b≠T from λz=>nT (z ▸ hb))]
   exact (hf b hb).1
 done:=by
  intro X hP hw hK hc i pins s σ H E I hf st hg
  subst hP hw hK
  obtain⟨xs,hq,hx⟩:=hg
  obtain⟨its,rv,p,hz⟩:=I.tuple hq
  have hl:=rv.length
  have W:=WalksT.enumerateD (im (prog:=X.prog) (w:=X.w) (A:=X.A.in1) (I.ok.hd hc) it a hai its.toArray) e hei (by simp [hei,Ne.symm hae]) (by simp)
  have hi:i=its.toArray.size:=by simp;lia
  subst hi
  refine W.done s _ _ ⟨st.1,st.2,p⟩ λh' tk kk=>⟨rfl,I.turns (fp:=[e,it]) hf kk⟩
 self:=λ_ _ _ _ _ st h=>let ⟨⟨_,he⟩,_⟩:=st;wpAny_pyIter_enum he h
end L2
namespace L2
open PySem PySem.Spec PyProof.Rows
section
variable {X:Cx}
noncomputable def zi (K:PySem.W.Frag) (ta:TA):TI:=λσ H R=>ta σ H λvs H1=>∃ a,vs=[.ref a]/\(∃ xs,SqL K H1 a xs)/\R (Ite λH xs=>SqL K H a xs) H1
theorem vH {elts:List Expr}{k:Nat}{tpos:Pos}{a:Expr}{ta:TA}{p pos:Pos} (hg:Gl X "enumerate") (hm:X.mg "enumerate" = none) (ha:PA X [a] ta) (hs:starEach [a] X.env=[(false,eval a X.env)]:=by rfl) :
  PI X (.Tuple elts k tpos) (.Call (.Name "enumerate" p) [a] [] pos) (zi X.K ta):=by
 intro pins s σ H R I h
 refine Call_ (h8 I hg hm boot_enumerate (PyProof.Rows.callWith_type1 (thn (ha pos pins s σ H _ I h) λus s1 ⟨vs,H1,I1,r1,q1⟩=>?_) hs rfl))
 obtain⟨l,e,⟨xs,hq⟩,q⟩:=q1
 subst e
 cases r1 with
 | cons r rr=>
  cases rr
  cases r
  obtain⟨its,rv,p',hz⟩:=I1.list hq
  refine call_enumerate_list p'.isList λh' he hit hsz hk=>wpAny_pyIter_enum he ?_
  have hlt:l < s1.heap.objs.size:=by obtain⟨_,_,e,_⟩:=p';exact Heap.lt_size e
  refine⟨_,[s1.heap.objs.size+1,s1.heap.objs.size],_,_,H1,rfl,I1.kept (t':=s1.toks) hk,rB l s1.heap.objs.size (s1.heap.objs.size+1) (Nat.succ_ne_self _) (Nat.ne_of_lt (Nat.lt_succ_of_lt hlt)) (Nat.ne_of_lt hlt),⟨⟨_,he⟩,hit⟩,λb hb=>?_,q⟩
  have hb':s1.heap.objs.size<=b:=by
   rcases List.mem_cons.mp hb with e | hb
   ·rw [e];exact Nat.le_succ _
   ·rw [List.mem_singleton.mp hb];exact Nat.le_refl _
  exact I1.fpOk hb' (I1.hok.fresh hb')
noncomputable def Ax (K:PySem.W.Frag) (ta:TA):TI:=λσ H R=>ta σ H λvs H1=>∃ a,vs=[.ref a]/\(∃ xs,SqT K H1 a xs)/\R (Ite λH xs=>SqT K H a xs) H1
theorem wP {elts:List Expr}{k:Nat}{tpos:Pos}{a:Expr}{ta:TA}{p pos:Pos} (hg:Gl X "enumerate") (hm:X.mg "enumerate" = none) (ha:PA X [a] ta) (hs:starEach [a] X.env=[(false,eval a X.env)]:=by rfl) :
  PI X (.Tuple elts k tpos) (.Call (.Name "enumerate" p) [a] [] pos) (Ax X.K ta):=by
 intro pins s σ H R I h
 refine Call_ (h8 I hg hm boot_enumerate (PyProof.Rows.callWith_type1 (thn (ha pos pins s σ H _ I h) λus s1 ⟨vs,H1,I1,r1,q1⟩=>?_) hs rfl))
 obtain⟨l,e,⟨xs,hq⟩,q⟩:=q1
 subst e
 cases r1 with
 | cons r rr=>
  cases rr
  cases r
  obtain⟨its,rv,p',hz⟩:=I1.tuple hq
  refine gS p' λh' he hit hsz hk=>wpAny_pyIter_enum he ?_
  have hlt:l < s1.heap.objs.size:=by obtain⟨_,e,_⟩:=p';exact Heap.lt_size e
  refine⟨_,[s1.heap.objs.size+1,s1.heap.objs.size],_,_,H1,rfl,I1.kept (t':=s1.toks) hk,rM l s1.heap.objs.size (s1.heap.objs.size+1) (Nat.succ_ne_self _) (Nat.ne_of_lt (Nat.lt_succ_of_lt hlt)) (Nat.ne_of_lt hlt),⟨⟨_,he⟩,hit⟩,λb hb=>?_,q⟩
  have hb':s1.heap.objs.size<=b:=by
   rcases List.mem_cons.mp hb with e | hb
   ·rw [e];exact Nat.le_succ _
   ·rw [List.mem_singleton.mp hb];exact Nat.le_refl _
  exact I1.fpOk hb' (I1.hok.fresh hb')
theorem rZ {ns:List Int}:∀ {us:List Value},aT (ns.map V.int) us->∃ xs:Array (Int×Tok),us.toArray=intItems xs/\xs.toList.map (·.1)=ns:=by
 induction ns with
 | nil=>intro us r;cases r;exact⟨#[],by simp [intItems],rfl⟩
 | cons n ns ih=>
  intro us r
  rw [List.map_cons] at r
  cases r with
  | cons r rr=>
   obtain⟨t,rfl⟩:=r
   obtain⟨xs,e,e2⟩:=ih rr
   refine⟨#[(n,t)]++xs,?_,by simp [e2]⟩
   apply Array.toList_inj.mp
   have e':=congrArg Array.toList e
   simp [intItems] at e' ⊢
   exact e'
theorem wx:dk X (.builtin "sum") (λxs H Q=>X.calm=true/\∃ (a:Addr) (ns:List Int),xs=[.ref a]/\SqL X.K H a (ns.map V.int)/\Q (.int ns.sum) H):=by
 intro pins s σ H xs us Q I rv h
 obtain⟨hc,a,ns,rfl,hq,q⟩:=h
 cases rv with
 | cons r rr=>
  cases rr
  cases r
  obtain⟨its,rv,p,hz⟩:=I.list hq
  obtain⟨ps,e1,e2⟩:=rZ rv
  have hl:=p.isList
  rw [e1] at hl
  refine sum_intListG (I.ok.hd hc) hl λh' tk t' hk=>?_
  refine⟨.int ns.sum,H,I.kept (t':=tk) hk,⟨t',?_⟩,q⟩
  rw [preSum_eq,List.take_of_length_le (by simp),e2]
theorem vJ:dk X (.builtin "all") (λxs H Q=>X.calm=true/\∃ (a:Addr) (bs:List Bool),xs=[.ref a]/\SqL X.K H a (bs.map V.bl)/\Q (.bl (bs.all id)) H):=by
 intro pins s σ H xs us Q I rv h
 obtain⟨hc,a,bs,rfl,hq,q⟩:=h
 cases rv with
 | cons r rr=>
  cases rr
  cases r
  obtain⟨its,rv,p,hz⟩:=I.list hq
  have hlt:a < s.heap.objs.size:=by obtain⟨_,_,e,_⟩:=p;exact Heap.lt_size e
  have hlen:its.length=bs.length:=by have:=rv.length;simpa using this.symm
  refine call_all_walk (wpAny_pyIter_list p.isList ?_)
  refine⟨s.heap.objs.size,_,_,_,_,_,λi=>(bs[i]?).getD true,rfl,Walks.list (A:=X.A.in1) (I.ok.hd hc) s.heap.objs.size a (Nat.ne_of_lt hlt) its.toArray,⟨⟨_,Heap.get?_push_size _ rfl,rfl,rfl⟩,p.isList.push _⟩,?_,λh' tk hk=>?_⟩
  ·intro i v s' Q' E' hv hQ'
   have hv':its[i]?=some v:=by simpa using hv
   have hi:i < its.length:=(List.getElem?_eq_some_iff.mp hv').1
   obtain⟨b,hb⟩:∃ b,bs[i]?=some b:=⟨bs[i]'(by lia),by simp [show i < bs.length by lia]⟩
   have:(bs.map V.bl)[i]?=some (.bl b):=by rw [List.getElem?_map,hb];rfl
   obtain⟨u,hu,ru⟩:=rv.get this
   rw [hv'] at hu
   cases hu
   cases ru
   have hQ2:Q' ((bs[i]?).getD true) s':=hQ'
   rw [hb] at hQ2
   exact wpAny_truthy_bool hQ2
  ·refine⟨.bl (bs.all id),H,I.kept (t':=tk) (λb o e=>hk b o (λz=>absurd (Heap.lt_size e) (by rw [List.mem_singleton.mp z];exact Nat.lt_irrefl _)) (Heap.get?_push_of_some _ e)),?_,q⟩
   show Value.bool _=Value.bool _
   congr 1
   have:∀ n,n=bs.length->((List.range n).all λi=>(bs[i]?).getD true)=bs.all id:=by
    intro n hn
    rw [Bool.eq_iff_iff,List.all_eq_true,List.all_eq_true]
    constructor
    ·intro h b hb
     obtain⟨i,hi,e⟩:=List.mem_iff_getElem.mp hb
     have:=h i (List.mem_range.mpr (by lia))
     simp [hi,e] at this
     exact this
    ·intro h i hi
     have hi':=List.mem_range.mp hi
     have hlt':i < bs.length:=by lia
     simp [hlt']
     exact h _ (List.getElem_mem _)
   exact this _ (by simpa using hlen)
end
end L2
namespace L2
open PySem PySem.Spec PyProof.Rows
noncomputable def gM (k:Nat) (js:List Nat) (σ:St):St:=List.replicate k none++js.map λj=>(σ[j]?).getD none
noncomputable def A7 (scope:Scope) (ns:List (Str×NameKind)) (N Nc:List Str) (k:Nat) (js:List Nat):Bool:=
 decide ((scope.names.map (·.1)).Nodup) && decide Nc.Nodup && decide (Nc.length=k+js.length) &&
 (scope.names.all λx=>x.2 != .free || ns.lookup x.1==some .cell || ns.lookup x.1==some .free) &&
 ((List.range js.length).all λi=>match Nc[k+i]?,js[i]? with | some x,some j=>N[j]?==some x && scope.names.lookup x==some .free | _,_=>false)
theorem cN {X:Cx}{scope:Scope} (ns:List (Str×NameKind)) (N Nc:List Str) (k:Nat) (js:List Nat) (hns:X.env.scope.names=ns) (hN:X.N=N) (hk:scope.kind=.function) (h:A7 scope ns N Nc k js=true):fQ X scope Nc (gM k js):=by
 unfold A7 at h
 simp only [Bool.and_eq_true,decide_eq_true_eq] at h
 obtain⟨⟨⟨⟨h1,h2⟩,h3⟩,h4⟩,h5⟩:=h
 refine⟨hk,h1,h2,λx hx hf=>?_,λσ _=>?_,λσ _ i x v e1 e2=>?_⟩
 ·have:=List.all_eq_true.mp h4 x hx
  rw [hf] at this
  simp only [Bool.or_eq_true,beq_iff_eq,bne_self_eq_false,Bool.false_eq_true,false_or] at this
  unfold Env.kindOf
  rw [hns]
  exact this
 ·unfold gM
  rw [List.length_append,List.length_replicate,List.length_map,h3]
 ·unfold gM at e2
  by_cases hi:i < k
  ·rw [List.getElem?_append_left (by simpa using hi),List.getElem?_replicate,if_pos hi] at e2
   cases e2
  ·rw [List.getElem?_append_right (by simpa using hi),List.length_replicate,List.getElem?_map] at e2
   cases ej:js[i - k]? with
   | none=>rw [ej] at e2;cases e2
   | some j=>
    rw [ej] at e2
    have hlt:=(List.getElem?_eq_some_iff.mp ej).1
    have:=List.all_eq_true.mp h5 (i - k) (List.mem_range.mpr hlt)
    rw [show k+(i - k)=i by lia,e1,ej] at this
    simp only [Bool.and_eq_true,beq_iff_eq] at this
    refine⟨j,by rw [hN];exact this.1,?_,this.2⟩
    have e3:(σ[j]?).getD none=some v:=Option.some.inj e2
    cases eq:σ[j]? with
    | none=>rw [eq] at e3;cases e3
    | some o=>rw [eq] at e3;rw [show o=some v from e3]
noncomputable def Bk (names ns:List (Str×NameKind)):List (Str×NameKind):=names.map λx=>if (x.2==NameKind.free && ns.lookup x.1==some .cell) then (x.1,.cell) else x
theorem sL {X:Cx}{scope:Scope}{cells:List (Str×Addr)}{Nc:List Str}{s:Shared}{H:Hp}{C:Addr}{fp:List Addr}{ns:List (Str×NameKind)} (hk:X.env.scope.kind=.function) (hns:X.env.scope.names=ns) :
  (lcX X scope cells Nc s H C fp).env.scope.names=Bk scope.names ns:=by
 show (scope.names.map _)=_
 unfold Bk
 congr 1
 funext x
 obtain⟨n,k⟩:=x
 show (if (k==.free && X.env.scope.kind==.function && X.env.kindOf n==some .cell)=true then (n,NameKind.cell) else (n,k))=(if (k==.free && ns.lookup n==some .cell)=true then (n,NameKind.cell) else (n,k))
 unfold Env.kindOf
 rw [hk,hns,show (ScopeKind.function==ScopeKind.function)=true from rfl,Bool.and_true]
section
variable {σe tl:St}{tt:TT}{te:TE}{H:Hp}{Q:VK}
end
section
variable {X:Cx}
theorem xT:OpR X (binaryOp .Mult) (rI IntMulOk λi j=>.int (i*j)):=opI λ_ _ _ _ _ _ _ hc q=>mul_int q hc
end
theorem bK.new {H:Hp}{p:Addr} (h:H p=none) (o:HO):bK H (upd H p o):=λb u q=>by rw [aD (aO q h)];exact q
end L2
namespace L2
open PySem PySem.Spec PyProof.Rows
theorem kX {n:Nat} (h:n<=1000):n<=sizeLine:=Nat.le_of_lt (uh h)
end L2
namespace L2
open PySem PySem.Spec PyProof.Rows
theorem p18:oy 10 18:=⟨by decide,by decide,by decide⟩
end L2
namespace L2
open PySem PySem.Spec PyProof.Rows
open PySem.AutoSeq1 (wpAny_loadPart')
theorem wl (l:Addr) (items:Array Value) (n:Nat) (dct:Option Addr) (sl:Array (Option Value)) (u:Tok) :
  Meets (Builtin.«tuple.__mul__» ⟨[.ref l,.int 1 u],[]⟩) (λ_ R s=>s.heap.get? l=some { cls:=.type "tuple",dict:=dct,data:=.seq items n,slots:=sl }/\R (.ok (.ret (.ref l))) s):=
 .of_wp λprog w A R s h=>by
  obtain⟨hp,g,d,tk,os⟩:=s;obtain⟨hl,h⟩:=h
  wp_walk using wpAny_loadPart' hl
  exact⟨_,rfl,h⟩
theorem ut (l:Addr) (items:Array Value) (n:Nat) (dct:Option Addr) (sl:Array (Option Value)) (x:Int) (u:Tok) (h2:2<=x) (h3:x < 1000) (he:items.isEmpty=false) (hz:items.size<=1000)
  (hsz:((List.replicate x.toNat items).foldl (λx1 x2=>x1++x2) #[]).size<=sizeLine) :
  Meets (Builtin.«tuple.__mul__» ⟨[.ref l,.int x u],[]⟩) (λ_ R s=>s.heap.get? l=some { cls:=.type "tuple",dict:=dct,data:=.seq items n,slots:=sl }/\
   R (.ok (.ret (.ref s.heap.objs.size))) { s with heap:=s.heap.push { cls:=.type "tuple",data:=.seq ((List.replicate x.toNat items).foldl (λx1 x2=>x1++x2) #[]) } }):=
 .of_wp λprog w A R s h=>by
  obtain⟨hp,g,d,tk,os⟩:=s;obtain⟨hl,h⟩:=h
  have c1:(x < -(2 ^ 63) || x>=2 ^ 63)=false:=by simp;lia
  have c2:(items.isEmpty || x==1)=false:=by rw [he];simp;lia
  have c3:(x<=0 || items.isEmpty)=false:=by rw [he];simp;lia
  have hpr:(items.size:Int)*x<=1000000:=by
   have a1:(items.size:Int)*x<=1000*x:=Int.mul_le_mul_of_nonneg_right (by lia) (by lia)
   lia
  have c4:¬ ((items.size:Int)*x > (2 ^ 63 - 1) / 8):=by lia
  have c5:Builtin.Tuple.tupleTooMany ((items.size:Int)*x)=false:=by
   unfold Builtin.Tuple.tupleTooMany
   exact decide_eq_false (by have:(sizeLine:Nat)=16777216:=rfl
                             lia)
  wp_walk using wpAny_loadPart' hl
  refine wpAny_ite_false (decide_eq_false (by rw [c1];exact Bool.false_ne_true)) ?_
  wp_walk using wpAny_loadPart' hl
  refine wpAny_ite_false (decide_eq_false (by rw [c2];exact Bool.false_ne_true)) ?_
  wp_walk using wpAny_loadPart' hl
  refine wpAny_ite_false (decide_eq_false (by rw [c3];exact Bool.false_ne_true)) ?_
  wp_walk using wpAny_loadPart' hl
  refine wpAny_ite_false (decide_eq_false c4) ?_
  wp_walk using wpAny_loadPart' hl
  exact⟨_,rfl,h⟩
theorem jR:fillsNumberSlot (.type "tuple") "mul" = pure false:=
 PySem.fillsNumberSlot_seq (id:="tuple.__mul__") (r:=some (.builtin "tuple.__rmul__")) F.slot_tuple_mul.lookup (by decide +kernel) F.slot_tuple_rmul.lookup (by decide +kernel)
theorem oM:seqRepeat? (.type "tuple")=pure (some (.builtin "tuple.__mul__")):=by
 unfold seqRepeat?
 rw [PySem.seqSlot_of (T:="tuple") (name:="__mul__") (id:="tuple.__mul__") F.slot_tuple_mul.lookup (by decide +kernel),PySem.seqSlot_of (T:="tuple") (name:="__rmul__") (id:="tuple.__rmul__") F.slot_tuple_rmul.lookup (by decide +kernel)]
 rfl
theorem mK (a:Int) (t:Tok) (l:Addr) (items:Array Value) (n:Nat) (dct:Option Addr) (sl:Array (Option Value)) :
  Meets (Builtin.«int.__rmul__» ⟨[.int a t,.ref l],[]⟩) (λ_ R s=>s.heap.get? l=some { cls:=.type "tuple",dict:=dct,data:=.seq items n,slots:=sl }/\R (.ok (.ret Value.notImplemented)) s):=
 .of_wp λprog w A R s h=>by obtain⟨hp,g,d,tk,os⟩:=s;obtain⟨hl,h⟩:=h;wp_walk using wpAny_loadPart' hl;exact⟨_,rfl,h⟩
section
variable {X:Cx}
noncomputable def Bf (K:PySem.W.Frag):R2:=λx y H Q=>∃ l k xs,x=.ref l/\y=.int k/\SqT K H l xs/\xs≠[]/\xs.length<=1000/\1<=k/\k < 1000/\(k=1->Q (.ref l) H)/\
 (k≠1->∀ p,H p=none->Q (.ref p) (upd H p (.tup (List.replicate k.toNat xs).flatten)))
theorem xb:OpR X (binaryOp .Mult) (Bf X.K):=by
 intro pins s σ H x y v u Q I rx ry h
 obtain⟨l,k,xs,rfl,rfl,hq,hne,hl1,h1,h2,q1,q2⟩:=h
 cases rx
 obtain⟨t,rfl⟩:=ry
 obtain⟨its,rv,p,hz⟩:=I.tuple hq
 obtain⟨⟨c,dct,dt,sl⟩,e,hc,n,hd⟩:=p
 replace hc:c=.type "tuple":=hc
 replace hd:dt=.seq its.toArray n:=hd
 subst hc hd
 have hlen:=rv.length
 refine wpAny_binaryOp_repeat_ref (T:="tuple") (U:="int") (by decide) ⟨_,e,rfl⟩ (λs'=>typeIs_int s' k t) jR F.fills_int_mul F.slot_int_rmul oM F.slot_int_index.lookup
  (call_meets F.slot_int_rmul (typeIs_int s k t) F.entry_int_rmul (F.args_int_rmul_2 _ _) (mK k t l its.toArray n dct sl) ⟨e,rfl,⟨_,e,rfl⟩,?_⟩)
 by_cases hk:k=1
 ·subst hk
  exact call_meets F.slot_tuple_mul ⟨_,e,rfl⟩ F.entry_tuple_mul (F.args_tuple_mul_2 _ _) (wl l its.toArray n dct sl t) ⟨e,.ref l,H,I,rfl,q1 rfl⟩
 ·have f0:List.foldl (λx1 x2=>x1++x2) #[] (List.replicate k.toNat its.toArray)=(List.replicate k.toNat its).flatten.toArray:=by
   have:=jZ its k.toNat []
   rw [List.nil_append] at this
   exact this
  have hsz:(List.replicate k.toNat xs).flatten.length<=sizeLine:=by
   rw [oT]
   have:k.toNat*xs.length<=1000*1000:=Nat.mul_le_mul (by lia) hl1
   have hs:sizeLine=16777216:=rfl
   lia
  have hsz2:(List.replicate k.toNat its).flatten.length<=sizeLine:=by
   rw [oT] at hsz ⊢
   rw [<-hlen];exact hsz
  refine call_meets F.slot_tuple_mul ⟨_,e,rfl⟩ F.entry_tuple_mul (F.args_tuple_mul_2 _ _) (ut l its.toArray n dct sl k t (by lia) h2 ?_ (by rw [List.size_toArray];lia) (by rw [f0,List.size_toArray];exact hsz2)) ⟨e,?_⟩
  ·cases its with
   | nil=>cases xs with
    | nil=>exact absurd rfl hne
    | cons _ _=>cases hlen
   | cons _ _=>rfl
  ·rw [f0]
   refine⟨.ref _,_,I.laid (t':=s.toks) (o:=.tup (List.replicate k.toNat xs).flatten) (λ_ _ q=>Heap.get?_push_of_some _ q) (Nat.le_refl _) ⟨hsz,(List.replicate k.toNat its).flatten,rv.rep k.toNat,⟨_,Heap.get?_push_size _ rfl,rfl,⟨0,rfl⟩,rfl⟩⟩,rfl,q2 hk _ I.fresh⟩
end
end L2
namespace L2
open PySem PySem.Spec PyProof.Rows
end L2
namespace L2
open PySem PySem.Spec PyProof.Rows
section
variable {X:Cx}{K:PySem.W.Frag}
theorem AK (hc:X.calm=true:=by rfl) (hK:X.K=K:=by rfl):dk X (.builtin "sum") (λxs H Q=>∃ (a:Addr) (ns:List Int),xs=[.ref a]/\SqL K H a (ns.map V.int)/\Q (.int ns.sum) H):=by
 subst hK
 intro pins s σ H xs us Q I rv h
 exact wx pins s σ H xs us Q I rv ⟨hc,h⟩
theorem AX (hc:X.calm=true:=by rfl) (hK:X.K=K:=by rfl):dk X (.builtin "all") (λxs H Q=>∃ (a:Addr) (bs:List Bool),xs=[.ref a]/\SqL K H a (bs.map V.bl)/\Q (.bl (bs.all id)) H):=by
 subst hK
 intro pins s σ H xs us Q I rv h
 exact vJ pins s σ H xs us Q I rv ⟨hc,h⟩
end
end L2
namespace L2
open PySem PySem.Spec PyProof.Rows
section
variable {X:Cx}
end
end L2
namespace L2
open PySem PySem.Spec PyProof.Rows
end L2
namespace L2
open PySem PySem.Spec PyProof.Rows
section
variable {X:Cx}{e:Expr}{ty:TE}{p1 p2 p3 p4 dpos apos cpos:Pos}{j1 j2 j3 j4:Nat}
end
end L2
namespace L2
open PySem PySem.Spec PyProof.Rows
end L2
namespace L2
open PySem PySem.Spec PyProof.Rows
open PySem.AutoSeq1 (wpAny_loadPart')
section
variable {prog:Program}{w:World}{A:Around}{E:Value->Shared->Prop}{s:Shared}
end
section
variable {X:Cx}
end
section
variable {prog:Program}{w:World}{A:Around}{E:Value->Shared->Prop}{s:Shared}
end
section
variable {X:Cx}{e:Expr}{te:TE}{p1 p2 p3 pos:Pos}{j:Nat}
end
end L2
namespace L2
open PySem PySem.Spec PyProof.Rows
end L2
namespace L2
open PySem PySem.Spec PyProof.Rows
theorem aT.at {xs:List V}{us:List Value} (r:aT xs us):∀ (j:Nat) (h:j < us.length) ,∃ h':j < xs.length,aW xs[j] us[j]:=by
 induction r with
 | nil=>intro j h;exact absurd h (Nat.not_lt_zero j)
 | cons a t ih=>
  intro j h
  cases j with
  | zero=>exact⟨Nat.zero_lt_succ _,a⟩
  | succ j=>
   obtain⟨h1,r1⟩:=ih j (Nat.lt_of_succ_lt_succ h)
   exact⟨Nat.succ_lt_succ h1,r1⟩
theorem ly (e:Nat->Bool) (n:Nat):(List.range (n+1)).all e=(e 0 && (List.range n).all λj=>e (j+1)):=by
 rw [List.range_succ_eq_map,List.all_cons,List.all_map];rfl
section
variable {X:Cx}{K:PySem.W.Frag}{pins:List (Addr×Obj)}{σ:St}{H:Hp}{s:Shared}{A:Around}{a b:Addr}{xs ys:List V}
end
end L2
namespace L2
open PySem PySem.Spec PyProof.Rows
section
variable {X:Cx}{pos p1 p2:Pos}{j1 j2:Nat}
end
section
variable {K:PySem.W.Frag}{H:Hp}
end
section
variable {X:Cx}{K:PySem.W.Frag}
end
end L2
namespace HT
open PySem PySem.Spec PyProof.Rows L2
section
variable {prog:Program}{w:World}{A:Around}{E:Value->Shared->Prop}{s:Shared}
theorem getItem_tuple_all {t sl:Addr}{items:Array Value}{vl vu:Value}{lo hi:Option Int}{Q:Value->Shared->Prop} (ht:IsTup s.heap t items) (hs:s.heap.IsSliceOf sl vl vu .none) (pl:IsPart vl lo) (pu:IsPart vu hi)
  (hw:sIx items.size 0 lo=0/\sIx items.size items.size hi=items.size) (h:Q (.ref t) s):wpAny (model prog w) A (getItem (.ref t) (.ref sl)) Q E s:=by
 obtain⟨os,hos,hcs,hds⟩:=id hs
 have hTs:s.TypeIs (.ref sl) "slice":=⟨os,hos,hcs⟩
 unfold getItem
 try with_reducible refine wpAny_holding ?_
 first | refine wpAny_bind (wpAny_pure ?_) | skip
 refine wpAny_bind (wpAny_sequenceKey ht.typeIs (by decide) ?_)
 refine wpAny_bind (wpAny_callSpecial?_slot (name:=Str.ofString "__getitem__") ht.typeIs PyProof.Rows.slot_tuple_getitem
  (wpAny_call_entry PyProof.Rows.slot_tuple_getitem ht.typeIs entry_tuple_getitem ?_ (args_tuple_getitem _ _)))
 show wpAny _ _ (Builtin.Tuple.tupleItemsOf (.ref t) >>= _) _ _ s
 refine wpAny_bind (tupleItemsOf_ ht ?_)
 refine wpAny_bind (wpAny_typeOf hTs ?_)
 rw [if_pos (by decide)]
 refine wpAny_bind (gm hs pl pu ?_)
 have hyes:(((sIx items.size 0 lo:Nat):Int)==0 && (1:Int)==1 && (sIx items.size items.size hi - sIx items.size 0 lo)==items.size)=true:=by
  rw [hw.1,hw.2]
  simp
 show wpAny _ _ (if (((sIx items.size 0 lo:Nat):Int)==0 && (1:Int)==1 && (sIx items.size items.size hi - sIx items.size 0 lo)==items.size)=true then _ else _) _ _ s
 rw [if_pos hyes]
 unfold Builtin.Tuple.tupleIsExact
 refine wpAny_bind (wpAny_bind (wpAny_typeOf ht.typeIs (wpAny_pure ?_)))
 show wpAny _ _ (if ((Value.type "tuple")==(Value.type "tuple"))=true then _ else _) _ _ s
 rw [if_pos (beq_self_eq_true _)]
 first
  | exact wpAny_bind (wpAny_rule (wpAny_pure ⟨_,rfl,wpAny_pure h⟩))
  | exact wpAny_bind (wpAny_bind (wpAny_rule (wpAny_pure (wpAny_pure ⟨_,rfl,wpAny_pure h⟩))))
  | exact wpAny_bind (wpAny_rule (wpAny_bind (wpAny_pure (wpAny_pure ⟨_,rfl,wpAny_pure h⟩))))
  | exact wpAny_bind (wpAny_rule (wpAny_bind (wpAny_pure ⟨_,rfl,wpAny_pure h⟩)))
end
end HT
namespace L2
open PySem PySem.Spec PyProof.Rows
noncomputable def Bs (K:PySem.W.Frag):V->Option Int->Option Int->Hp->VK->Prop:=λx lo hi H Q=>∃ a xs,x=.ref a/\SqT K H a xs/\
 ((¬ (HT.sIx xs.length 0 lo=0/\HT.sIx xs.length xs.length hi=xs.length)/\∀ p,H p=none->Q (.ref p) (upd H p (.tup (oU xs lo hi))))\/
   ((HT.sIx xs.length 0 lo=0/\HT.sIx xs.length xs.length hi=xs.length)/\Q (.ref a) H))
theorem zY {X:Cx}{K:PySem.W.Frag} (hK:X.K=K:=by rfl):SlR X (Bs K):=by
 subst hK
 intro pins s σ H x v vl vu lo hi sl Q I rx hs pl pu h
 obtain⟨a,xs,rfl,hx,h⟩:=h
 rcases h with⟨hw,q⟩ | ⟨hw,q⟩
 ·exact Ao pins s σ H _ v vl vu lo hi sl Q I rx hs pl pu ⟨a,xs,rfl,hx,hw,q⟩
 ·cases rx
  obtain⟨its,r,ht,hz⟩:=I.tuple hx
  have hlen:its.toArray.size=xs.length:=by rw [List.size_toArray];exact r.length.symm
  refine⟨"tuple",_,PyProof.Rows.slot_tuple_getitem.lookup,ht.typeIs,?_⟩
  exact HT.getItem_tuple_all ht hs pl pu (by rw [hlen];exact hw) ⟨.ref a,H,I,rfl,q⟩
end L2
namespace L2
open PySem PySem.Spec PyProof.Rows
section
variable {X:Cx}{scope:Scope}{Nc:List Str}{emb:St->St}{elt iter tg:Expr}{ifs:List Expr}{pos:Pos}{wi:TI}{g:TG}{tt:TT}{te:TE}
theorem AF {i0:Nat}{x0:Str}{py spos:Pos} (hN0:X.N.Nodup) (hi0:X.N[i0]?=some x0) (hx0:Loc X.env.scope x0) (S:fQ X scope Nc emb) (hc:X.calm=true) (hi:PI X tg iter wi)
  (hg:∀ cells s H C fp,PG (lcX X scope cells Nc s H C fp) tg g) (ht:∀ cells s H C fp,PTs (lcX X scope cells Nc s H C fp) ifs tt) (he:∀ cells s H C fp,PE (lcX X scope cells Nc s H C fp) elt te)
  (hsw:swapsWith (.ListComp elt [⟨tg,iter,ifs,0⟩] scope pos) (some (.Name x0 py)) spos.line X.env=pure true:=by rfl)
  (hf0:X.fn x0=true\/X.env.scope.names.lookup x0=some .local:=by first | exact .inl rfl | exact .inr rfl | assumption)
  (hs:∀ x,foldedSetIterable iter X.env x=pure x:=by intro _;rfl):PS X (.Assign [.Name x0 py] (.ListComp elt [⟨tg,iter,ifs,0⟩] scope pos) spos) (yZ (tLc emb wi g tt te) (qh i0)):=by
 intro pins s σ H DD I h
 rw [exec_Assign_Name_used _ _ _ _ hsw]
 refine wpAny_bind (wpAny_standAt (wpAny_bind ?_))
 show wpAny _ X.A (do let _ <-comprehension (.ListComp elt [⟨tg,iter,ifs,0⟩] scope pos) scope X.env _ (newList []) false (eval iter X.env) (some (assign (.Name x0 py) X.env))) _ _ s
 refine wpAny_bind (wpAny_mono (wpAny_comprehension_free (use:=some (assign (.Name x0 py) X.env)) (Q:=λ_ s'=>SP X pins DD .next s') rfl hs (iQ (S.clos I.ok)) S.kind (λx hx hl=>eJ S.nd (by rw [<-hl];exact hx)) ?_) (λ_ s' hq=>wpAny_pure (wpAny_pure hq)) λ_ _ e=>e)
 refine thn (hi pins s σ H _ I h) λv s1 h1=>thn h1 λitv s2 h2=>?_
 obtain⟨it,fp,tn,J,H2,e,I2,T,st2,f2,W,⟨m0,w0⟩,turn⟩:=h2
 subst e
 refine wpAny_newObj_type (jg ?_)
 rw [show (s2.heap.push { cls:=.type "list",dict:=none,data:=.seq ([]:List Value).toArray }).objs.size=s2.heap.objs.size+1 from Heap.size_push ..]
 generalize hD:s2.heap.objs.size=D
 generalize hlo:({ cls:=.type "list",dict:=none,data:=.seq ([]:List Value).toArray }:Obj)=lo
 have fplt:∀ b ∈ fp,b < s2.heap.objs.size:=λb hb=>by obtain⟨o,e,_⟩:=T.obj _ _ st2 b hb;exact Heap.lt_size e
 have I3:=pN (lo:=lo) S I2 f2 (λb hb=>by obtain⟨o,e,_⟩:=T.obj _ _ st2 b hb;exact⟨o,e⟩) (by rw [<-hlo];intro v z;cases z) (by rw [<-hlo];rfl)
 rw [hD] at I3
 generalize hcells:cellsFrom (D+2) scope.names (ck X.env.cells scope.names [])=cells at I3
 generalize hX':lcX X scope cells Nc s2 H2 (D+1) fp=X' at I3
 have hfpX:∀ {H':Hp}{ps:List (Addr×Obj)},(∀ b ∈ fp,H' b=none)->(∀ p ∈ ps,p.1=D)->∀ b ∈ fp,gT X' ps H' b:=λ{H' ps} hn hps b hb=>by
  have ok:=I3.ok
  refine⟨hn b hb,?_,?_,.inl (by rw [<-hX'];exact hb),?_,λp hp=>?_⟩
  ·exact (ok.exf b (by rw [<-hX'];exact hb)).1
  ·exact ok.exfs b (by rw [<-hX'];exact hb)
  ·exact (ok.exf b (by rw [<-hX'];exact hb)).2
  ·have hp':p ∈ ([]:List (Addr×Obj))++ps:=by rw [<-hX'] at hp;exact hp
   have e:p.1=D:=hps p (by simpa using hp')
   rw [e,<-hD]
   exact Nat.ne_of_gt (fplt b hb)
 have Dex:D ∈ X'.ex\/X'.s₀.heap.objs.size<=D:=.inr (by rw [<-hX',<-hD];exact Nat.le_refl _)
 have Dloc:D≠X'.env.locals:=by rw [<-hX'];exact Nat.ne_of_lt (Nat.lt_succ_self _)
 have pD:=I3.pin (D,lo) (by rw [<-hX'];exact List.mem_append_right _ List.mem_cons_self)
 have Dfs:D ∉ X'.fs:=pD.2.2.2.1
 have Dcell:∀ x c,X'.env.cells.lookup x=some c->c≠D:=λx c hc' e=>by
  obtain⟨v,o,ho,hd⟩:=I3.cell x c hc'
  rw [e,pD.1] at ho
  cases ho
  exact pD.2.2.2.2 v hd
 -- the loop
 have loop:∀ s3:Shared,s3={ s2 with heap:=pushCells ((s2.heap.push lo).push { cls:=.type "dict",data:=.dict #[] }) scope.names }->
   codeAny (model X.prog X.w) X.A (.compLoop (.ListComp elt [⟨tg,iter,ifs,0⟩] scope pos) 0 (.ref it) (.ref D) (compEnvC scope cells (D+1) X.env))
    (compPost (model X.prog X.w) X.A X.xe (some (assign (.Name x0 py) X.env)) (λ_ s'=>SP X pins DD .next s') (.ref D) (D+1)) s3:=by
  rintro s3 rfl
  refine d4 (λn s'=>∃ i ys its k H',Inv X' [(D,{ cls:=.type "list",data:=.seq its.toArray k })] (emb σ) H' s'/\aT ys its/\tn i s'.heap/\(∀ b ∈ fp,H' b=none)/\ys.length<=sizeLine/\W i n ys H') ?_ m0
   ⟨0,[],[],0,H2,?_,.nil,?_,λb hb=>(f2 b hb).1,Nat.zero_le _,w0⟩
  ·rintro n s4 ⟨i,ys,its,k,H4,I4,rv,st4,fr4,hlen,w4⟩
   have hps:∀ p ∈ [(D,({ cls:=.type "list",data:=.seq its.toArray k }:Obj))],p.1=D:=λp hp=>by
    have:=List.mem_singleton.mp hp
    rw [this]
   rcases turn i n ys H4 w4 with⟨stop,qn⟩ | ⟨go,hlt,N,hN,step⟩
   ·-- the end
    have TD:=T.done X' (by rw [<-hX'];rfl) (by rw [<-hX'];rfl) (by rw [<-hX'];rfl) (by rw [<-hX'];exact hc) i _ s4 (emb σ) H4 (λ_ _=>False) I4 (hfpX fr4 hps) st4 stop
    rw [show X'.A=X.A by rw [<-hX'];rfl] at TD
    refine thn TD λr s5 ⟨hr,I5⟩=>?_
    subst hr
    obtain⟨m5,hn5,_⟩:=id I5.loc
    have eC:X'.env.locals=D+1:=by rw [<-hX'];rfl
    rw [eC] at hn5
    suffices inv5:∀ h',Heap.SameBut (D+1) s5.heap h'->Inv X pins σ (upd H4 D (.lst ys)) { s5 with heap:=h' } by
     have I5X:Inv X pins σ (upd H4 D (.lst ys)) s5:=inv5 s5.heap ⟨rfl,λ_ _=>rfl⟩
     have hD4':H4 D=none:=(I5.pin (D,{ cls:=.type "list",data:=.seq its.toArray k }) (by rw [<-hX'];exact List.mem_append_right _ List.mem_cons_self)).2.1
     have hC4:upd H4 D (.lst ys) (D+1)=none:=by
      have:=I5.free
      rw [eC] at this
      rw [aD (Nat.ne_of_gt (Nat.lt_succ_self D))]
      exact this
     have fpC:∀ b ∈ [D+1],gT X pins (upd H4 D (.lst ys)) b:=λb hb=>by
      have e:=List.mem_singleton.mp hb
      subst e
      exact I2.fpOk (by rw [hD];exact Nat.le_succ D) hC4
     obtain⟨oC,esC,epC,getC,datC,relC⟩:=id hn5
     have I5p:=I5X.pinned fpC λb hb=>by
      have e:=List.mem_singleton.mp hb
      subst e
      exact⟨oC,getC,λv z=>by rw [datC] at z;cases z⟩
     refine wpAny_assign_Name (lb I5p hN0 hi0 hx0 (v:=.ref D) rfl (λs6 I6=>?_) hf0)
     have pC:=(I6.pin (D+1,oC) (List.mem_append_right _ (List.mem_append_right _ (dz List.mem_cons_self getC)))).1
     refine⟨m5,⟨oC,esC,epC,pC,datC,relC⟩,λh' hsb=>?_⟩
     have I6u:=I6.unpinned
     exact⟨_,_,I6u.turns (t':=s6.toks) fpC (λb o hb e=>(hsb.2 b (λz=>hb (by rw [z];exact List.mem_cons_self))).trans e),qn D hD4'⟩
    intro h' hsb
    have pD5:=I5.pin (D,{ cls:=.type "list",data:=.seq its.toArray k }) (by rw [<-hX'];exact List.mem_append_right _ List.mem_cons_self)
    have neC:∀ b u,H4 b=some u->b≠D+1:=λb u e z=>by
     have:=I5.free
     rw [eC,<-z,e] at this
     cases this
    have hD4:H4 D=none:=pD5.2.1
    have un:=I5.base
    have un':Un (frs X.stack) fp H2 H4 s2.heap s5.heap:=by rw [<-hX'] at un;exact un
    have old_ne:∀ b o,s2.heap.get? b=some o->b≠D/\b≠D+1:=λb o e=>by
     have q:=Heap.lt_size e
     rw [hD] at q
     exact⟨Nat.ne_of_lt q,Nat.ne_of_lt (Nat.lt_succ_of_lt q)⟩
    have h2D:H2 D=none:=by rw [<-hD];exact I2.fresh
    have hok':HOk X.prog X.w H4 h':=λb u e=>by
     have ob:bY X.prog X.w H4 s5.heap b u:=by have:=I5.hok b u e;rw [<-hX'] at this;exact this
     refine ob.stay (λc v hcv q=>(hsb.2 c ?_).trans q) (λ_ q=>q) λ_ _ q=>q
     rcases hcv with z | z
     ·rw [z];exact neC b u e
     ·exact neC c _ z
    have hokD:HOk X.prog X.w (upd H4 D (.lst ys)) h':=λb u e=>by
     by_cases hb:b=D
     ·subst hb
      rw [aX] at e
      cases e
      exact⟨hlen,its,k,rv,(hsb.2 b (Nat.ne_of_lt (Nat.lt_succ_self _))).trans pD5.1⟩
     ·rw [aD hb] at e
      refine (hok' b u e).stay (λ_ _ _ q=>q) (λc q=>?_) λc z q=>?_
      all_goals first
       | (rw [aD (aO q hD4)];exact q)
       | (rw [aD (aO z hD4)];exact z)
    refine I2.call' (s':={ s5 with heap:=h' }) (ch:=fp) ?_ ⟨λb o e nb hb hx=>?_,λb o e nb hb hx=>?_,λb o e nb hx=>?_,λb o e hx=>?_,λb xs e=>?_,λb o u e=>?_,λb ps e=>?_⟩ hokD I5.bare (λb hb=>?_)
    ·have:=I5.os
     rw [<-hX'] at this
     exact this
    ·exact (hsb.2 b (old_ne b o e).2).trans (un'.keep b o e nb hb hx)
    ·obtain⟨sl,q⟩:=un'.slot b o e nb hb hx
     exact⟨sl,(hsb.2 b (old_ne b o e).2).trans q⟩
    ·rw [aD (old_ne b o e).1]
     exact un'.free b o e nb hx
    ·obtain⟨o',q⟩:=un'.there b o e hx
     exact⟨o',(hsb.2 b (old_ne b o e).2).trans q⟩
    ·rw [aD (aO e h2D)]
     exact un'.tups b xs e
    ·rw [aD (aO e h2D)]
     exact un'.frzs b o u e
    ·obtain⟨m,q⟩:=un'.tbls b ps e
     exact⟨m,by rw [aD (aO e h2D)];exact q⟩
    ·obtain⟨q0,q1,q2,q3,q4,q5⟩:=f2 b hb
     exact⟨q3,q1,q4,q5⟩
   ·-- a turn
    have hA:X'.A=X.A:=by rw [<-hX'];rfl
    have hP:X'.prog=X.prog:=by rw [<-hX'];rfl
    have hw:X'.w=X.w:=by rw [<-hX'];rfl
    have hE:X'.env=compEnvC scope cells (D+1) X.env:=by rw [<-hX'];rfl
    have hxe:X'.xe=λ_ _=>False:=by rw [<-hX'];rfl
    have TI':=T.item X' hP hw (by rw [<-hX'];rfl) (by rw [<-hX'];exact hc) i _ s4 (emb σ) H4 (λ_ _=>False) I4 (hfpX fr4 hps) st4 go
    rw [hA] at TI'
    refine thn TI' λr s5 ⟨u,hr,h5⟩=>?_
    subst hr
    refine thn h5 λ_ s6 ⟨x,H6,I6,r6,y6,st6,fr6⟩=>?_
    have I6':=I6.pinned (hfpX fr6 hps) (T.obj _ _ st6)
    have G:=hg cells s2 H2 (D+1) fp
    have TT':=ht cells s2 H2 (D+1) fp
    have EE:=he cells s2 H2 (D+1) fp
    rw [hX'] at G TT' EE
    have G':=G _ s6 (emb σ) H6 x u _ I6' r6 (step x H6 y6)
    rw [hA,hP,hw,hE,hxe] at G'
    refine thn G' λ_ s7 ⟨σ7,H7,I7,sb7,q7⟩=>?_
    have T':=TT' _ s7 σ7 H7 _ I7 q7
    rw [hA,hP,hw,hE,hxe] at T'
    refine thn T' λok s8 ⟨H8,I8,q8⟩=>?_
    -- what is pinned
    have pin_fp:∀ {σ9:St}{H9:Hp}{s9:Shared},Inv X' ([(D,({ cls:=.type "list",data:=.seq its.toArray k }:Obj))]++jJ fp s6.heap) σ9 H9 s9->tn (i+1) s9.heap/\∀ b ∈ fp,H9 b=none:=λ{σ9 H9 s9} I9=>
     ⟨T.keep _ _ _ st6 λb hb o e=>(I9.pin (b,o) (List.mem_append_right _ (List.mem_append_right _ (dz hb e)))).1,λb hb=>by
      obtain⟨o,e,_⟩:=T.obj _ _ st6 b hb
      exact (I9.pin (b,o) (List.mem_append_right _ (List.mem_append_right _ (dz hb e)))).2.1⟩
    cases ok with
    | false=>
     rw [if_neg (by decide)] at q8
     rw [if_neg (by decide)]
     obtain⟨m',hm,w8⟩:=hN _ _ q8
     exact⟨m',hm,i+1,ys,its,k,H8,I8.unpinned.weak sb7.1 sb7.2,rv,(pin_fp I8).1,(pin_fp I8).2,hlen,w8⟩
    | true=>
     rw [if_pos rfl] at q8
     rw [if_pos rfl]
     have E':=EE _ s8 σ7 H8 _ I8 q8
     rw [hA,hP,hw,hE,hxe] at E'
     refine thn E' λy s9 ⟨v9,H9,I9,r9,n9⟩=>?_
     obtain⟨m',hm,w9⟩:=hN _ _ n9
     have pD9:=I9.pin (D,{ cls:=.type "list",data:=.seq its.toArray k }) (List.mem_append_right _ (List.mem_append_left _ List.mem_cons_self))
     have hl:=rv.length
     have I9n:Inv X' [] σ7 H9 s9:=I9.pins_of λp hp=>nomatch hp
     refine call_meets F.slot_list_append ⟨_,pD9.1,rfl⟩ F.entry_list_append (F.args_list_append_2 _ _) (PySem.list_append D its.toArray k y (by rw [List.size_toArray];lia)) ⟨pD9.1,?_⟩
     have up:∃ k':Nat,(s9.heap.update D (Obj.mapSeq λxs=>xs.push y)).get? D=some { cls:=.type "list",data:=.seq (its++[y]).toArray k' }:=by
      have q:=PySem.IsL.update pD9.1 (λxs:Array Value=>xs.push y)
      simp only [List.push_toArray] at q
      exact⟨_,q⟩
     obtain⟨k',up⟩:=up
     have hoth:∀ b o,b≠D->s9.heap.get? b=some o->(s9.heap.update D (Obj.mapSeq λxs=>xs.push y)).get? b=some o:=λb o hb e=>(Heap.get?_update_other s9.heap _ (Ne.symm hb)).trans e
     have I10:=I9n.turned (t':=s9.toks) hoth pD9.2.1 Dloc Dex Dcell (λp hp=>absurd (show p ∈ ([]:List (Addr×Obj)) by rw [<-hX'] at hp;exact hp) (by simp))
     refine⟨m',hm,i+1,ys++[v9],its++[y],k',H9,(I10.weak sb7.1 sb7.2).pins_of (λp hp=>?_),rv.append (.cons r9 .nil),T.keep _ _ _ (pin_fp I9).1 (λb hb o e=>hoth b o (by rw [<-hD];exact Nat.ne_of_lt (fplt b hb)) e),(pin_fp I9).2,?_,w9⟩
     ·have:=List.mem_singleton.mp hp
      subst this
      exact⟨up,pD9.2.1,Dloc,Dfs,λv z=>by cases z⟩
     ·rw [List.length_append,List.length_singleton]
      lia
  ·have q:lo={ cls:=.type "list",data:=.seq ([]:List Value).toArray 0 }:=hlo.symm
   rw [<-q]
   exact I3
  ·exact T.keep _ _ _ st2 λb hb o e=>pushCells_keeps _ _ b o (Heap.get?_push_of_some _ (Heap.get?_push_of_some _ e))
 refine codeAny_compStart_list ?_ ?_
 ·exact loop _ rfl
 ·refine T.self X.A 0 _ _ _ (T.keep _ _ _ st2 λb hb o e=>pushCells_keeps _ _ b o (Heap.get?_push_of_some _ (Heap.get?_push_of_some _ e))) ?_
  exact loop _ rfl
end
end L2
namespace L2
open PySem PySem.Spec PyProof.Rows
noncomputable def aR:Expr->Bool
 | .Starred _ _=>false
 | _=>true
theorem ce {e:Expr}{es:List Expr}{env:Env} (h:aR e=true):starEach (e::es) env=(false,eval e env)::starEach es env:=by
 cases e<;>first | (cases h;done) | rfl
theorem dF {pos:Pos}{env:Env}:∀ {es:List Expr},es.all aR=true->(backTo pos (starEach es env)).any (·.1)=false
 | [],_=>by simp [starEach,backTo]
 | e::es,h=>by
  rw [List.all_cons,Bool.and_eq_true] at h
  rw [ce h.1]
  have:=dF (pos:=pos) (env:=env) h.2
  unfold backTo at this ⊢
  rw [List.map_cons,List.any_cons,this]
  rfl
theorem ve {pos:Pos}{env:Env}{es:List Expr} (h:es.all aR=true) (hl:es.length < 30):((backTo pos (starEach es env)).all (λx=>!x.1) && (backToKw pos (keywordEach [] env)).all (λx=>x.1.isSome)
   && decide (es.length+([]:List Keyword).length+(if ([]:List Keyword).isEmpty then 0 else 1) < 30))=true:=by
 have h1:(backTo pos (starEach es env)).all (λx=>!x.1)=true:=by
  have:=dF (pos:=pos) (env:=env) h
  rw [List.all_eq_true]
  intro x hx
  rw [List.any_eq_false] at this
  simpa using this x hx
 have h2:(backToKw pos (keywordEach [] env)).all (λx=>x.1.isSome)=true:=by simp [keywordEach,backToKw]
 rw [h1,h2]
 simpa using hl
theorem io {e:Expr}{env:Env} (h:aR e=true):starEach [e] env=[(false,eval e env)]:=by rw [ce h];rfl
theorem u8 {e e2:Expr}{env:Env} (h:aR e=true) (h2:aR e2=true):starEach [e,e2] env=[(false,eval e env),(false,eval e2 env)]:=by rw [ce h,io h2]
noncomputable def vz:Expr->Bool
 | .UnaryOp .Not _ _=>false
 | .BoolOp _ _ _=>false
 | .IfExp _ _ _ _=>false
 | .Compare _ _ _ _=>false
 | _=>true
theorem uo {a:Expr}{env:Env} (h:vz a=true):∀ whole,PySem.isTrue a env whole=(do let v <-whole;standAt a.pos;holding [v] (truthy v)):=by
 intro whole
 cases a with
 | UnaryOp op x p=>cases op<;>first | (cases h;done) | rfl
 | BoolOp _ _ _=>cases h
 | IfExp _ _ _ _=>cases h
 | Compare _ _ _ _=>cases h
 | _=>rfl
theorem mj {t:Expr}{ts:List Expr}{env:Env} (h:aR t=true):assignEach (t::ts) env=(false,assign t env)::assignEach ts env:=by
 cases t<;>first | (cases h;done) | rfl
theorem oW {env:Env}:∀ {ts:List Expr},ts.all aR=true->(assignEach ts env).length=ts.length
 | [],_=>by simp [assignEach]
 | t::ts,h=>by
  rw [List.all_cons,Bool.and_eq_true] at h
  rw [mj h.1,List.length_cons,oW h.2,List.length_cons]
theorem mJ {env:Env}:∀ {ts:List Expr},ts.all aR=true->(assignEach ts env).findIdx? (·.1)=none
 | [],_=>by simp [assignEach]
 | t::ts,h=>by
  rw [List.all_cons,Bool.and_eq_true] at h
  rw [mj h.1,List.findIdx?_cons,mJ h.2]
  rfl
theorem sr {t:Expr}{ts:List Expr}{env:Env} (h:aR t=true):(assignEach (t::ts) env).map (·.2)=assign t env::(assignEach ts env).map (·.2):=by rw [mj h];rfl
theorem sW {t:Expr}{env:Env} (h:aR t=true):(assignEach [t] env).map (·.2)=[assign t env]:=by rw [sr h];simp [assignEach]
noncomputable def pi:Expr->Bool
 | .Slice _ _ _ _=>false
 | _=>true
theorem xh {o i:Expr}{pos:Pos}{env:Env} (h:pi i=true) (v:Value):assign (.Subscript o i pos) env v=(do
   let ov <-holding [v] (eval o env)
   let iv <-holding [v,ov] (eval i env)
   standAt pos
   holding [v,ov,iv] (setItem ov iv v)
   release [v,ov,iv] []):=by
 cases i<;>first | (cases h;done) | rfl
theorem vO {i:Expr} (h:pi i=true):sV i:=by
 intro o j
 cases i<;>first | (cases h;done) | rfl
end L2
namespace L2
open PySem PySem.Spec PyProof.Rows
inductive D where
 | non | bl (b:Bool) | int (i:Int) | str (x:Str) | ty (n:String) | dct | scr (ns:List Int) | tup (ds:List D) | lst (ds:List D)
 deriving Inhabited
inductive W where
 | d (x:D) | h (n:Nat)
 deriving Inhabited
inductive C where
 | l (ds:List D) | n (ws:List W) | m (kvs:List (List Int×D)) | k (kvs:List (Int×D))
 deriving Inhabited
abbrev Sto:=List C
noncomputable def lg (st:Sto) (n:Nat):Option (List D):=match st[n]? with
 | some (.l ds)=>some ds
 | _=>none
noncomputable def eY (l:List Int):List Key:=l.map Sum.inl
abbrev Ev:=List (Option W)
noncomputable def KLs (K:PySem.W.Frag) (a:Addr) (xs:List V):Prop:=
 ∃ (o:Obj) (its:Array Value) (n:Nat),K.lookup a=some o/\o.cls=.type "list"/\o.dict=none/\o.data=.seq its n/\its.size<=sizeLine/\aT xs its.toList
section
variable (K:PySem.W.Frag) (H:Hp) (φ:List Addr)
mutual
noncomputable def Rl:D->V->Prop
 | .non,v=>v=.non
 | .bl b,v=>v=.bl b
 | .int i,v=>v=.int i
 | .str x,v=>v=.str x
 | .ty n,v=>v=.ty n
 | .dct,v=>∃ a,v=.ref a/\a ∉ φ/\((∃ d,H a=some (.dK d))\/∃ d,H a=some (.dT d))
 | .scr ns,v=>∃ a,v=.ref a/\((∃ o,H a=some (.frz o (.lst (ns.map V.int))))\/KLs K a (ns.map V.int))
 | .tup ds,v=>∃ a vs,v=.ref a/\H a=some (.tup vs)/\Rls ds vs
 | .lst ds,v=>∃ a vs,v=.ref a/\a ∉ φ/\Rd H a (.lst vs)/\Rls ds vs
noncomputable def Rls:List D->List V->Prop
 | [],vs=>vs=[]
 | d::ds,vs=>∃ v r,vs=v::r/\Rl d v/\Rls ds r
end
noncomputable def Rw:W->V->Prop
 | .d x,v=>Rl K H φ x v
 | .h n,v=>∃ a,φ[n]?=some a/\v=.ref a
noncomputable def Rws:List W->List V->Prop
 | [],vs=>vs=[]
 | d::ds,vs=>∃ v r,vs=v::r/\Rw K H φ d v/\Rws ds r
noncomputable def Rkv:List (List Int×D)->List (List Key×V)->Prop
 | [],vs=>vs=[]
 | (k,d)::ds,vs=>∃ v r,vs=(eY k,v)::r/\Rl K H φ d v/\Rkv ds r
noncomputable def Rkk:List (Int×D)->List (Key×V)->Prop
 | [],vs=>vs=[]
 | (k,d)::ds,vs=>∃ v r,vs=(Sum.inl k,v)::r/\Rl K H φ d v/\Rkk ds r
noncomputable def Rc (k:Nat) (a:Addr):C->Prop
 | .l ds=>∃ vs,H a=some (.lst vs)/\Rls K H φ ds vs
 | .n ws=>∃ vs,H a=some (.lst vs)/\Rws K H φ ws vs/\∀ m,W.h m ∈ ws->m < k
 | .m kvs=>∃ vs,H a=some (.dT vs)/\Rkv K H φ kvs vs
 | .k kvs=>∃ vs,H a=some (.dK vs)/\Rkk K H φ kvs vs
structure Sr (st:Sto):Prop where
 nd:φ.Nodup
 len:φ.length=st.length
 at_:∀ (n:Nat) a c,φ[n]?=some a->st[n]?=some c->Rc K H φ n a c
structure Er (env:Ev) (σ:St):Prop where
 len:env.length=σ.length
 at_:∀ (i:Nat) w,env[i]?=some (some w)->∃ v,σ[i]?=some (some v)/\Rw K H φ w v
end
structure Fw (φ φ':List Addr) (H H':Hp):Prop where
 ext:∃ ψ,φ'=φ++ψ/\∀ a ∈ ψ,H a=none
 keep:∀ b o,b ∉ φ->H b=some o->H' b=some o
 there:∀ b o,H b=some o->∃ o',H' b=some o'
section
variable {K:PySem.W.Frag}{H H1 H2 H':Hp}{φ φ1 φ2 φ':List Addr}{st st':Sto}
theorem Fw.refl (φ:List Addr) (H:Hp):Fw φ φ H H:=⟨⟨[],by simp,by simp⟩,λ_ _ _ h=>h,λ_ o h=>⟨o,h⟩⟩
theorem Fw.trans (a:Fw φ φ1 H H1) (b:Fw φ1 φ2 H1 H2):Fw φ φ2 H H2:=by
 obtain⟨ψ,rfl,e1⟩:=a.ext
 obtain⟨ψ2,rfl,e2⟩:=b.ext
 refine⟨⟨ψ++ψ2,by rw [List.append_assoc],λc hc=>?_⟩,λc o hc h=>?_,λc o h=>?_⟩
 ·rcases List.mem_append.mp hc with z | z
  ·exact e1 c z
  ·cases q:H c with
   | none=>rfl
   | some o=>
    obtain⟨o',q'⟩:=a.there c o q
    rw [e2 c z] at q';cases q'
 ·refine b.keep c o (λz=>?_) (a.keep c o hc h)
  rcases List.mem_append.mp z with z | z
  ·exact hc z
  ·rw [e1 c z] at h;cases h
 ·obtain⟨o',q⟩:=a.there c o h
  exact b.there c o' q
theorem Fw.same (s:bK H H'):Fw φ φ H H':=⟨⟨[],by simp,by simp⟩,λb o _ h=>s b o h,λb o h=>⟨o,s b o h⟩⟩
theorem Fw.new {p:Addr}{o:HO} (hp:H p=none):Fw φ φ H (upd H p o):=.same (bK.new hp o)
theorem Fw.get (f:Fw φ φ' H H') {n:Nat}{a:Addr} (h:φ[n]?=some a):φ'[n]?=some a:=by
 obtain⟨ψ,rfl,_⟩:=f.ext
 rw [List.getElem?_append_left (List.getElem?_eq_some_iff.mp h).1];exact h
theorem Fw.nin (f:Fw φ φ' H H') {a:Addr}{o:HO} (h:a ∉ φ) (q:H a=some o):a ∉ φ':=by
 obtain⟨ψ,rfl,e⟩:=f.ext
 intro z
 rcases List.mem_append.mp z with z | z
 ·exact h z
 ·rw [e a z] at q;cases q
noncomputable def Ba:HO->Bool
 | .lst _=>true
 | .dT _=>true
 | .dK _=>true
 | _=>false
theorem Rc.ob {k:Nat}{a:Addr}{c:C} (h:Rc K H φ k a c):∃ o,H a=some o/\Ba o=true:=by
 cases c with
 | l ds=>obtain⟨vs,q,_⟩:=h;exact⟨_,q,rfl⟩
 | n ds=>obtain⟨vs,q,_⟩:=h;exact⟨_,q,rfl⟩
 | m ds=>obtain⟨vs,q,_⟩:=h;exact⟨_,q,rfl⟩
 | k ds=>obtain⟨vs,q,_⟩:=h;exact⟨_,q,rfl⟩
theorem Sr.lst (S:Sr K H φ st) {a:Addr} (h:a ∈ φ):∃ o,H a=some o/\Ba o=true:=by
 obtain⟨n,hn,e⟩:=List.mem_iff_getElem.mp h
 have hs:n < st.length:=by rw [<-S.len];exact hn
 exact (S.at_ n a st[n] (by rw [List.getElem?_eq_getElem hn,e]) (by rw [List.getElem?_eq_getElem hs])).ob
theorem sM {st:Sto}{n:Nat}{ds:List D} (h:lg st n=some ds):st[n]?=some (.l ds):=by
 unfold lg at h
 split at h
 ·rename_i q;cases h;exact q
 ·cases h
theorem Sr.atl (S:Sr K H φ st) (n:Nat) (a:Addr) (ds:List D) (e1:φ[n]?=some a) (e2:lg st n=some ds):∃ vs,H a=some (.lst vs)/\Rls K H φ ds vs:=S.at_ n a _ e1 (sM e2)
theorem Sr.nin (S:Sr K H φ st) {a:Addr} (h:H a=none):a ∉ φ:=λz=>by
 obtain⟨vs,q,_⟩:=S.lst z
 rw [q] at h;cases h
theorem Rd.nin (S:Sr K H φ st) {a:Addr}{vs:List V} (h:Rd H a (.tup vs)):a ∉ φ:=λz=>by
 obtain⟨ws,q,qm⟩:=S.lst z
 rcases h with h | ⟨o,h⟩<;>(rw [q] at h;cases h;cases qm)
theorem Rd.fw (f:Fw φ φ' H H') {a:Addr}{u:HO} (hn:a ∉ φ) (h:Rd H a u):Rd H' a u:=by
 rcases h with h | ⟨o,h⟩
 ·exact .inl (f.keep _ _ hn h)
 ·exact .inr ⟨o,f.keep _ _ hn h⟩
theorem SqT.fw (S:Sr K H φ st) (f:Fw φ φ' H H') {a:Addr}{vs:List V} (h:SqT K H a vs):SqT K H' a vs:=by
 rcases h with h | h
 ·exact .inl (f.keep _ _ (Rd.nin S (.inl h)) h)
 ·exact .inr h
theorem Rd.some {a:Addr}{u:HO} (h:Rd H a u):∃ o,H a=some o:=by
 rcases h with h | ⟨o,h⟩
 ·exact⟨_,h⟩
 ·exact⟨_,h⟩
mutual
theorem Rl.fw (S:Sr K H φ st) (f:Fw φ φ' H H'):∀ {d:D}{v:V},Rl K H φ d v->Rl K H' φ' d v
 | .non,_,h=>h
 | .bl _,_,h=>h
 | .int _,_,h=>h
 | .str _,_,h=>h
 | .ty _,_,h=>h
 | .dct,_,h=>by
  obtain⟨a,rfl,hn,h⟩:=h
  rcases h with⟨d,h⟩ | ⟨d,h⟩
  ·exact⟨a,rfl,f.nin hn h,.inl ⟨d,f.keep _ _ hn h⟩⟩
  ·exact⟨a,rfl,f.nin hn h,.inr ⟨d,f.keep _ _ hn h⟩⟩
 | .scr ns,_,h=>by
  obtain⟨a,rfl,h⟩:=h
  refine⟨a,rfl,?_⟩
  rcases h with⟨o,h⟩ | h
  ·refine .inl ⟨o,f.keep _ _ (λz=>?_) h⟩
   obtain⟨ws,q,qm⟩:=S.lst z
   rw [q] at h;cases h;cases qm
  ·exact .inr h
 | .tup ds,_,h=>by
  obtain⟨a,vs,rfl,h1,h2⟩:=h
  exact⟨a,vs,rfl,f.keep _ _ (Rd.nin S (.inl h1)) h1,Rls.fw S f h2⟩
 | .lst ds,_,h=>by
  obtain⟨a,vs,rfl,h0,h1,h2⟩:=h
  obtain⟨o,e⟩:=h1.some
  exact⟨a,vs,rfl,f.nin h0 e,h1.fw f h0,Rls.fw S f h2⟩
theorem Rls.fw (S:Sr K H φ st) (f:Fw φ φ' H H'):∀ {ds:List D}{vs:List V},Rls K H φ ds vs->Rls K H' φ' ds vs
 | [],_,h=>h
 | d::ds,_,h=>by
  obtain⟨v,r,rfl,h1,h2⟩:=h
  exact⟨v,r,rfl,Rl.fw S f h1,Rls.fw S f h2⟩
end
theorem Rw.fw (S:Sr K H φ st) (f:Fw φ φ' H H') {w:W}{v:V} (h:Rw K H φ w v):Rw K H' φ' w v:=by
 cases w with
 | d x=>exact Rl.fw S f h
 | h n=>obtain⟨a,e,rfl⟩:=h;exact⟨a,f.get e,rfl⟩
theorem Rws.fw (S:Sr K H φ st) (f:Fw φ φ' H H'):∀ {ws:List W}{vs:List V},Rws K H φ ws vs->Rws K H' φ' ws vs
 | [],_,h=>h
 | d::ds,_,h=>by
  obtain⟨v,r,rfl,h1,h2⟩:=h
  exact⟨v,r,rfl,h1.fw S f,Rws.fw S f h2⟩
theorem Er.fw (S:Sr K H φ st) (f:Fw φ φ' H H') {env:Ev}{σ:St} (h:Er K H φ env σ):Er K H' φ' env σ:=
 ⟨h.len,λi w e=>let ⟨v,e1,r⟩:=h.at_ i w e;⟨v,e1,r.fw S f⟩⟩
theorem Rkv.fw (S:Sr K H φ st) (f:Fw φ φ' H H'):∀ {ds:List (List Int×D)}{vs:List (List Key×V)},Rkv K H φ ds vs->Rkv K H' φ' ds vs
 | [],_,h=>h
 | (k,d)::ds,_,h=>by
  obtain⟨v,r,rfl,h1,h2⟩:=h
  exact⟨v,r,rfl,Rl.fw S f h1,Rkv.fw S f h2⟩
theorem Rkk.fw (S:Sr K H φ st) (f:Fw φ φ' H H'):∀ {ds:List (Int×D)}{vs:List (Key×V)},Rkk K H φ ds vs->Rkk K H' φ' ds vs
 | [],_,h=>h
 | (k,d)::ds,_,h=>by
  obtain⟨v,r,rfl,h1,h2⟩:=h
  exact⟨v,r,rfl,Rl.fw S f h1,Rkk.fw S f h2⟩
theorem Rc.fw (S:Sr K H φ st) (f:Fw φ φ' H H') {k:Nat}{a:Addr}{c:C} (e:∀ o,H a=some o->H' a=some o) (h:Rc K H φ k a c):Rc K H' φ' k a c:=by
 cases c with
 | l ds=>obtain⟨vs,q,r⟩:=h;exact⟨vs,e _ q,r.fw S f⟩
 | n ds=>obtain⟨vs,q,r,b⟩:=h;exact⟨vs,e _ q,r.fw S f,b⟩
 | m ds=>obtain⟨vs,q,r⟩:=h;exact⟨vs,e _ q,r.fw S f⟩
 | k ds=>obtain⟨vs,q,r⟩:=h;exact⟨vs,e _ q,r.fw S f⟩
theorem Sr.same (S:Sr K H φ st) (s:bK H H'):Sr K H' φ st:=
 ⟨S.nd,S.len,λn a c e1 e2=>(S.at_ n a c e1 e2).fw S (Fw.same s) λo h=>s _ _ h⟩
theorem Sr.new (S:Sr K H φ st) {p:Addr}{o:HO} (hp:H p=none):Sr K (upd H p o) φ st:=S.same (bK.new hp o)
theorem Rls.length:∀ {ds:List D}{vs:List V},Rls K H φ ds vs->ds.length=vs.length
 | [],_,h=>by cases h;rfl
 | d::ds,_,h=>by
  obtain⟨v,r,rfl,h1,h2⟩:=h
  rw [List.length_cons,List.length_cons,Rls.length h2]
theorem Rws.length:∀ {ds:List W}{vs:List V},Rws K H φ ds vs->ds.length=vs.length
 | [],_,h=>by cases h;rfl
 | d::ds,_,h=>by
  obtain⟨v,r,rfl,h1,h2⟩:=h
  rw [List.length_cons,List.length_cons,Rws.length h2]
theorem Rls.append:∀ {ds es:List D}{vs us:List V},Rls K H φ ds vs->Rls K H φ es us->Rls K H φ (ds++es) (vs++us)
 | [],_,_,_,h,h'=>by cases h;exact h'
 | d::ds,_,_,_,h,h'=>by
  obtain⟨v,r,rfl,h1,h2⟩:=h
  exact⟨v,r++_,rfl,h1,Rls.append h2 h'⟩
theorem Rls.get:∀ {ds:List D}{vs:List V},Rls K H φ ds vs->∀ {i:Nat}{d:D},ds[i]?=some d->∃ v,vs[i]?=some v/\Rl K H φ d v
 | [],_,h,i,d,e=>by simp at e
 | d::ds,_,h,i,e,q=>by
  obtain⟨v,r,rfl,h1,h2⟩:=h
  cases i with
  | zero=>simp at q;subst q;exact⟨v,rfl,h1⟩
  | succ i=>simpa using Rls.get h2 (i:=i) (d:=e) (by simpa using q)
theorem Rls.take:∀ {ds:List D}{vs:List V} (n:Nat),Rls K H φ ds vs->Rls K H φ (ds.take n) (vs.take n)
 | _,_,0,_=>by rw [List.take_zero,List.take_zero];exact rfl
 | [],_,n+1,h=>by cases h;exact rfl
 | d::ds,_,n+1,h=>by
  obtain⟨v,r,rfl,h1,h2⟩:=h
  exact⟨v,_,rfl,h1,Rls.take n h2⟩
theorem Rls.drop:∀ {ds:List D}{vs:List V} (n:Nat),Rls K H φ ds vs->Rls K H φ (ds.drop n) (vs.drop n)
 | _,_,0,h=>h
 | [],_,n+1,h=>by cases h;exact rfl
 | d::ds,_,n+1,h=>by
  obtain⟨v,r,rfl,h1,h2⟩:=h
  exact Rls.drop n h2
theorem Rls.set:∀ {ds:List D}{vs:List V} (n:Nat) {d:D}{v:V},Rls K H φ ds vs->Rl K H φ d v->Rls K H φ (ds.set n d) (vs.set n v)
 | [],_,_,_,_,h,_=>by cases h;exact rfl
 | e::ds,_,0,d,v,h,hd=>by
  obtain⟨u,r,rfl,h1,h2⟩:=h
  exact⟨v,r,rfl,hd,h2⟩
 | e::ds,_,n+1,d,v,h,hd=>by
  obtain⟨u,r,rfl,h1,h2⟩:=h
  exact⟨u,_,rfl,h1,Rls.set n h2 hd⟩
theorem Rls.rep {ds:List D}{vs:List V} (h:Rls K H φ ds vs):∀ k:Nat,Rls K H φ (List.replicate k ds).flatten (List.replicate k vs).flatten
 | 0=>rfl
 | k+1=>by rw [List.replicate_succ,List.replicate_succ,List.flatten_cons,List.flatten_cons];exact h.append (Rls.rep h k)
theorem Rls.ints:∀ {ns:List Int}{vs:List V},Rls K H φ (ns.map D.int) vs->vs=ns.map V.int
 | [],_,h=>h
 | n::ns,_,h=>by
  obtain⟨v,r,rfl,h1,h2⟩:=h
  rw [show v=.int n from h1,Rls.ints h2];rfl
theorem Rls.bools:∀ {ns:List Bool}{vs:List V},Rls K H φ (ns.map D.bl) vs->vs=ns.map V.bl
 | [],_,h=>h
 | n::ns,_,h=>by
  obtain⟨v,r,rfl,h1,h2⟩:=h
  rw [show v=.bl n from h1,Rls.bools h2];rfl
theorem Rls.of_ints:∀ (ns:List Int),Rls K H φ (ns.map D.int) (ns.map V.int)
 | []=>rfl
 | n::ns=>⟨_,_,rfl,rfl,Rls.of_ints ns⟩
theorem Rl.less {ψ:List Addr}:∀ {d:D}{v:V},Rl K H (φ++ψ) d v->Rl K H φ d v:=by
 intro d v
 refine (?_:∀ v,Rl K H (φ++ψ) d v->Rl K H φ d v) v
 refine D.rec (motive_1:=λd=>∀ v,Rl K H (φ++ψ) d v->Rl K H φ d v) (motive_2:=λds=>∀ vs,Rls K H (φ++ψ) ds vs->Rls K H φ ds vs) ?_ ?_ ?_ ?_ ?_ ?_ ?_ ?_ ?_ ?_ ?_ d
 ·exact λv h=>h
 ·exact λb v h=>h
 ·exact λb v h=>h
 ·exact λb v h=>h
 ·exact λb v h=>h
 ·rintro v ⟨a,e,hn,h⟩;exact⟨a,e,λz=>hn (List.mem_append_left _ z),h⟩
 ·exact λns v h=>h
 ·rintro ds ih v ⟨a,vs,rfl,h1,h2⟩;exact⟨a,vs,rfl,h1,ih vs h2⟩
 ·rintro ds ih v ⟨a,vs,rfl,h0,h1,h2⟩;exact⟨a,vs,rfl,λz=>h0 (List.mem_append_left _ z),h1,ih vs h2⟩
 ·exact λvs h=>h
 ·rintro d ds ih1 ih2 vs ⟨v,r,rfl,h1,h2⟩;exact⟨v,r,rfl,ih1 v h1,ih2 r h2⟩
theorem Rls.less {ψ:List Addr}:∀ {ds:List D}{vs:List V},Rls K H (φ++ψ) ds vs->Rls K H φ ds vs
 | [],_,h=>h
 | d::ds,_,h=>by
  obtain⟨v,r,rfl,h1,h2⟩:=h
  exact⟨v,r,rfl,Rl.less h1,Rls.less h2⟩
theorem Rkv.less {ψ:List Addr}:∀ {ds:List (List Int×D)}{vs:List (List Key×V)},Rkv K H (φ++ψ) ds vs->Rkv K H φ ds vs
 | [],_,h=>h
 | (k,d)::ds,_,h=>by
  obtain⟨v,r,rfl,h1,h2⟩:=h
  exact⟨v,r,rfl,Rl.less h1,Rkv.less h2⟩
theorem Rkk.less {ψ:List Addr}:∀ {ds:List (Int×D)}{vs:List (Key×V)},Rkk K H (φ++ψ) ds vs->Rkk K H φ ds vs
 | [],_,h=>h
 | (k,d)::ds,_,h=>by
  obtain⟨v,r,rfl,h1,h2⟩:=h
  exact⟨v,r,rfl,Rl.less h1,Rkk.less h2⟩
theorem Rws.less {ψ:List Addr}:∀ {ds:List W}{vs:List V},(∀ m,W.h m ∈ ds->m < φ.length)->Rws K H (φ++ψ) ds vs->Rws K H φ ds vs
 | [],_,_,h=>h
 | d::ds,_,hm,h=>by
  obtain⟨v,r,rfl,h1,h2⟩:=h
  refine⟨v,r,rfl,?_,Rws.less (λm z=>hm m (List.mem_cons_of_mem _ z)) h2⟩
  cases d with
  | d x=>exact Rl.less h1
  | h m=>
   obtain⟨a,e,rfl⟩:=h1
   rw [List.getElem?_append_left (hm m List.mem_cons_self)] at e
   exact⟨a,e,rfl⟩
theorem Rc.less {ψ:List Addr}{k:Nat}{a:Addr}{c:C} (hk:k < φ.length) (h:Rc K H (φ++ψ) k a c):Rc K H φ k a c:=by
 cases c with
 | l ds=>obtain⟨vs,q,r⟩:=h;exact⟨vs,q,r.less⟩
 | n ds=>obtain⟨vs,q,r,b⟩:=h;exact⟨vs,q,r.less λm z=>Nat.lt_trans (b m z) hk,b⟩
 | m ds=>obtain⟨vs,q,r⟩:=h;exact⟨vs,q,r.less⟩
 | k ds=>obtain⟨vs,q,r⟩:=h;exact⟨vs,q,r.less⟩
theorem Sr.less {ψ:List Addr} (S:Sr K H (φ++ψ) st):Sr K H φ (st.take φ.length):=by
 have hl:=S.len
 rw [List.length_append] at hl
 refine⟨(List.nodup_append.mp S.nd).1,by rw [List.length_take];lia,λn a ds e1 e2=>?_⟩
 have hn:=(List.getElem?_eq_some_iff.mp e1).1
 rw [List.getElem?_take_of_lt hn] at e2
 exact (S.at_ n a ds (by rw [List.getElem?_append_left hn];exact e1) e2).less hn
end
end L2
namespace L2
open PySem PySem.Spec PyProof.Rows
abbrev Ef:=Ev->Sto->Option (W×Sto)
abbrev Af:=Ev->Sto->Option (List W×Sto)
abbrev Tf:=Ev->Sto->Option (Bool×Sto)
abbrev Lf:=Ev->Sto->Option (List D×Sto)
abbrev Fn:=List W->Sto->Option (W×Sto)
section
variable (K:PySem.W.Frag)
noncomputable def tI (env:Ev) (st:Sto) (r:W×Sto):TE:=λσ H Q=>∃ φ,Er K H φ env σ/\Sr K H φ st/\∀ v H' φ',Fw φ φ' H H'->Sr K H' φ' r.2->Rw K H' φ' r.1 v->Q v H'
noncomputable def tIA (env:Ev) (st:Sto) (r:List W×Sto):TA:=λσ H Q=>∃ φ,Er K H φ env σ/\Sr K H φ st/\∀ vs H' φ',Fw φ φ' H H'->Sr K H' φ' r.2->Rws K H' φ' r.1 vs->Q vs H'
noncomputable def tIT (env:Ev) (st:Sto) (r:Bool×Sto):TT:=λσ H Q=>∃ φ,Er K H φ env σ/\Sr K H φ st/\∀ H' φ',Fw φ φ' H H'->Sr K H' φ' r.2->Q r.1 H'
noncomputable def tIL (env:Ev) (st:Sto) (r:List D×Sto):TE:=λσ H Q=>∃ φ,Er K H φ env σ/\Sr K H φ st/\∀ a vs H1 φ',Fw φ φ' H H1->Sr K H1 φ' r.2->H1 a=none->Rls K H1 φ' r.1 vs->Q (.ref a) (upd H1 a (.lst vs))
structure IE (X:Cx) (e:Expr) (f:Ef):Prop where
 run:∀ env st r,f env st=some r->PE X e (tI K env st r)
structure IA (X:Cx) (es:List Expr) (f:Af):Prop where
 run:∀ env st r,f env st=some r->PA X es (tIA K env st r)
structure IT (X:Cx) (e:Expr) (f:Tf):Prop where
 run:∀ env st r,f env st=some r->PT X e (tIT K env st r)
structure ITW (X:Cx) (e:Expr) (f:Tf):Prop where
 run:∀ env st r,f env st=some r->PW X e (tIT K env st r)
structure IL (X:Cx) (e:Expr) (f:Lf):Prop where
 run:∀ env st r,f env st=some r->PE X e (tIL K env st r)
noncomputable def rD (st:Sto) (x y:W) (d:D):R2:=λvx vy H Q=>∃ φ,Sr K H φ st/\Rw K H φ x vx/\Rw K H φ y vy/\∀ v H',bK H H'->Rl K H' φ d v->Q v H'
structure OpD (X:Cx) (f:Value->Value->Sem Value) (g:Sto->W->W->Option D):Prop where
 run:∀ st x y d,g st x y=some d->OpR X f (rD K st x y d)
noncomputable def rCD (st:Sto) (ws:List W) (d:D):List V->Hp->VK->Prop:=λvs H Q=>∃ φ,Sr K H φ st/\Rws K H φ ws vs/\∀ v H',bK H H'->Rl K H' φ d v->Q v H'
structure iK (X:Cx) (f:Value) (g:Sto->List W->Option D):Prop where
 run:∀ st ws d,g st ws=some d->dk X f (rCD K st ws d)
noncomputable def rCL (st:Sto) (ws:List W) (ds:List D):List V->Hp->VK->Prop:=λvs H Q=>∃ φ,Sr K H φ st/\Rws K H φ ws vs/\∀ a us H1,bK H H1->H1 a=none->Rls K H1 φ ds us->Q (.ref a) (upd H1 a (.lst us))
structure yx (X:Cx) (f:Value) (g:Sto->List W->Option (List D)):Prop where
 run:∀ st ws d,g st ws=some d->dk X f (rCL K st ws d)
end
noncomputable def iV (i:Nat):Ef
 | env,st=>(env.getD i none).map λw=>(w,st)
noncomputable def iC (d:D):Ef
 | _,st=>some (.d d,st)
noncomputable def iOp (g:Sto->W->W->Option D) (a b:Ef):Ef
 | env,st=>(a env st).bind λx=>(b env x.2).bind λy=>(g y.2 x.1 y.1).map λd=>(.d d,y.2)
noncomputable def vK:D->Option Bool
 | .bl b=>some b
 | _=>none
noncomputable def blW:W->Option Bool
 | .d (.bl b)=>some b
 | _=>none
noncomputable def di (g:Sto->W->W->Option D) (a b:Ef):Tf
 | env,st=>(a env st).bind λx=>(b env x.2).bind λy=>(g y.2 x.1 y.1).bind λd=>(vK d).map λk=>(k,y.2)
noncomputable def jM (g g':Sto->W->W->Option D) (a b c:Ef):Ef
 | env,st=>(a env st).bind λx=>(b env x.2).bind λy=>(g y.2 x.1 y.1).bind λd=>(vK d).bind λk=>
 if k=true then (c env y.2).bind λz=>(g' z.2 y.1 z.1).map λd=>(.d d,z.2) else some (.d (.bl false),y.2)
noncomputable def iUn (g:W->Option D) (a:Ef):Ef
 | env,st=>(a env st).bind λx=>(g x.1).map λd=>(.d d,x.2)
noncomputable def wI (a:Ef):Ef
 | env,st=>(a env st).bind λx=>(blW x.1).map λk=>(.d (.bl (!k)),x.2)
noncomputable def nC (a b:Ef):Ef
 | env,st=>(a env st).bind λx=>(blW x.1).bind λk=>if k=true then b env x.2 else some (.d (.bl false),x.2)
noncomputable def oN (c:Tf) (a b:Ef):Ef
 | env,st=>(c env st).bind λr=>if r.1=true then a env r.2 else b env r.2
noncomputable def e8 (c:Tf):Tf
 | env,st=>(c env st).map λr=>(!r.1,r.2)
noncomputable def kN (a b:Tf):Tf
 | env,st=>(a env st).bind λr=>if r.1=true then some (true,r.2) else b env r.2
noncomputable def iZ (g:Sto->W->Option Bool) (a:Ef):Tf
 | env,st=>(a env st).bind λx=>(g x.2 x.1).map λk=>(k,x.2)
noncomputable def aj:Af
 | _,st=>some ([],st)
noncomputable def ae (a:Ef) (r:Af):Af
 | env,st=>(a env st).bind λx=>(r env x.2).map λy=>(x.1::y.1,y.2)
noncomputable def iCB (g:Sto->List W->Option D) (a:Af):Ef
 | env,st=>(a env st).bind λr=>(g r.2 r.1).map λd=>(.d d,r.2)
noncomputable def iCL (g:Sto->List W->Option (List D)) (a:Af):Lf
 | env,st=>(a env st).bind λr=>(g r.2 r.1).map λd=>(d,r.2)
noncomputable def aE (m:Fn) (a:Af):Ef
 | env,st=>(a env st).bind λr=>m r.1 r.2
noncomputable def oX:List W->Option (List D)
 | []=>some []
 | .d x::ws=>(oX ws).map λr=>x::r
 | .h _::_=>none
noncomputable def bm (a:Af):Ef
 | env,st=>(a env st).bind λr=>(oX r.1).bind λds=>if ds.length<=1000 then some (.d (.tup ds),r.2) else none
noncomputable def fz (a:Af):Lf
 | env,st=>(a env st).bind λr=>(oX r.1).bind λds=>if ds.length<=1000 then some (ds,r.2) else none
noncomputable def aV (a:Lf):Ef
 | env,st=>(a env st).map λr=>(.d (.lst r.1),r.2)
noncomputable def oY (a:Lf):Ef
 | env,st=>(a env st).map λr=>(.h r.2.length,r.2++[.l r.1])
section
variable {K:PySem.W.Frag}{X:Cx}{e a b c:Expr}{es:List Expr}{pos:Pos}{f fa fb fc:Ef}
theorem PE.imp {t t':TE} (h:PE X e t) (m:∀ σ H Q,t' σ H Q->t σ H Q):PE X e t':=λpins s σ H Q I q=>h pins s σ H Q I (m σ H Q q)
theorem PT.imp {t t':TT} (h:PT X e t) (m:∀ σ H Q,t' σ H Q->t σ H Q):PT X e t':=λpins s σ H Q I q=>h pins s σ H Q I (m σ H Q q)
theorem PW.imp {t t':TT} (h:PW X e t) (m:∀ σ H Q,t' σ H Q->t σ H Q):PW X e t':=λwh pins s σ H Q I q=>h wh pins s σ H Q I (m σ H Q q)
theorem PA.imp {t t':TA} (h:PA X es t) (m:∀ σ H Q,t' σ H Q->t σ H Q):PA X es t':=λpos pins s σ H Q I q=>h pos pins s σ H Q I (m σ H Q q)
theorem OpR.imp {g:Value->Value->Sem Value}{r r':R2} (h:OpR X g r) (m:∀ x y H Q,r' x y H Q->r x y H Q):OpR X g r':=λpins s σ H x y v u Q I rx ry q=>h pins s σ H x y v u Q I rx ry (m _ _ _ _ q)
theorem dk.imp {g:Value}{r r':List V->Hp->VK->Prop} (h:dk X g r) (m:∀ xs H Q,r' xs H Q->r xs H Q):dk X g r':=λpins s σ H xs us Q I rx q=>h pins s σ H xs us Q I rx (m _ _ _ q)
theorem je:PE X e (λ_ _ _=>False):=λ_ _ _ _ _ _ q=>q.elim
theorem wk:PW X e (λ_ _ _=>False):=λ_ _ _ _ _ _ _ q=>q.elim
theorem Ac {i:Nat}{x:Str}{t:TE} (h:PE X (.Name x pos) (yV i)):IE K X (.Name x pos) (iV i):=by
 refine⟨λenv st r hr=>?_⟩
 unfold iV at hr
 obtain⟨w,hw,rfl⟩:=Option.map_eq_some_iff.mp hr
 refine h.imp ?_
 rintro σ H Q ⟨φ,hE,hS,q⟩
 have hi:env[i]?=some (some w):=by
  rw [List.getD] at hw
  cases q:env[i]? with
  | none=>rw [q] at hw;cases hw
  | some o=>rw [q] at hw;rw [show o=some w from hw]
 obtain⟨v,e1,r⟩:=hE.at_ i w hi
 exact⟨v,e1,q v H φ (Fw.refl φ H) hS r⟩
theorem iv (i:Nat) {x:Str} (hN:X.N[i]?=some x:=by rfl) (hv:Vis X.env.scope x:=by first | exact Or.inl rfl | exact Or.inr (Or.inl rfl) | exact Or.inr (Or.inr rfl)) (hd:(x==("__debug__" : Str))=false:=by decide)
  (hcd:(x==("__classdict__" : Str))=false:=by decide):IE K X (.Name x pos) (iV i):=Ac (t:=yV i) (zE hN hv hd hcd)
theorem uX {d:D}{v:V} (h:PE X e (tC v)) (r:∀ H φ,Rl K H φ d v):IE K X e (iC d):=by
 refine⟨λenv st r hr=>?_⟩
 cases hr
 refine h.imp ?_
 rintro σ H Q ⟨φ,hE,hS,q⟩
 exact q v H φ (Fw.refl φ H) hS (r H φ)
theorem ak {i j}:IE K X (.Constant (.int i) j pos) (iC (.int i)):=uX zH λ_ _=>rfl
theorem gX {i j}:IE K X (.Constant (.bool i) j pos) (iC (.bl i)):=uX AJ λ_ _=>rfl
theorem zW {j}:IE K X (.Constant .none j pos) (iC .non):=uX zg λ_ _=>rfl
theorem cm {x j}:IE K X (.Constant (.str x) j pos) (iC (.str x)):=uX Ay λ_ _=>rfl
theorem om {env:Ev}{st:Sto}{x y:W×Sto}{d:D}{σ:St}{H:Hp}{Q:VK} (h:tI K env st (.d d,y.2) σ H Q):tOp (rD K y.2 x.1 y.1 d) (tI K env st x) (tI K env x.2 y) σ H Q:=by
 obtain⟨φ,hE,hS,q⟩:=h
 refine⟨φ,hE,hS,λv H1 φ1 f1 s1 w1=>⟨φ1,hE.fw hS f1,s1,λu H2 φ2 f2 s2 w2=>⟨φ2,s2,w1.fw s1 f2,w2,λv3 H3 f3 w3=>?_⟩⟩⟩
 exact q v3 H3 φ2 ((f1.trans f2).trans (Fw.same f3)) (s2.same f3) w3
theorem aJ {op:Operator}{g:Sto->W->W->Option D} (ho:OpD K X (binaryOp op) g) (ha:IE K X a fa) (hb:IE K X b fb):IE K X (.BinOp a op b pos) (iOp g fa fb):=by
 refine⟨λenv st r hr=>?_⟩
 simp only [iOp,Option.bind_eq_some_iff,Option.map_eq_some_iff] at hr
 obtain⟨x,hx,y,hy,d,hd,rfl⟩:=hr
 exact (AW (ho.run _ _ _ _ hd) (ha.run _ _ _ hx) (hb.run _ _ _ hy)).imp λσ H Q h=>om h
theorem fU {op:CmpOp}{g:Sto->W->W->Option D} (ho:OpD K X (compareOp op) g) (ha:IE K X a fa) (hb:IE K X b fb) (hm:behindInMarks op b=false):IE K X (.Compare a [op] [b] pos) (iOp g fa fb):=by
 refine⟨λenv st r hr=>?_⟩
 simp only [iOp,Option.bind_eq_some_iff,Option.map_eq_some_iff] at hr
 obtain⟨x,hx,y,hy,d,hd,rfl⟩:=hr
 exact (xf (ho.run _ _ _ _ hd) (ha.run _ _ _ hx) (hb.run _ _ _ hy) hm).imp λσ H Q h=>om h
theorem nI {d:D}{k:Bool} (h:vK d=some k):d=.bl k:=by
 cases d<;>first | (cases h;done) | (injection h with h;subst h;rfl)
theorem qz {d:W}{k:Bool} (h:blW d=some k):d=.d (.bl k):=by
 cases d with
 | h n=>cases h
 | d x=>cases x<;>first | (cases h;done) | (injection h with h;subst h;rfl)
theorem b8 {op:CmpOp}{g:Sto->W->W->Option D} (ho:OpD K X (compareOp op) g) (ha:IE K X a fa) (hb:IE K X b fb) (hm:behindInMarks op b=false):IT K X (.Compare a [op] [b] pos) (di g fa fb):=by
 refine⟨λenv st r hr=>?_⟩
 simp only [di,Option.bind_eq_some_iff,Option.map_eq_some_iff] at hr
 obtain⟨x,hx,y,hy,d,hd,k,hk,rfl⟩:=hr
 cases nI hk
 refine (xt (ho.run _ _ _ _ hd) (ha.run _ _ _ hx) (hb.run _ _ _ hy) hm).imp λσ H Q h=>?_
 obtain⟨φ,hE,hS,q⟩:=h
 refine om ⟨φ,hE,hS,λv H1 φ1 f1 s1 w1=>⟨k,w1,q H1 φ1 f1 s1⟩⟩
theorem vd {op op':CmpOp}{g g':Sto->W->W->Option D} (ho:OpD K X (compareOp op) g) (ho':OpD K X (compareOp op') g') (ha:IE K X a fa) (hb:IE K X b fb) (hc:IE K X c fc)
  (hm:lastMarks [op,op'] [b,c]=false:=by with_unfolding_all rfl):IE K X (.Compare a [op,op'] [b,c] pos) (jM g g' fa fb fc):=by
 refine⟨λenv st r hr=>?_⟩
 simp only [jM,Option.bind_eq_some_iff] at hr
 obtain⟨x,hx,y,hy,d,hd,k,hk,hr⟩:=hr
 cases nI hk
 cases k with
 | false=>
  rw [if_neg Bool.false_ne_true] at hr
  cases hr
  refine (p6 (r':=λ_ _ _ _=>False) (ho.run _ _ _ _ hd) (λ_ _ _ _ _ _ _ _ _ _ _ _ q=>q.elim) (ha.run _ _ _ hx) (hb.run _ _ _ hy) je hm).imp ?_
  rintro σ H Q ⟨φ,hE,hS,q⟩
  refine⟨φ,hE,hS,λv H1 φ1 f1 s1 w1=>⟨φ1,hE.fw hS f1,s1,λu H2 φ2 f2 s2 w2=>⟨φ2,s2,w1.fw s1 f2,w2,λv3 H3 f3 w3=>⟨false,w3,?_⟩⟩⟩⟩
  rw [if_neg Bool.false_ne_true]
  exact q _ H3 φ2 ((f1.trans f2).trans (Fw.same f3)) (s2.same f3) rfl
 | true=>
  simp only [if_true,Option.bind_eq_some_iff,Option.map_eq_some_iff] at hr
  obtain⟨z,hz,d',hd',rfl⟩:=hr
  refine (p6 (ho.run _ _ _ _ hd) (ho'.run _ _ _ _ hd') (ha.run _ _ _ hx) (hb.run _ _ _ hy) (hc.run _ _ _ hz) hm).imp ?_
  rintro σ H Q ⟨φ,hE,hS,q⟩
  refine⟨φ,hE,hS,λv H1 φ1 f1 s1 w1=>⟨φ1,hE.fw hS f1,s1,λu H2 φ2 f2 s2 w2=>⟨φ2,s2,w1.fw s1 f2,w2,λv3 H3 f3 w3=>⟨true,w3,?_⟩⟩⟩⟩
  rw [if_pos rfl]
  have f13:=(f1.trans f2).trans (Fw.same (φ:=φ2) f3)
  refine⟨φ2,hE.fw hS f13,s2.same f3,λu4 H4 φ4 f4 s4 w4=>⟨φ4,s4,(w2.fw s2 (Fw.same f3)).fw (s2.same f3) f4,w4,λv5 H5 f5 w5=>?_⟩⟩
  exact q v5 H5 φ4 (f13.trans (f4.trans (Fw.same f5))) (s4.same f5) w5
noncomputable def mk:W->Option D
 | .d (.int i)=>some (.int (-i))
 | _=>none
theorem il (ha:IE K X a fa):IE K X (.UnaryOp .USub a pos) (iUn mk fa):=by
 refine⟨λenv st r hr=>?_⟩
 simp only [iUn,Option.bind_eq_some_iff,Option.map_eq_some_iff] at hr
 obtain⟨⟨x,s1⟩,hx,d,hd,rfl⟩:=hr
 cases x with
 | h n=>cases hd
 | d x=>
  cases x with
  | int i=>
   cases hd
   refine (Be As (ha.run _ _ _ hx)).imp ?_
   rintro σ H Q ⟨φ,hE,hS,q⟩
   exact⟨φ,hE,hS,λv H1 φ1 f1 s1 w1=>⟨i,w1,q _ H1 φ1 f1 s1 rfl⟩⟩
  | _=>cases hd
theorem zA (ha:IE K X a fa):IE K X (.UnaryOp .Not a pos) (wI fa):=by
 refine⟨λenv st r hr=>?_⟩
 simp only [wI,Option.bind_eq_some_iff,Option.map_eq_some_iff] at hr
 obtain⟨x,hx,k,hk,rfl⟩:=hr
 have e:=qz hk
 refine (zx (ha.run _ _ _ hx)).imp ?_
 rintro σ H Q ⟨φ,hE,hS,q⟩
 exact⟨φ,hE,hS,λv H1 φ1 f1 s1 w1=>⟨k,by rw [e] at w1;exact w1,q _ H1 φ1 f1 s1 rfl⟩⟩
theorem wg {op} (h:IE K X a fa):IE K X (.BoolOp op [a] pos) fa:=⟨λenv st r hr=>zU (h.run env st r hr)⟩
theorem u9 {rest:List Expr} (ha:IE K X a fa) (hb:IE K X (.BoolOp .And (b::rest) pos) fb):IE K X (.BoolOp .And (a::b::rest) pos) (nC fa fb):=by
 refine⟨λenv st r hr=>?_⟩
 simp only [nC,Option.bind_eq_some_iff] at hr
 obtain⟨x,hx,k,hk,hr⟩:=hr
 have e:=qz hk
 cases k with
 | false=>
  rw [if_neg Bool.false_ne_true] at hr
  cases hr
  refine (vQ (ha.run _ _ _ hx) je).imp ?_
  rintro σ H Q ⟨φ,hE,hS,q⟩
  refine⟨φ,hE,hS,λv H1 φ1 f1 s1 w1=>⟨false,by rw [e] at w1;exact w1,?_⟩⟩
  rw [if_neg Bool.false_ne_true]
  exact q _ H1 φ1 f1 s1 rfl
 | true=>
  rw [if_pos rfl] at hr
  refine (vQ (ha.run _ _ _ hx) (hb.run _ _ _ hr)).imp ?_
  rintro σ H Q ⟨φ,hE,hS,q⟩
  refine⟨φ,hE,hS,λv H1 φ1 f1 s1 w1=>⟨true,by rw [e] at w1;exact w1,?_⟩⟩
  rw [if_pos rfl]
  exact⟨φ1,hE.fw hS f1,s1,λu H2 φ2 f2 s2 w2=>q u H2 φ2 (f1.trans f2) s2 w2⟩
variable {ta tb:Tf}
theorem fq (ha:IT K X a ta):IT K X (.UnaryOp .Not a pos) (e8 ta):=by
 refine⟨λenv st r hr=>?_⟩
 simp only [e8,Option.map_eq_some_iff] at hr
 obtain⟨x,hx,rfl⟩:=hr
 refine (Ai (ha.run _ _ _ hx)).imp ?_
 rintro σ H Q ⟨φ,hE,hS,q⟩
 exact⟨φ,hE,hS,λH1 φ1 f1 s1=>q H1 φ1 f1 s1⟩
theorem jH (h:ITW K X a ta):IT K X a ta:=⟨λenv st r hr=>(h.run env st r hr).pt⟩
theorem iz (h:IT K X a ta):ITW K X (.BoolOp .Or [a] pos) ta:=⟨λenv st r hr=>z7 (h.run env st r hr)⟩
theorem hX {rest:List Expr} (ha:IT K X a ta) (hb:ITW K X (.BoolOp .Or (b::rest) pos) tb):ITW K X (.BoolOp .Or (a::b::rest) pos) (kN ta tb):=by
 refine⟨λenv st r hr=>?_⟩
 simp only [kN,Option.bind_eq_some_iff] at hr
 obtain⟨⟨k,s1⟩,hx,hr⟩:=hr
 cases k with
 | true=>
  rw [if_pos rfl] at hr
  cases hr
  refine (yC (ha.run _ _ _ hx) wk).imp ?_
  rintro σ H Q ⟨φ,hE,hS,q⟩
  refine⟨φ,hE,hS,λH1 φ1 f1 s1=>?_⟩
  refine vg ?_
  exact q H1 φ1 f1 s1
 | false=>
  rw [if_neg Bool.false_ne_true] at hr
  refine (yC (ha.run _ _ _ hx) (hb.run _ _ _ hr)).imp ?_
  rintro σ H Q ⟨φ,hE,hS,q⟩
  refine⟨φ,hE,hS,λH1 φ1 f1 s1=>?_⟩
  refine vh ?_
  exact⟨φ1,hE.fw hS f1,s1,λH2 φ2 f2 s2=>q H2 φ2 (f1.trans f2) s2⟩
theorem vj {tc:Tf} (hc:IT K X c tc) (ha:IE K X a fa) (hb:IE K X b fb):IE K X (.IfExp c a b pos) (oN tc fa fb):=by
 refine⟨λenv st r hr=>?_⟩
 simp only [oN,Option.bind_eq_some_iff] at hr
 obtain⟨⟨k,s1⟩,hx,hr⟩:=hr
 cases k with
 | true=>
  rw [if_pos rfl] at hr
  refine (qj (hc.run _ _ _ hx) (ha.run _ _ _ hr) je).imp ?_
  rintro σ H Q ⟨φ,hE,hS,q⟩
  refine⟨φ,hE,hS,λH1 φ1 f1 s1=>?_⟩
  refine vg ?_
  exact⟨φ1,hE.fw hS f1,s1,λu H2 φ2 f2 s2 w2=>q u H2 φ2 (f1.trans f2) s2 w2⟩
 | false=>
  rw [if_neg Bool.false_ne_true] at hr
  refine (qj (hc.run _ _ _ hx) je (hb.run _ _ _ hr)).imp ?_
  rintro σ H Q ⟨φ,hE,hS,q⟩
  refine⟨φ,hE,hS,λH1 φ1 f1 s1=>?_⟩
  refine vh ?_
  exact⟨φ1,hE.fw hS f1,s1,λu H2 φ2 f2 s2 w2=>q u H2 φ2 (f1.trans f2) s2 w2⟩
noncomputable def gz (st:Sto):W->Option (List D)
 | .d (.tup ds)=>some ds
 | .d (.lst ds)=>some ds
 | .d (.scr ns)=>some (ns.map D.int)
 | .h n=>lg st n
 | _=>none
theorem qg {st:Sto}{H:Hp}{φ:List Addr}{w:W}{v:V}{ds:List D} (S:Sr K H φ st) (r:Rw K H φ w v) (e:gz st w=some ds):∃ a vs,v=.ref a/\(SqL K H a vs\/H a=some (.tup vs))/\Rls K H φ ds vs:=by
 cases w with
 | h n=>
  obtain⟨a,ea,rfl⟩:=r
  obtain⟨vs,q,rl⟩:=S.atl n a ds ea e
  exact⟨a,vs,rfl,.inl (SqL.of q),rl⟩
 | d x=>
  cases x with
  | tup es=>cases e;obtain⟨a,vs,rfl,h1,h2⟩:=r;exact⟨a,vs,rfl,.inr h1,h2⟩
  | lst es=>cases e;obtain⟨a,vs,rfl,h0,h1,h2⟩:=r;exact⟨a,vs,rfl,.inl (.inl h1),h2⟩
  | scr ns=>
   cases e
   obtain⟨a,rfl,h⟩:=r
   refine⟨a,_,rfl,.inl ?_,Rls.of_ints ns⟩
   rcases h with⟨o,h⟩ | h
   ·exact .inl (.inr ⟨o,h⟩)
   ·exact .inr h
  | _=>cases e
theorem kP {st:Sto}{H:Hp}{φ:List Addr}{w:W}{v:V}{ds:List D} (S:Sr K H φ st) (r:Rw K H φ w v) (e:gz st w=some ds):∃ a vs,v=.ref a/\(SqL K H a vs\/SqT K H a vs)/\Rls K H φ ds vs:=by
 obtain⟨a,vs,h0,h1,h2⟩:=qg S r e
 exact⟨a,vs,h0,h1.imp id SqT.of,h2⟩
noncomputable def jc (st:Sto):W->Option Bool
 | .d .non=>some false
 | .d (.bl b)=>some b
 | .d (.int i)=>some (i != 0)
 | w=>(gz st w).map λds=>!ds.isEmpty
theorem xA {st:Sto}{H:Hp}{φ:List Addr}{w:W}{v:V}{k:Bool} (S:Sr K H φ st) (r:Rw K H φ w v) (e:jc st w=some k):x9 K v H k:=by
 have seq:∀ ds,gz st w=some ds->k=!ds.isEmpty->x9 K v H k:=λds h hk=>by
  obtain⟨a,vs,rfl,h1,h2⟩:=kP S r h
  have hl:=h2.length
  have e':k=!vs.isEmpty:=by
   rw [hk]
   cases ds<;>cases vs<;>first | rfl | cases hl
  rcases h1 with h1 | h1
  ·exact .inl ⟨vs,h1,e'⟩
  ·exact .inr (.inl ⟨vs,h1,e'⟩)
 cases w with
 | h n=>
  obtain⟨ds,h1,h2⟩:=Option.map_eq_some_iff.mp e
  exact seq ds h1 h2.symm
 | d x=>
  cases x with
  | non=>have r':v=.non:=r;subst r';cases e;exact rfl
  | bl b=>have r':v=.bl b:=r;subst r';cases e;exact rfl
  | int i=>have r':v=.int i:=r;subst r';cases e;exact rfl
  | tup ds=>exact seq ds rfl (Option.some.inj e).symm
  | lst ds=>exact seq ds rfl (Option.some.inj e).symm
  | scr ds=>exact seq _ rfl (Option.some.inj e).symm
  | _=>cases e
theorem ft (ha:IE K X a fa) (he:vz a=true:=by rfl) (hK:X.K=K:=by rfl):IT K X a (iZ jc fa):=by
 subst hK
 refine⟨λenv st r hr=>?_⟩
 simp only [iZ,Option.bind_eq_some_iff,Option.map_eq_some_iff] at hr
 obtain⟨x,hx,k,hk,rfl⟩:=hr
 refine (vU (ha.run _ _ _ hx) (uo he)).imp ?_
 rintro σ H Q ⟨φ,hE,hS,q⟩
 exact⟨φ,hE,hS,λv H1 φ1 f1 s1 w1=>⟨k,xA s1 w1 hk,q H1 φ1 f1 s1⟩⟩
variable {af:Af}
theorem ag:IA K X [] aj:=by
 refine⟨λenv st r hr=>?_⟩
 cases hr
 refine Ab.imp ?_
 rintro σ H Q ⟨φ,hE,hS,q⟩
 exact q [] H φ (Fw.refl φ H) hS rfl
theorem aa (ha:IE K X e fa) (hr:IA K X es af) (hs:aR e=true:=by rfl):IA K X (e::es) (ae fa af):=by
 refine⟨λenv st r h=>?_⟩
 simp only [ae,Option.bind_eq_some_iff,Option.map_eq_some_iff] at h
 obtain⟨x,hx,y,hy,rfl⟩:=h
 refine (wT (ha.run _ _ _ hx) (hr.run _ _ _ hy) (ce hs)).imp ?_
 rintro σ H Q ⟨φ,hE,hS,q⟩
 refine⟨φ,hE,hS,λv H1 φ1 f1 s1 w1=>⟨φ1,hE.fw hS f1,s1,λu H2 φ2 f2 s2 w2=>?_⟩⟩
 exact q _ H2 φ2 (f1.trans f2) s2 ⟨v,u,rfl,w1.fw s1 f2,w2⟩
theorem cj {x:Str}{id:String}{p:Pos}{g:Sto->List W->Option D} (hc:iK K X (.builtin id) g) (hg:Gl X x) (hm:X.mg x=none) (hv:bootBuiltins x=some (.builtin id)) (ha:IA K X (e::es) af)
  (hn:x≠"__name__":=by decide) (hdb:(x==("__debug__" : Str))=false:=by decide) (hs:aR e=true:=by rfl) (hp:es.all aR=true:=by rfl) :
  IE K X (.Call (.Name x p) (e::es) [] pos) (iCB g af):=by
 refine⟨λenv st r hr=>?_⟩
 simp only [iCB,Option.bind_eq_some_iff,Option.map_eq_some_iff] at hr
 obtain⟨y,hy,d,hd,rfl⟩:=hr
 refine (lM (hc.run _ _ _ hd) hg hm hv (ha.run _ _ _ hy) hn hdb (ce hs) (dF hp)).imp ?_
 rintro σ H Q ⟨φ,hE,hS,q⟩
 exact⟨φ,hE,hS,λv H1 φ1 f1 s1 w1=>⟨φ1,s1,w1,λu H2 f2 w2=>q u H2 φ1 (f1.trans (Fw.same f2)) (s1.same f2) w2⟩⟩
theorem eP {x:Str}{T:String}{p:Pos}{g:Sto->List W->Option D} (hc:iK K X (.type T) g) (hg:Gl X x) (hm:X.mg x=none) (hv:bootBuiltins x=some (.type T)) (ha:IA K X (e::es) af)
  (hn:x≠"__name__":=by decide) (hdb:(x==("__debug__" : Str))=false:=by decide) (hs:aR e=true:=by rfl) (hp:es.all aR=true:=by rfl) :
  IE K X (.Call (.Name x p) (e::es) [] pos) (iCB g af):=by
 refine⟨λenv st r hr=>?_⟩
 simp only [iCB,Option.bind_eq_some_iff,Option.map_eq_some_iff] at hr
 obtain⟨y,hy,d,hd,rfl⟩:=hr
 refine (n5 (hc.run _ _ _ hd) hg hm hv (ha.run _ _ _ hy) hn hdb (ce hs) (dF hp)).imp ?_
 rintro σ H Q ⟨φ,hE,hS,q⟩
 exact⟨φ,hE,hS,λv H1 φ1 f1 s1 w1=>⟨φ1,s1,w1,λu H2 f2 w2=>q u H2 φ1 (f1.trans (Fw.same f2)) (s1.same f2) w2⟩⟩
theorem yz {x:Str}{id:String}{p:Pos}{g:Sto->List W->Option (List D)} (hc:yx K X (.builtin id) g) (hg:Gl X x) (hm:X.mg x=none) (hv:bootBuiltins x=some (.builtin id)) (ha:IA K X (e::es) af)
  (hn:x≠"__name__":=by decide) (hdb:(x==("__debug__" : Str))=false:=by decide) (hs:aR e=true:=by rfl) (hp:es.all aR=true:=by rfl) :
  IL K X (.Call (.Name x p) (e::es) [] pos) (iCL g af):=by
 refine⟨λenv st r hr=>?_⟩
 simp only [iCL,Option.bind_eq_some_iff,Option.map_eq_some_iff] at hr
 obtain⟨y,hy,d,hd,rfl⟩:=hr
 refine (lM (hc.run _ _ _ hd) hg hm hv (ha.run _ _ _ hy) hn hdb (ce hs) (dF hp)).imp ?_
 rintro σ H Q ⟨φ,hE,hS,q⟩
 exact⟨φ,hE,hS,λv H1 φ1 f1 s1 w1=>⟨φ1,s1,w1,λa us H2 f2 n2 w2=>q a us H2 φ1 (f1.trans (Fw.same f2)) (s1.same f2) n2 w2⟩⟩
theorem lK {H:Hp}{φ:List Addr}:∀ {ws:List W}{vs:List V}{ds:List D},oX ws=some ds->Rws K H φ ws vs->Rls K H φ ds vs
 | [],_,_,e,h=>by cases e;exact h
 | .d x::ws,_,_,e,h=>by
  obtain⟨v,r,rfl,h1,h2⟩:=h
  obtain⟨es,e1,rfl⟩:=Option.map_eq_some_iff.mp e
  exact⟨v,r,rfl,h1,lK e1 h2⟩
 | .h n::ws,_,_,e,h=>by cases e
theorem bP {x1} (h:IA K X es af):IE K X (.Tuple es x1 pos) (bm af):=by
 refine⟨λenv st r hr=>?_⟩
 simp only [bm,Option.bind_eq_some_iff] at hr
 obtain⟨y,hy,ds,hd,hr⟩:=hr
 split at hr
 ·cases hr
  rename_i hl
  refine (yQ (h.run _ _ _ hy)).imp ?_
  rintro σ H Q ⟨φ,hE,hS,q⟩
  refine⟨φ,hE,hS,λvs H1 φ1 f1 s1 w1=>?_⟩
  have w:=lK hd w1
  refine⟨by rw [<-w.length];exact kX hl,λp hp=>?_⟩
  exact q _ _ φ1 (f1.trans (Fw.new hp)) (s1.new hp) ⟨p,vs,rfl,aX,w.fw s1 (Fw.new hp)⟩
 ·cases hr
theorem eA (h:IA K X es af):IL K X (.List es pos) (fz af):=by
 refine⟨λenv st r hr=>?_⟩
 simp only [fz,Option.bind_eq_some_iff] at hr
 obtain⟨y,hy,ds,hd,hr⟩:=hr
 split at hr
 ·cases hr
  rename_i hl
  refine (y3 (h.run _ _ _ hy)).imp ?_
  rintro σ H Q ⟨φ,hE,hS,q⟩
  refine⟨φ,hE,hS,λvs H1 φ1 f1 s1 w1=>?_⟩
  have w:=lK hd w1
  exact⟨by rw [<-w.length];exact kX hl,λp hp=>q p vs H1 φ1 f1 s1 hp w⟩
 ·cases hr
theorem aL {lf:Lf} (h:IL K X e lf):IE K X e (aV lf):=by
 refine⟨λenv st r hr=>?_⟩
 simp only [aV,Option.map_eq_some_iff] at hr
 obtain⟨y,hy,rfl⟩:=hr
 refine (h.run _ _ _ hy).imp ?_
 rintro σ H Q ⟨φ,hE,hS,q⟩
 refine⟨φ,hE,hS,λa vs H1 φ1 f1 s1 n1 w1=>?_⟩
 exact q _ _ φ1 (f1.trans (Fw.new n1)) (s1.new n1) ⟨a,vs,rfl,s1.nin n1,.inl aX,w1.fw s1 (Fw.new n1)⟩
theorem Sr.moreC {H:Hp}{φ:List Addr}{st:Sto}{a:Addr}{o:HO}{c:C} (S:Sr K H φ st) (n:H a=none) (w:Rc K (upd H a o) (φ++[a]) φ.length a c):Sr K (upd H a o) (φ++[a]) (st++[c]):=by
 have f:Fw φ (φ++[a]) H (upd H a o):=⟨⟨[a],rfl,λb hb=>by rw [List.mem_singleton.mp hb];exact n⟩,λb o _ h=>bK.new n _ b o h,λb o h=>⟨o,bK.new n _ b o h⟩⟩
 refine⟨?_,by rw [List.length_append,List.length_append,S.len];rfl,λi b es e1 e2=>?_⟩
 ·rw [List.nodup_append]
  refine⟨S.nd,by simp,λx hx y hy e=>?_⟩
  rw [List.mem_singleton.mp hy] at e
  rw [e] at hx
  exact S.nin n hx
 ·by_cases hi:i < φ.length
  ·rw [List.getElem?_append_left hi] at e1
   rw [List.getElem?_append_left (by rw [<-S.len];exact hi)] at e2
   exact (S.at_ i b es e1 e2).fw S f λo h=>bK.new n _ _ _ h
  ·have e:i=φ.length:=by
    have:=(List.getElem?_eq_some_iff.mp e1).1
    rw [List.length_append] at this
    simp at this
    lia
   subst e
   rw [List.getElem?_append_right (Nat.le_refl _)] at e1
   rw [S.len,List.getElem?_append_right (Nat.le_refl _)] at e2
   simp at e1 e2
   subst e1 e2
   exact w
theorem Fw.moreO {H:Hp}{φ:List Addr}{a:Addr}{o:HO} (n:H a=none):Fw φ (φ++[a]) H (upd H a o):=
 ⟨⟨[a],rfl,λb hb=>by rw [List.mem_singleton.mp hb];exact n⟩,λb o _ h=>bK.new n _ b o h,λb o h=>⟨o,bK.new n _ b o h⟩⟩
theorem Fw.more {H:Hp}{φ:List Addr}{a:Addr}{vs:List V} (n:H a=none):Fw φ (φ++[a]) H (upd H a (.lst vs)):=Fw.moreO n
theorem Sr.more {H:Hp}{φ:List Addr}{st:Sto}{a:Addr}{vs:List V}{ds:List D} (S:Sr K H φ st) (n:H a=none) (w:Rls K H φ ds vs):Sr K (upd H a (.lst vs)) (φ++[a]) (st++[.l ds]):=
 S.moreC n ⟨vs,aX,w.fw S (Fw.moreO n)⟩
theorem rV {lf:Lf} (h:IL K X e lf):IE K X e (oY lf):=by
 refine⟨λenv st r hr=>?_⟩
 simp only [oY,Option.map_eq_some_iff] at hr
 obtain⟨y,hy,rfl⟩:=hr
 refine (h.run _ _ _ hy).imp ?_
 rintro σ H Q ⟨φ,hE,hS,q⟩
 refine⟨φ,hE,hS,λa vs H1 φ1 f1 s1 n1 w1=>?_⟩
 exact q _ _ (φ1++[a]) (f1.trans (Fw.more n1)) (s1.more n1 w1) ⟨a,by rw [<-s1.len];simp,rfl⟩
noncomputable def spI (K:PySem.W.Frag) (m:Fn):Sp:=λvs H Q _=>∃ φ st ws r,m ws st=some r/\Rws K H φ ws vs/\Sr K H φ st/\∀ v H' φ',Fw φ φ' H H'->Sr K H' φ' r.2->Rw K H' φ' r.1 v->Q v H'
theorem av {x:Str}{k j:Nat}{ff:Addr}{fd:FuncData}{ps:List Str}{m:Fn}{p:Pos} (F:aU X.prog X.w X.K X.mg X.base CX0 j ff fd ps (spI K m)) (hjk:j<=k) (hr:bo k X.A) (hg:Gl X x) (hm:X.mg x=some (.ref ff)) (hk:PySem.W.keepIn X.K (.ref ff)=true) (hb:bC X.K fd ps [])
  (ha:IA K X (e::es) af) (hdb:(x==("__debug__" : Str))=false:=by decide) (hs:aR e=true:=by rfl) (hp:es.all aR=true:=by rfl) :
  IE K X (.Call (.Name x p) (e::es) [] pos) (aE m af):=by
 refine⟨λenv st r h=>?_⟩
 simp only [aE,Option.bind_eq_some_iff] at h
 obtain⟨y,hy,h⟩:=h
 refine (xi (F.mono hjk) hr hg hm hk hb .nil A2 (ha.run _ _ _ hy) hdb (ce hs) (dF hp)).imp ?_
 rintro σ H Q ⟨φ,hE,hS,q⟩
 refine⟨φ,hE,hS,λvs H1 φ1 f1 s1 w1=>?_⟩
 show spI K m (vs++[]) H1 Q E0
 rw [List.append_nil]
 exact⟨φ1,y.2,y.1,r,h,w1,s1,λv H2 φ2 f2 s2 w2=>q v H2 φ2 (f1.trans f2) s2 w2⟩
end
end L2
namespace L2
open PySem PySem.Spec PyProof.Rows
inductive Fl where
 | nx (env:Ev) (st:Sto) | rt (w:W) (st:Sto) | bk (env:Ev) (st:Sto) | ct (env:Ev) (st:Sto)
abbrev Sf:=Ev->Sto->Option Fl
noncomputable def vP (K:PySem.W.Frag) (φ:List Addr) (H:Hp) (D:pE):Fl->Prop
 | .nx e s=>∀ σ' H' φ',Fw φ φ' H H'->Er K H' φ' e σ'->Sr K H' φ' s->D.nx σ' H'
 | .rt w s=>∀ v H' φ',Fw φ φ' H H'->Sr K H' φ' s->Rw K H' φ' w v->D.rt v H'
 | .bk e s=>∀ σ' H' φ',Fw φ φ' H H'->Er K H' φ' e σ'->Sr K H' φ' s->D.bk σ' H'
 | .ct e s=>∀ σ' H' φ',Fw φ φ' H H'->Er K H' φ' e σ'->Sr K H' φ' s->D.ct σ' H'
theorem vP.fw {K:PySem.W.Frag}{φ φ1:List Addr}{H H1:Hp}{D:pE}{r:Fl} (h:vP K φ H D r) (f:Fw φ φ1 H H1):vP K φ1 H1 D r:=by
 cases r with
 | nx e s=>exact λσ' H' φ' f'=>h σ' H' φ' (f.trans f')
 | rt w s=>exact λv H' φ' f'=>h v H' φ' (f.trans f')
 | bk e s=>exact λσ' H' φ' f'=>h σ' H' φ' (f.trans f')
 | ct e s=>exact λσ' H' φ' f'=>h σ' H' φ' (f.trans f')
noncomputable def tS (K:PySem.W.Frag) (env:Ev) (st:Sto) (r:Fl):TS:=λD σ H=>∃ φ,Er K H φ env σ/\Sr K H φ st/\vP K φ H D r
structure IS (K:PySem.W.Frag) (X:Cx) (s:Stmt) (g:Sf):Prop where
 run:∀ env st r,g env st=some r->PS X s (tS K env st r)
structure ISs (K:PySem.W.Frag) (X:Cx) (s:List Stmt) (g:Sf):Prop where
 run:∀ env st r,g env st=some r->PSs X s (tS K env st r)
inductive Tg where
 | nm (i:Nat) | tp (is:List Nat)
noncomputable def w6:Tg->List Nat
 | .nm i=>[i]
 | .tp is=>is
noncomputable def lH:List Nat->List D->Ev->Ev
 | i::is,d::ds,env=>lH is ds (env.set i (some (.d d)))
 | _,_,env=>env
noncomputable def gg:Tg->W->Ev->Option Ev
 | .nm i,w,env=>some (env.set i (some w))
 | .tp is,.d (.tup ds),env=>if is.length=ds.length then some (lH is ds env) else none
 | .tp is,.d (.lst ds),env=>if is.length=ds.length then some (lH is ds env) else none
 | _,_,_=>none
noncomputable def xw (is:List Nat) (σ σ':St):Prop:=σ'.length=σ.length/\∀ j,j ∉ is->σ'[j]?=σ[j]?
noncomputable def tG (K:PySem.W.Frag) (g:Tg):TG:=λv σ H Q=>∃ φ st env w env',Er K H φ env σ/\Sr K H φ st/\Rw K H φ w v/\gg g w env=some env'/\∀ σ',Er K H φ env' σ'->xw (w6 g) σ σ'->Q σ' H
noncomputable def tGs (K:PySem.W.Frag) (is:List Nat):TGs:=λvs σ H Q=>∃ φ st env ds,Er K H φ env σ/\Sr K H φ st/\Rls K H φ ds vs/\is.length=ds.length/\∀ σ',Er K H φ (lH is ds env) σ'->xw is σ σ'->Q σ' H
noncomputable def dm:Sf
 | env,st=>some (.nx env st)
noncomputable def aA (a b:Sf):Sf
 | env,st=>(a env st).bind λr=>match r with
 | .nx e s=>b e s
 | r=>some r
noncomputable def bI (g:Tg) (f:Ef):Sf
 | env,st=>(f env st).bind λr=>(gg g r.1 env).map λe=>.nx e r.2
noncomputable def nW (st:Sto) (o i v:W):Option Sto:=match o,i,v with
 | .h n,.d (.int k),.d x=>(lg st n).bind λds=>(ixN ds.length k).map λj=>st.set n (.l (ds.set j x))
 | _,_,_=>none
noncomputable def jY (o i v:Ef):Sf
 | env,st=>(v env st).bind λrv=>(o env rv.2).bind λro=>(i env ro.2).bind λri=>(nW ri.2 ro.1 ri.1 rv.1).map λs=>.nx env s
noncomputable def bL (f:Ef):Sf
 | env,st=>(f env st).map λr=>.rt r.1 r.2
noncomputable def nS (f:Ef):Sf
 | env,st=>(f env st).map λr=>.nx env r.2
noncomputable def d5 (c:Tf) (a b:Sf):Sf
 | env,st=>(c env st).bind λr=>if r.1=true then a env r.2 else b env r.2
noncomputable def mI (g:Tg) (body:Sf):List D->Ev->Sto->Option Fl
 | [],env,st=>some (.nx env st)
 | d::ds,env,st=>(gg g (.d d) env).bind λe=>(body e st).bind λr=>match r with
  | .nx e s=>mI g body ds e s
  | .ct e s=>mI g body ds e s
  | .bk e s=>some (.nx e s)
  | .rt w s=>some (.rt w s)
noncomputable def gQ (fi:Lf) (g:Tg) (body:Sf):Sf
 | env,st=>(fi env st).bind λr=>mI g body r.1 env r.2
noncomputable def d9 (c:Tf) (body:Sf):Nat->Ev->Sto->Option Fl
 | 0,_,_=>none
 | n+1,env,st=>(c env st).bind λk=>if k.1=true then (body env k.2).bind λr=>match r with
   | .nx e s=>d9 c body n e s
   | .ct e s=>d9 c body n e s
   | .bk e s=>some (.nx e s)
   | .rt w s=>some (.rt w s)
  else some (.nx env k.2)
noncomputable def lcI (g:Tg) (tt:Tf) (te:Ef) (env:Ev):List D->Sto->Option (List D×Sto)
 | [],st=>some ([],st)
 | d::ds,st=>(gg g (.d d) env).bind λe=>(tt e st).bind λb=>if b.1=true then (te e b.2).bind λx=>(oX [x.1]).bind λys=>(lcI g tt te env ds x.2).map λr=>(ys++r.1,r.2)
   else lcI g tt te env ds b.2
noncomputable def lN (k:Nat) (js:List Nat) (env:Ev):Ev:=List.replicate k none++js.map λj=>env.getD j none
noncomputable def iLc (k:Nat) (js:List Nat) (fi:Lf) (g:Tg) (tt:Tf) (te:Ef):Lf
 | env,st=>(fi env st).bind λr=>if r.1.length<=1000000 then lcI g tt te (lN k js env) r.1 r.2 else none
noncomputable def bN:Tf
 | _,st=>some (true,st)
noncomputable def ba (f:Ef):Lf
 | env,st=>(f env st).bind λr=>match r.1 with
 | .d (.tup ds)=>some (ds,r.2)
 | .d (.lst ds)=>some (ds,r.2)
 | _=>none
noncomputable def cx (lo:Int) (n:Nat):List D:=(List.range n).map λk:Nat=>D.int (lo+k)
noncomputable def cC (a:Af):Lf
 | env,st=>(a env st).bind λr=>match r.1 with
 | [.d (.int j)]=>if -(2 ^ 62)<=j/\j < 2 ^ 62 then some (cx 0 j.toNat,r.2) else none
 | _=>none
noncomputable def bX:Nat->List D->List D
 | _,[]=>[]
 | k,d::ds=>.tup [.int k,d]::bX (k+1) ds
noncomputable def gD (a:Af):Lf
 | env,st=>(a env st).bind λr=>match r.1 with
 | [.d (.tup ds)]=>some (bX 0 ds,r.2)
 | [.d (.lst ds)]=>some (bX 0 ds,r.2)
 | _=>none
section
variable {K:PySem.W.Frag}{X:Cx}{pos:Pos}
theorem PS.imp {s:Stmt}{t t':TS} (h:PS X s t) (m:∀ D σ H,t' D σ H->t D σ H):PS X s t':=λpins s σ H D I q=>h pins s σ H D I (m D σ H q)
theorem PSs.imp {s:List Stmt}{t t':TS} (h:PSs X s t) (m:∀ D σ H,t' D σ H->t D σ H):PSs X s t':=λpins s σ H D I q=>h pins s σ H D I (m D σ H q)
theorem Er.set {H:Hp}{φ:List Addr}{env:Ev}{σ:St} (h:Er K H φ env σ) (i:Nat) {w:W}{v:V} (r:Rw K H φ w v):Er K H φ (env.set i (some w)) (σ.set i (some v)):=by
 refine⟨by rw [List.length_set,List.length_set,h.len],λj w' e=>?_⟩
 by_cases hj:i=j
 ·subst hj
  have hi:i < env.length:=by
   have:=(List.getElem?_eq_some_iff.mp e).1
   rwa [List.length_set] at this
  rw [List.getElem?_set_self hi] at e
  cases e
  exact⟨v,by rw [List.getElem?_set_self (by rw [<-h.len];exact hi)],r⟩
 ·rw [List.getElem?_set_ne hj] at e
  obtain⟨v',e1,r1⟩:=h.at_ j w' e
  exact⟨v',by rw [List.getElem?_set_ne hj];exact e1,r1⟩
theorem vi (i:Nat) (σ:St) (v:Option V):xw [i] σ (σ.set i v):=⟨by rw [List.length_set],λj hj=>by rw [List.getElem?_set_ne (by rintro rfl;simp at hj)]⟩
theorem bt {i:Nat}{x:Str} (h:PG X (.Name x pos) (qh i)):PG X (.Name x pos) (tG K (.nm i)):=by
 intro pins s σ H v u Q I rv q
 obtain⟨φ,st,env,w,env',hE,hS,r,e,q⟩:=q
 cases e
 exact h pins s σ H v u Q I rv (q _ (hE.set i r) (vi i σ _))
theorem cX:PGs X [] (tGs K []):=by
 intro pins s σ H vs us Q I rv q
 obtain⟨φ,st,env,ds,hE,hS,r,e,q⟩:=q
 cases ds with
 | nil=>cases r;exact xW pins s σ H [] us Q I rv ⟨rfl,q σ hE ⟨rfl,λ_ _=>rfl⟩⟩
 | cons _ _=>cases e
theorem aY {i:Nat}{is:List Nat}{x:Str}{es:List Expr} (h1:PG X (.Name x pos) (qh i)) (h2:PGs X es (tGs K is)):PGs X (.Name x pos::es) (tGs K (i::is)):=by
 intro pins s σ H vs us Q I rv q
 obtain⟨φ,st,env,ds,hE,hS,r,e,q⟩:=q
 cases ds with
 | nil=>cases e
 | cons d ds=>
  obtain⟨v,vr,rfl,r1,r2⟩:=r
  refine wa h1 h2 (sr rfl) pins s σ H _ us Q I rv ⟨v,vr,rfl,φ,st,_,ds,hE.set i (w:=.d d) r1,hS,r2,by simpa using e,λσ' e' s'=>q σ' e' ?_⟩
  refine⟨by rw [s'.1,List.length_set],λj hj=>?_⟩
  rw [s'.2 j (λz=>hj (List.mem_cons_of_mem _ z)),List.getElem?_set_ne (by rintro rfl;exact hj List.mem_cons_self)]
noncomputable def BS (K:PySem.W.Frag) (n:Nat) (t:TGs):TG:=λv σ H Q=>∃ a xs,v=.ref a/\SqL K H a xs/\xs.length=n/\t xs σ H Q
theorem zF {es:List Expr}{k:Nat}{t:TGs}{n:Nat} (hc:X.calm=true) (h:PGs X es t) (hn:(assignEach es X.env).length=n) (hst:(assignEach es X.env).findIdx? (·.1)=none):PG X (.Tuple es k pos) (BS X.K n t):=by
 intro pins s σ H v u Q I r hw
 obtain⟨a,xs,e1,hq,hl,hw⟩:=hw
 subst e1
 cases r
 obtain⟨its,rv,p,hz⟩:=I.list hq
 rw [assign_Tuple]
 refine wpAny_bind (wpAny_standAt ?_)
 unfold unpack
 rw [show (assignEach es X.env).length=its.toArray.size by simp [hn,<-hl,rv.length],hst]
 refine wpAny_bind (wpAny_holding (PySem.W.kun_itemsOf (I.ok.hd hc) p.isList λh' hx=>?_))
 have I1:Inv X pins σ H { s with heap:=h' }:=I.kept (t':=s.toks) λb o e=>hx b o (Nat.ne_of_lt (Heap.lt_size e)) e
 exact h pins _ σ H xs _ Q I1 (by simpa using rv) hw
theorem dU {es:List Expr}{k n:Nat}{is:List Nat} (h:PGs X es (tGs K is)) (hes:es.all aR=true:=by rfl) (hn:es.length=n:=by rfl) (hi:is.length=n:=by rfl) (hc:X.calm=true:=by rfl) (hK:X.K=K:=by rfl):PG X (.Tuple es k pos) (tG K (.tp is)):=by
 subst hK
 intro pins s σ H v u Q I rv q
 obtain⟨φ,st,env,w,env',hE,hS,r,e,q⟩:=q
 cases w with
 | h n=>cases e
 | d x=>
  cases x with
  | tup ds=>
   have e':(if is.length=ds.length then some (lH is ds env) else none)=some env':=e
   by_cases hl:is.length=ds.length
   ·rw [if_pos hl] at e'
    cases e'
    obtain⟨a,vs,rfl,hq,hr⟩:=r
    exact zB hc h ((oW hes).trans hn) (mJ hes) pins s σ H _ u Q I rv ⟨a,vs,rfl,(SqT.of hq),by rw [<-hr.length,<-hl,hi],φ,st,env,ds,hE,hS,hr,hl,q⟩
   ·rw [if_neg hl] at e'
    cases e'
  | lst ds=>
   have e':(if is.length=ds.length then some (lH is ds env) else none)=some env':=e
   by_cases hl:is.length=ds.length
   ·rw [if_pos hl] at e'
    cases e'
    obtain⟨a,vs,rfl,_,hq,hr⟩:=r
    exact zF hc h ((oW hes).trans hn) (mJ hes) pins s σ H _ u Q I rv ⟨a,vs,rfl,.inl hq,by rw [<-hr.length,<-hl,hi],φ,st,env,ds,hE,hS,hr,hl,q⟩
   ·rw [if_neg hl] at e'
    cases e'
  | _=>cases e
variable {s:Stmt}{ss rest:List Stmt}{e a b c:Expr}{ga gb:Sf}{f fa fb fc:Ef}
theorem b7:ISs K X [] dm:=by
 refine⟨λenv st r hr=>?_⟩
 cases hr
 exact xp.imp λD σ H ⟨φ,hE,hS,q⟩=>q σ H φ (Fw.refl φ H) hE hS
theorem aq (h:IS K X s ga):ISs K X [s] ga:=⟨λenv st r hr=>wV (h.run env st r hr)⟩
theorem ao (h1:IS K X s ga) (h2:ISs K X rest gb):ISs K X (s::rest) (aA ga gb):=by
 refine⟨λenv st r hr=>?_⟩
 simp only [aA,Option.bind_eq_some_iff] at hr
 obtain⟨r1,e1,hr⟩:=hr
 cases r1 with
 | nx e s1=>
  refine (jD (h1.run _ _ _ e1) (h2.run _ _ _ hr)).imp ?_
  rintro D σ H ⟨φ,hE,hS,q⟩
  exact⟨φ,hE,hS,λσ' H' φ' f' e' s'=>⟨φ',e',s',q.fw f'⟩⟩
 | rt w s1=>
  cases hr
  exact (jD (h1.run _ _ _ e1) gc).imp λD σ H ⟨φ,hE,hS,q⟩=>⟨φ,hE,hS,q⟩
 | bk w s1=>
  cases hr
  exact (jD (h1.run _ _ _ e1) gc).imp λD σ H ⟨φ,hE,hS,q⟩=>⟨φ,hE,hS,q⟩
 | ct w s1=>
  cases hr
  exact (jD (h1.run _ _ _ e1) gc).imp λD σ H ⟨φ,hE,hS,q⟩=>⟨φ,hE,hS,q⟩
theorem aS {i:Nat}{x:Str}{pos':Pos} (hN:X.N.Nodup) (hi:X.N[i]?=some x) (hx:Loc X.env.scope x) (he:IE K X e f) (hs:swapsWith e (some (.Name x pos')) pos.line X.env=pure false:=by rfl) (hf:X.fn x=true\/X.env.scope.names.lookup x=some .local:=by first | exact .inl rfl | exact .inr rfl | assumption) :
  IS K X (.Assign [.Name x pos'] e pos) (bI (.nm i) f):=by
 refine⟨λenv st r hr=>?_⟩
 simp only [bI,gg,Option.bind_eq_some_iff,Option.map_eq_some_iff] at hr
 obtain⟨y,hy,e',ee,rfl⟩:=hr
 cases ee
 refine (zP hN hi hx (he.run _ _ _ hy) hs hf).imp ?_
 rintro D σ H ⟨φ,hE,hS,q⟩
 exact⟨φ,hE,hS,λv H1 φ1 f1 s1 w1=>q _ H1 φ1 f1 ((hE.fw hS f1).set i w1) s1⟩
theorem z8 {tg:Expr}{g:Tg} (he:IE K X e f) (hg:PG X tg (tG K g)) (hs:swapsWithSole [tg] e pos.line X.env=pure false:=by rfl) (hw:swappedStores [tg] e X.env=pure none:=by rfl)
  (h1:aR tg=true:=by rfl):IS K X (.Assign [tg] e pos) (bI g f):=by
 refine⟨λenv st r hr=>?_⟩
 simp only [bI,Option.bind_eq_some_iff,Option.map_eq_some_iff] at hr
 obtain⟨y,hy,e',ee,rfl⟩:=hr
 refine (we (he.run _ _ _ hy) hg hs hw (sW h1)).imp ?_
 rintro D σ H ⟨φ,hE,hS,q⟩
 exact⟨φ,hE,hS,λv H1 φ1 f1 s1 w1=>⟨φ1,y.2,env,y.1,e',hE.fw hS f1,s1,w1,ee,λσ' e'' _=>q σ' H1 φ1 f1 e'' s1⟩⟩
theorem Sr.putC {H:Hp}{φ:List Addr}{st:Sto}{n:Nat}{a:Addr}{o:HO}{c:C} (S:Sr K H φ st) (hn:φ[n]?=some a) (w:Fw φ φ H (upd H a o)->Rc K (upd H a o) φ n a c) :
  Fw φ φ H (upd H a o)/\Sr K (upd H a o) φ (st.set n c):=by
 have ha:a ∈ φ:=List.mem_of_getElem? hn
 have f:Fw φ φ H (upd H a o):=⟨⟨[],by simp,by simp⟩,λb o hb h=>by rw [aD (λz=>hb (by rw [z];exact ha))];exact h,λb o h=>by
  by_cases z:b=a
  ·subst z;exact⟨_,aX⟩
  ·exact⟨o,by rw [aD z];exact h⟩⟩
 refine⟨f,S.nd,by rw [List.length_set];exact S.len,λm b es e1 e2=>?_⟩
 by_cases hm:n=m
 ·subst hm
  rw [e1] at hn;cases hn
  have hl:n < st.length:=by rw [<-S.len];exact (List.getElem?_eq_some_iff.mp e1).1
  rw [List.getElem?_set_self hl] at e2
  cases e2
  exact w f
 ·rw [List.getElem?_set_ne hm] at e2
  have q:=S.at_ m b es e1 e2
  have hne:b≠a:=by
   rintro rfl
   obtain⟨h1,h1'⟩:=List.getElem?_eq_some_iff.mp hn
   obtain⟨h2,h2'⟩:=List.getElem?_eq_some_iff.mp e1
   exact hm ((List.getElem_inj S.nd).mp (h1'.trans h2'.symm))
  exact q.fw S f λo h=>by rw [aD hne];exact h
theorem Sr.put {H:Hp}{φ:List Addr}{st:Sto}{n:Nat}{a:Addr}{vs:List V}{ds:List D} (S:Sr K H φ st) (hn:φ[n]?=some a) (w:Rls K H φ ds vs) :
  Fw φ φ H (upd H a (.lst vs))/\Sr K (upd H a (.lst vs)) φ (st.set n (.l ds)):=S.putC hn λf=>⟨vs,aX,w.fw S f⟩
theorem rf {st s':Sto}{o i v:W} (h:nW st o i v=some s'):∃ n k x ds j,o=.h n/\i=.d (.int k)/\v=.d x/\lg st n=some ds/\ixN ds.length k=some j/\s'=st.set n (.l (ds.set j x)):=by
 unfold nW at h
 split at h
 ·obtain⟨ds,e1,h⟩:=Option.bind_eq_some_iff.mp h
  obtain⟨j,e2,h⟩:=Option.map_eq_some_iff.mp h
  exact⟨_,_,_,ds,j,rfl,rfl,rfl,e1,e2,h.symm⟩
 ·cases h
theorem pR {tpos:Pos} (ho:IE K X a fa) (hi:IE K X b fb) (hv:IE K X e f) (hb:pi b=true:=by rfl) (hs:swapsWithSole [.Subscript a b tpos] e pos.line X.env=pure false:=by rfl) (hw:swappedStores [.Subscript a b tpos] e X.env=pure none:=by rfl) :
  IS K X (.Assign [.Subscript a b tpos] e pos) (jY fa fb f):=by
 refine⟨λenv st r hr=>?_⟩
 simp only [jY,Option.bind_eq_some_iff,Option.map_eq_some_iff] at hr
 obtain⟨rv,ev,ro,eo,ri,ei,s',es,rfl⟩:=hr
 refine (we (hv.run _ _ _ ev) (yU (ho.run _ _ _ eo) (hi.run _ _ _ ei) vk (xh hb)) hs hw (sW rfl)).imp ?_
 rintro D σ H ⟨φ,hE,hS,q⟩
 refine⟨φ,hE,hS,λv H1 φ1 f1 s1 w1=>⟨φ1,hE.fw hS f1,s1,λo H2 φ2 f2 s2 w2=>⟨φ2,(hE.fw hS f1).fw s1 f2,s2,λi H3 φ3 f3 s3 w3=>?_⟩⟩⟩
 have e3:=((hE.fw hS f1).fw s1 f2).fw s2 f3
 have w1':=(w1.fw s1 f2).fw s2 f3
 have w2':=w2.fw s2 f3
 obtain⟨ro1,ro2⟩:=ro
 obtain⟨rv1,rv2⟩:=rv
 obtain⟨ri1,ri2⟩:=ri
 obtain⟨n,k,x,ds,j,rfl,rfl,rfl,eds,ej,rfl⟩:=rf es
 obtain⟨p,ep,rfl⟩:=w2'
 obtain⟨vs,hp,rl⟩:=s3.atl n p ds ep eds
 have w3':i=.int k:=w3
 subst w3'
 obtain⟨f4,s4⟩:=s3.put ep (Rls.set j rl w1')
 refine⟨p,vs,k,j,rfl,rfl,hp,by rw [<-rl.length];exact ej,?_⟩
 exact q _ _ φ3 (((f1.trans f2).trans f3).trans f4) (e3.fw s3 f4) s4
theorem aG (h:IE K X e f):IS K X (.Return (some e) pos) (bL f):=by
 refine⟨λenv st r hr=>?_⟩
 simp only [bL,Option.map_eq_some_iff] at hr
 obtain⟨y,hy,rfl⟩:=hr
 exact (zm (h.run _ _ _ hy)).imp λD σ H ⟨φ,hE,hS,q⟩=>⟨φ,hE,hS,q⟩
theorem sK (h:IE K X e f) (hs:swapsWith e none pos.line X.env=pure false:=by rfl):IS K X (.Expr e pos) (nS f):=by
 refine⟨λenv st r hr=>?_⟩
 simp only [nS,Option.map_eq_some_iff] at hr
 obtain⟨y,hy,rfl⟩:=hr
 exact (xP (h.run _ _ _ hy) hs).imp λD σ H ⟨φ,hE,hS,q⟩=>⟨φ,hE,hS,λv H1 φ1 f1 s1 w1=>q σ H1 φ1 f1 (hE.fw hS f1) s1⟩
theorem dH {tc:Tf}{sa sb:List Stmt} (hc:IT K X c tc) (ha:ISs K X sa ga) (hb:ISs K X sb gb):IS K X (.If c sa sb pos) (d5 tc ga gb):=by
 refine⟨λenv st r hr=>?_⟩
 simp only [d5,Option.bind_eq_some_iff] at hr
 obtain⟨⟨k,s1⟩,hx,hr⟩:=hr
 cases k with
 | true=>
  rw [if_pos rfl] at hr
  refine (yK (hc.run _ _ _ hx) (ha.run _ _ _ hr) gc).imp ?_
  rintro D σ H ⟨φ,hE,hS,q⟩
  refine⟨φ,hE,hS,λH1 φ1 f1 s1=>vg ?_⟩
  exact⟨φ1,hE.fw hS f1,s1,q.fw f1⟩
 | false=>
  rw [if_neg Bool.false_ne_true] at hr
  refine (yK (hc.run _ _ _ hx) gc (hb.run _ _ _ hr)).imp ?_
  rintro D σ H ⟨φ,hE,hS,q⟩
  refine⟨φ,hE,hS,λH1 φ1 f1 s1=>vh ?_⟩
  exact⟨φ1,hE.fw hS f1,s1,q.fw f1⟩
noncomputable def Bp (K:PySem.W.Frag) (g:Sf):TS:=λD σ H=>∃ env st r,g env st=some r/\tS K env st r D σ H
noncomputable def yw (K:PySem.W.Frag) (f:Ef):TE:=λσ H Q=>∃ env st r,f env st=some r/\tI K env st r σ H Q
noncomputable def u6 (K:PySem.W.Frag) (f:Tf):TT:=λσ H Q=>∃ env st r,f env st=some r/\tIT K env st r σ H Q
theorem ISs.any (h:ISs K X ss ga):PSs X ss (Bp K ga):=λpins s σ H D I ⟨env,st,r,e,q⟩=>h.run env st r e pins s σ H D I q
theorem IE.any (h:IE K X e f):PE X e (yw K f):=λpins s σ H D I ⟨env,st,r,e,q⟩=>h.run env st r e pins s σ H D I q
theorem IT.any {tf:Tf} (h:IT K X e tf):PT X e (u6 K tf):=λpins s σ H D I ⟨env,st,r,e,q⟩=>h.run env st r e pins s σ H D I q
noncomputable def Yl (K:PySem.W.Frag) (φ0:List Addr) (H0:Hp) (J:It) (ds:List D):Prop:=∀ (H:Hp) (φ:List Addr) (st:Sto) (i:Nat),Fw φ0 φ H0 H->Sr K H φ st->
 (∀ d,ds[i]?=some d->J.go i H/\∀ x H',J.yld i H x H'->bK H H'/\Rl K H' φ d x)/\(ds.length=i->J.stop i H)
noncomputable def tII (K:PySem.W.Frag) (env:Ev) (st:Sto) (r:List D×Sto):TI:=λσ H R=>∃ φ,Er K H φ env σ/\Sr K H φ st/\∀ J H' φ',Fw φ φ' H H'->Sr K H' φ' r.2->Yl K φ' H' J r.1->R J H'
structure II (K:PySem.W.Frag) (X:Cx) (tg iter:Expr) (f:Lf):Prop where
 run:∀ env st r,f env st=some r->PI X tg iter (tII K env st r)
theorem PI.imp {tg iter:Expr}{t t':TI} (h:PI X tg iter t) (m:∀ σ H R,t' σ H R->t σ H R):PI X tg iter t':=λpins s σ H R I q=>h pins s σ H R I (m σ H R q)
variable {tg:Expr}
end
end L2
namespace L2
open PySem PySem.Spec PyProof.Rows
section
variable {K:PySem.W.Frag}{X:Cx}{pos:Pos}{tg e a b:Expr}{f:Ef}{af:Af}
theorem cu (h:IE K X e f) (hK:X.K=K:=by rfl):II K X tg e (ba f):=by
 subst hK
 refine⟨λenv st r hr=>?_⟩
 simp only [ba,Option.bind_eq_some_iff] at hr
 obtain⟨⟨w,s1⟩,hy,hr⟩:=hr
 dsimp only at hr
 split at hr
 next ds=>
  cases hr
  refine (yP (h.run _ _ _ hy)).imp ?_
  rintro σ H R ⟨φ,hE,hS,q⟩
  refine⟨φ,hE,hS,λv H1 φ1 f1 s1 w1=>?_⟩
  obtain⟨a,vs,rfl,hq,hr⟩:=w1
  refine⟨a,rfl,⟨vs,(SqT.of hq)⟩,q _ H1 φ1 f1 s1 λH2 φ2 st2 i f2 s2=>?_⟩
  have hq2:=(SqT.of hq).fw s1 f2
  have hr2:=hr.fw s1 f2
  refine⟨λd hd=>?_,λhi=>⟨vs,hq2,by rw [<-hr2.length];exact Nat.le_of_eq hi⟩⟩
  obtain⟨v,ev,rv⟩:=hr2.get hd
  refine⟨⟨vs,v,hq2,ev⟩,λx H' y=>?_⟩
  obtain⟨rfl,y⟩:=y
  have:=y vs hq2
  rw [ev] at this
  cases this
  exact⟨bK.refl _,rv⟩
 next ds=>
  cases hr
  refine (su (h.run _ _ _ hy)).imp ?_
  rintro σ H R ⟨φ,hE,hS,q⟩
  refine⟨φ,hE,hS,λv H1 φ1 f1 s1 w1=>?_⟩
  obtain⟨a,vs,rfl,h0,hq,hr⟩:=w1
  refine⟨a,rfl,⟨vs,.inl hq⟩,q _ H1 φ1 f1 s1 λH2 φ2 st2 i f2 s2=>?_⟩
  have hq2:SqL X.K H2 a vs:=.inl (hq.fw f2 h0)
  have hr2:=hr.fw s1 f2
  refine⟨λd hd=>?_,λhi=>⟨vs,hq2,by rw [<-hr2.length];exact Nat.le_of_eq hi⟩⟩
  obtain⟨v,ev,rv⟩:=hr2.get hd
  refine⟨⟨vs,v,hq2,ev⟩,λx H' y=>?_⟩
  obtain⟨rfl,y⟩:=y
  have:=y vs hq2
  rw [ev] at this
  cases this
  exact⟨bK.refl _,rv⟩
 next=>cases hr
theorem pB (lo:Int) (n i:Nat):(cx lo n)[i]?=if i < n then some (.int (lo+i)) else none:=by
 unfold cx
 rw [List.getElem?_map]
 by_cases h:i < n
 ·rw [List.getElem?_range h,if_pos h];rfl
 ·rw [List.getElem?_eq_none (by simpa using h),if_neg h];rfl
theorem bU (lo:Int) (n:Nat):(cx lo n).length=n:=by unfold cx;rw [List.length_map,List.length_range]
theorem zf (lo:Int) (n:Nat) {φ:List Addr}{H:Hp}:Yl K φ H (Itr lo n) (cx lo n):=by
 intro H2 φ2 st2 i f2 s2
 refine⟨λd hd=>?_,λhi=>by rw [bU] at hi;exact Nat.le_of_eq hi⟩
 rw [pB] at hd
 by_cases h:i < n
 ·rw [if_pos h] at hd
  cases hd
  refine⟨h,λx H' y=>?_⟩
  obtain⟨rfl,rfl⟩:=y
  exact⟨bK.refl _,rfl⟩
 ·rw [if_neg h] at hd;cases hd
theorem dv {p:Pos} (hg:Gl X "range") (hm:X.mg "range" = none) (ha:IA K X [a] af) (hs:aR a=true:=by rfl):II K X tg (.Call (.Name "range" p) [a] [] pos) (cC af):=by
 refine⟨λenv st r hr=>?_⟩
 simp only [cC,Option.bind_eq_some_iff] at hr
 obtain⟨⟨ws,s1⟩,hy,hr⟩:=hr
 dsimp only at hr
 split at hr
 next j=>
  have hr':(if -(2 ^ 62)<=j/\j < 2 ^ 62 then some (cx 0 j.toNat,s1) else none)=some r:=hr
  by_cases hj:-(2 ^ 62)<=j/\j < 2 ^ 62
  ·rw [if_pos hj] at hr'
   cases hr'
   refine (uq hg hm (ha.run _ _ _ hy) (io hs)).imp ?_
   rintro σ H R ⟨φ,hE,hS,q⟩
   refine⟨φ,hE,hS,λvs H1 φ1 f1 s1 w1=>?_⟩
   obtain⟨v,r,rfl,r1,rfl⟩:=w1
   exact⟨j,by rw [show v=.int j from r1],hj.1,hj.2,q _ H1 φ1 f1 s1 (zf 0 _)⟩
  ·rw [if_neg hj] at hr';cases hr'
 next=>cases hr
theorem gr:∀ (ds:List D) (k i:Nat),(bX k ds)[i]?=(ds[i]?).map λd=>D.tup [.int ((k+i:Nat):Int),d]
 | [],k,i=>by simp [bX]
 | d::ds,k,0=>by simp [bX]
 | d::ds,k,i+1=>by
  have:=gr ds (k+1) i
  rw [show k+1+i=k+(i+1) by lia] at this
  simpa [bX] using this
theorem gf:∀ (ds:List D) (k:Nat),(bX k ds).length=ds.length
 | [],_=>rfl
 | d::ds,k=>by rw [bX,List.length_cons,List.length_cons,gf ds]
theorem tH {S:Hp->List V->Prop}{ds:List D}{vs:List V}{φ:List Addr}{H:Hp} (hS:∀ H' φ',Fw φ φ' H H'->S H' vs) (hr:∀ H' φ',Fw φ φ' H H'->Rls K H' φ' ds vs):Yl K φ H (Ite S) (bX 0 ds):=by
 intro H2 φ2 st2 i f2 s2
 have q2:=hS H2 φ2 f2
 have r2:=hr H2 φ2 f2
 refine⟨λd hd=>?_,λhi=>⟨vs,q2,by rw [<-r2.length,<-gf ds 0];exact hi⟩⟩
 rw [gr,Option.map_eq_some_iff] at hd
 obtain⟨d',hd',rfl⟩:=hd
 obtain⟨v,ev,rv⟩:=r2.get hd'
 refine⟨⟨vs,v,q2,ev⟩,λx H' y=>?_⟩
 obtain⟨T,v',y1,hT,rfl,rfl⟩:=y
 have:=y1 vs q2
 rw [ev] at this
 cases this
 refine⟨bK.new hT _,T,_,rfl,aX,_,_,rfl,?_,_,_,rfl,rv.fw s2 (Fw.new hT),rfl⟩
 show V.int (i:Int)=V.int ((0+i:Nat):Int)
 rw [Nat.zero_add]
theorem oa {elts:List Expr}{k:Nat}{tpos p:Pos} (hg:Gl X "enumerate") (hm:X.mg "enumerate" = none) (ha:IA K X [a] af) (hs:aR a=true:=by rfl) (hK:X.K=K:=by rfl) :
  II K X (.Tuple elts k tpos) (.Call (.Name "enumerate" p) [a] [] pos) (gD af):=by
 subst hK
 refine⟨λenv st r hr=>?_⟩
 simp only [gD,Option.bind_eq_some_iff] at hr
 obtain⟨⟨ws,s1⟩,hy,hr⟩:=hr
 dsimp only at hr
 split at hr
 next ds=>
  cases hr
  refine (wP hg hm (ha.run _ _ _ hy) (io hs)).imp ?_
  rintro σ H R ⟨φ,hE,hS,q⟩
  refine⟨φ,hE,hS,λvs H1 φ1 f1 s1 w1=>?_⟩
  obtain⟨v,r,rfl,⟨a,us,rfl,hq,hr⟩,rfl⟩:=w1
  exact⟨a,rfl,⟨us,(SqT.of hq)⟩,q _ H1 φ1 f1 s1 (tH (λH' φ' f=>(SqT.of hq).fw s1 f) λH' φ' f=>hr.fw s1 f)⟩
 next ds=>
  cases hr
  refine (vH hg hm (ha.run _ _ _ hy) (io hs)).imp ?_
  rintro σ H R ⟨φ,hE,hS,q⟩
  refine⟨φ,hE,hS,λvs H1 φ1 f1 s1 w1=>?_⟩
  obtain⟨v,r,rfl,⟨a,us,rfl,h0,hq,hr⟩,rfl⟩:=w1
  exact⟨a,rfl,⟨us,.inl hq⟩,q _ H1 φ1 f1 s1 (tH (λH' φ' f=>.inl (hq.fw f h0)) λH' φ' f=>hr.fw s1 f)⟩
 next=>cases hr
theorem dW {iter:Expr}{body:List Stmt}{fi:Lf}{g:Tg}{gb:Sf} (hi:II K X tg iter fi) (hg:PG X tg (tG K g)) (hb:ISs K X body gb) (hp:PassesOwn (model X.prog X.w) X.A X.env X.xe) (hc:X.calm=true:=by rfl)
  (hs:∀ x,foldedSetIterable iter X.env x=pure x:=by intro _;rfl):IS K X (.For tg iter body [] pos) (gQ fi g gb):=by
 refine⟨λenv st r hr=>?_⟩
 simp only [gQ,Option.bind_eq_some_iff] at hr
 obtain⟨⟨ds,s1⟩,hy,hr⟩:=hr
 refine (wv hp hc (hi.run _ _ _ hy) hg hb.any hs).imp ?_
 rintro D σ H ⟨φ,hE,hS,q⟩
 refine⟨φ,hE,hS,λJ H1 φ1 f1 S1 yl=>?_⟩
 refine⟨λi m σ H=>m=ds.length - i/\i<=ds.length/\∃ env st φ2,Fw φ1 φ2 H1 H/\Er K H φ2 env σ/\Sr K H φ2 st/\mI g gb (ds.drop i) env st=some r,⟨ds.length,by simp,Nat.zero_le _,env,s1,φ1,Fw.refl _ _,hE.fw hS f1,S1,hr⟩,?_⟩
 rintro i m σ H2 ⟨rfl,hi,env2,st2,φ2,f2,e2,S2,h2⟩
 obtain⟨y1,y2⟩:=yl H2 φ2 st2 i f2 S2
 by_cases hlt:i < ds.length
 ·obtain⟨go,yld⟩:=y1 ds[i] (List.getElem?_eq_getElem hlt)
  rw [List.drop_eq_getElem_cons hlt] at h2
  simp only [mI,Option.bind_eq_some_iff] at h2
  obtain⟨e3,he3,r3,hr3,h3⟩:=h2
  refine .inr ⟨go,λσ' H'=>i+1<=ds.length/\∃ env st φ2,Fw φ1 φ2 H1 H'/\Er K H' φ2 env σ'/\Sr K H' φ2 st/\mI g gb (ds.drop (i+1)) env st=some r,λσ' H' ⟨hn,p'⟩=>⟨ds.length - (i+1),by lia,rfl,hn,p'⟩,λx H' y=>?_⟩
  obtain⟨sm,rx⟩:=yld x H' y
  have S3:=S2.same sm
  have f3:=f2.trans (Fw.same (φ:=φ2) sm)
  refine⟨φ2,st2,env2,.d ds[i],e3,e2.fw S2 (Fw.same sm),S3,rx,he3,λσ' e' _=>?_⟩
  refine⟨e3,st2,r3,hr3,φ2,e',S3,?_⟩
  cases r3 with
  | nx e4 s4=>exact λσ4 H4 φ4 f4 e4' s4'=>⟨hlt,e4,s4,φ4,f3.trans f4,e4',s4',h3⟩
  | ct e4 s4=>exact λσ4 H4 φ4 f4 e4' s4'=>⟨hlt,e4,s4,φ4,f3.trans f4,e4',s4',h3⟩
  | bk e4 s4=>
   cases h3
   exact λσ4 H4 φ4 f4 e4' s4'=>q σ4 H4 φ4 (f1.trans (f3.trans f4)) e4' s4'
  | rt w s4=>
   cases h3
   exact λv H4 φ4 f4 s4' w4=>q v H4 φ4 (f1.trans (f3.trans f4)) s4' w4
 ·have hi':i=ds.length:=by lia
  subst hi'
  rw [List.drop_length] at h2
  cases h2
  exact .inl ⟨y2 rfl,q σ H2 φ2 (f1.trans f2) e2 S2⟩
noncomputable def vA (n:Nat) (c:Tf) (b:Sf):Sf
 | env,st=>d9 c b n env st
theorem uR {c:Expr}{body:List Stmt}{tc:Tf}{gb:Sf} (n:Nat) (hc:IT K X c tc) (hb:ISs K X body gb) (hp:PassesOwn (model X.prog X.w) X.A X.env X.xe):IS K X (.While c body [] pos) (vA n tc gb):=by
 refine⟨λenv st r hr=>?_⟩
 refine (vw hp hc.any hb.any).imp ?_
 rintro D σ H ⟨φ,hE,hS,q⟩
 refine⟨λm σ H'=>∃ env st φ2,Fw φ φ2 H H'/\Er K H' φ2 env σ/\Sr K H' φ2 st/\d9 tc gb m env st=some r,⟨n,env,st,φ,Fw.refl _ _,hE,hS,hr⟩,?_⟩
 rintro m σ H2 ⟨env2,st2,φ2,f2,e2,S2,h2⟩
 cases m with
 | zero=>cases h2
 | succ m=>
  simp only [d9,Option.bind_eq_some_iff] at h2
  obtain⟨⟨k,s3⟩,hk,h2⟩:=h2
  refine⟨env2,st2,_,hk,φ2,e2,S2,λH3 φ3 f3 S3=>?_⟩
  cases k with
  | false=>
   rw [if_neg Bool.false_ne_true] at h2
   cases h2
   exact vh (q σ H3 φ3 (f2.trans f3) (e2.fw S2 f3) S3)
  | true=>
   simp only [if_true,Option.bind_eq_some_iff] at h2
   obtain⟨r3,hr3,h3⟩:=h2
   refine vg ⟨λσ' H'=>∃ env st φ2,Fw φ φ2 H H'/\Er K H' φ2 env σ'/\Sr K H' φ2 st/\d9 tc gb m env st=some r,λσ' H' p'=>⟨m,Nat.lt_succ_self _,p'⟩,?_⟩
   refine⟨env2,s3,r3,hr3,φ3,e2.fw S2 f3,S3,?_⟩
   have f3':=f2.trans f3
   cases r3 with
   | nx e4 s4=>exact λσ4 H4 φ4 f4 e4' s4'=>⟨e4,s4,φ4,f3'.trans f4,e4',s4',h3⟩
   | ct e4 s4=>exact λσ4 H4 φ4 f4 e4' s4'=>⟨e4,s4,φ4,f3'.trans f4,e4',s4',h3⟩
   | bk e4 s4=>
    cases h3
    exact λσ4 H4 φ4 f4 e4' s4'=>q σ4 H4 φ4 (f3'.trans f4) e4' s4'
   | rt w s4=>
    cases h3
    exact λv H4 φ4 f4 s4' w4=>q v H4 φ4 (f3'.trans f4) s4' w4
structure ITs (K:PySem.W.Frag) (X:Cx) (ifs:List Expr) (t:Tf):Prop where
 run:PTs X ifs (u6 K t)
theorem bQ:ITs K X [] bN:=by
 refine⟨λpins s σ H Q I ⟨env,st,r,e,φ,hE,hS,q⟩=>?_⟩
 cases e
 exact yn pins s σ H Q I (q H φ (Fw.refl φ H) hS)
theorem kR {c:Expr}{t:Tf} (h:IT K X c t):ITs K X [c] t:=⟨yo h.any⟩
theorem Er.emb {H:Hp}{φ:List Addr}{env:Ev}{σ:St} (h:Er K H φ env σ) (k:Nat) (js:List Nat):Er K H φ (lN k js env) (gM k js σ):=by
 refine⟨by unfold lN gM;simp,λi w e=>?_⟩
 unfold lN at e
 unfold gM
 by_cases hi:i < k
 ·rw [List.getElem?_append_left (by simpa using hi),List.getElem?_replicate,if_pos hi] at e
  cases e
 ·rw [List.getElem?_append_right (by simpa using hi),List.length_replicate,List.getElem?_map,Option.map_eq_some_iff] at e
  obtain⟨j,ej,e⟩:=e
  have ej2:env[j]?=some (some w):=by
   rw [List.getD] at e
   cases q:env[j]? with
   | none=>rw [q] at e;cases e
   | some o=>rw [q] at e;rw [show o=some w from e]
  obtain⟨v,ev,rv⟩:=h.at_ j w ej2
  refine⟨v,?_,rv⟩
  rw [List.getElem?_append_right (by simpa using hi),List.length_replicate,List.getElem?_map,ej]
  show some ((σ[j]?).getD none)=_
  rw [ev];rfl
theorem Sub.stay {k:Nat}{js is:List Nat}{σ σ':St} (h:xw is (gM k js σ) σ') (hi:∀ j ∈ is,j < k):Sub (gM k js σ) σ':=by
 refine⟨h.1.symm,λj v e=>?_⟩
 by_cases hj:j ∈ is
 ·have:=hi j hj
  unfold gM at e
  rw [List.getElem?_append_left (by simpa using this),List.getElem?_replicate,if_pos this] at e
  cases e
 ·rw [h.2 j hj];exact e
theorem vE {k:Nat}{js:List Nat}{g:Tg}{tt:Tf}{te:Ef}{env:Ev}{st s1:Sto}{ds:List D}{r:List D×Sto} (hgi:∀ j ∈ w6 g,j < k) (hdl:ds.length<=1000000) (hr':lcI g tt te (lN k js env) ds s1=some r) :
  ∀ σ H Q,tIL K env st r σ H Q->tLc (gM k js) (tII K env st (ds,s1)) (tG K g) (u6 K tt) (yw K te) σ H Q:=by
 rintro σ H Q ⟨φ,hE,hS,q⟩
 refine⟨φ,hE,hS,λJ H1 φ1 f1 S1 yl=>?_⟩
 have hE1:=(hE.fw hS f1).emb k js
 refine⟨λi m ys H2=>m=ds.length - i/\i<=ds.length/\∃ st φ2 es r2,Fw φ1 φ2 H1 H2/\Sr K H2 φ2 st/\Rls K H2 φ2 es ys/\es.length<=i/\lcI g tt te (lN k js env) (ds.drop i) st=some r2/\r=(es++r2.1,r2.2),⟨ds.length,by simp,Nat.zero_le _,s1,φ1,[],r,Fw.refl _ _,S1,rfl,Nat.le_refl _,hr',rfl⟩,?_⟩
 rintro i m ys H2 ⟨rfl,hi,st2,φ2,es,r2,f2,S2,rl2,hle,h2,rfl⟩
 obtain⟨y1,y2⟩:=yl H2 φ2 st2 i f2 S2
 by_cases hlt:i < ds.length
 ·obtain⟨go,yld⟩:=y1 ds[i] (List.getElem?_eq_getElem hlt)
  rw [List.drop_eq_getElem_cons hlt] at h2
  simp only [lcI,Option.bind_eq_some_iff] at h2
  obtain⟨e3,he3,⟨kb,s3⟩,hb3,h3⟩:=h2
  have hz:ys.length < sizeLine:=by
   rw [<-rl2.length]
   have:sizeLine=16777216:=sizeLine_eq
   lia
  refine .inr ⟨go,hz,λys' H'=>i+1<=ds.length/\∃ st φ2 es' r2',Fw φ1 φ2 H1 H'/\Sr K H' φ2 st/\Rls K H' φ2 es' ys'/\es'.length<=i+1/\lcI g tt te (lN k js env) (ds.drop (i+1)) st=some r2'/\(es++r2.1,r2.2)=(es'++r2'.1,r2'.2),λys' H' ⟨hn,p'⟩=>⟨ds.length - (i+1),by lia,rfl,hn,p'⟩,λx H' y=>?_⟩
  obtain⟨sm,rx⟩:=yld x H' y
  have S3:=S2.same sm
  have f3:=f2.trans (Fw.same (φ:=φ2) sm)
  refine⟨φ2,st2,lN k js env,.d ds[i],e3,hE1.fw S1 f3,S3,rx,he3,λσ' e' stay=>⟨Sub.stay stay hgi,?_⟩⟩
  refine⟨e3,st2,_,hb3,φ2,e',S3,λH4 φ4 f4 S4=>?_⟩
  cases kb with
  | false=>
   rw [if_neg Bool.false_ne_true] at h3
   exact vh ⟨hlt,s3,φ4,es,r2,f3.trans f4,S4,(rl2.fw S2 (Fw.same sm)).fw S3 f4,by lia,h3,rfl⟩
  | true=>
   simp only [if_true,Option.bind_eq_some_iff,Option.map_eq_some_iff] at h3
   obtain⟨x5,hx5,zs,hzs,r5,hr5,rfl⟩:=h3
   refine vg ⟨e3,s3,x5,hx5,φ4,e'.fw S3 f4,S4,λv H5 φ5 f5 S5 w5=>?_⟩
   obtain⟨x5,s5⟩:=x5
   cases x5 with
   | h n=>cases hzs
   | d z=>
    cases hzs
    refine⟨hlt,s5,φ5,es++[z],r5,(f3.trans f4).trans f5,S5,(((rl2.fw S2 (Fw.same sm)).fw S3 f4).fw S4 f5).append ⟨v,[],rfl,w5,rfl⟩,by rw [List.length_append];simp;lia,hr5,?_⟩
    simp
 ·have hi':i=ds.length:=by lia
  subst hi'
  rw [List.drop_length] at h2
  cases h2
  refine .inl ⟨y2 rfl,λDn hD=>?_⟩
  have:=q Dn ys H2 φ2 (f1.trans f2) S2 hD
  exact this (by simpa using rl2)
theorem cR {scope:Scope}{Nc:List Str}{k:Nat}{js:List Nat}{elt iter:Expr}{ifs:List Expr}{fi:Lf}{g:Tg}{tt:Tf}{te:Ef}
  (S:fQ X scope Nc (gM k js)) (hc:X.calm=true) (hgi:∀ j ∈ w6 g,j < k) (hi:II K X tg iter fi)
  (hg:∀ cells s H C fp,PG (lcX X scope cells Nc s H C fp) tg (tG K g)) (ht:∀ cells s H C fp,ITs K (lcX X scope cells Nc s H C fp) ifs tt) (he:∀ cells s H C fp,IE K (lcX X scope cells Nc s H C fp) elt te)
  (hs:∀ x,foldedSetIterable iter X.env x=pure x:=by intro _;rfl):IL K X (.ListComp elt [⟨tg,iter,ifs,0⟩] scope pos) (iLc k js fi g tt te):=by
 refine⟨λenv st r hr=>?_⟩
 simp only [iLc,Option.bind_eq_some_iff] at hr
 obtain⟨⟨ds,s1⟩,hy,hr⟩:=hr
 have hr':(if ds.length<=1000000 then lcI g tt te (lN k js env) ds s1 else none)=some r:=hr
 by_cases hdn:¬ ds.length<=1000000
 ·rw [if_neg hdn] at hr';cases hr'
 have hdl:ds.length<=1000000:=by lia
 rw [if_pos hdl] at hr'
 refine (A9 S hc (hi.run _ _ _ hy) hg (λcells s H C fp=>(ht cells s H C fp).run) (λcells s H C fp=>(he cells s H C fp).any) hs).imp (vE hgi hdl hr')
theorem A3 {scope:Scope}{Nc:List Str}{k:Nat}{js:List Nat}{elt iter:Expr}{ifs:List Expr}{fi:Lf}{g:Tg}{tt:Tf}{te:Ef}{i0:Nat}{x0:Str}{py spos:Pos}
  (hN0:X.N.Nodup) (hi0:X.N[i0]?=some x0) (hx0:Loc X.env.scope x0) (S:fQ X scope Nc (gM k js)) (hc:X.calm=true) (hgi:∀ j ∈ w6 g,j < k) (hi:II K X tg iter fi)
  (hg:∀ cells s H C fp,PG (lcX X scope cells Nc s H C fp) tg (tG K g)) (ht:∀ cells s H C fp,ITs K (lcX X scope cells Nc s H C fp) ifs tt) (he:∀ cells s H C fp,IE K (lcX X scope cells Nc s H C fp) elt te)
  (hsw:swapsWith (.ListComp elt [⟨tg,iter,ifs,0⟩] scope pos) (some (.Name x0 py)) spos.line X.env=pure true:=by rfl)
  (hf0:X.fn x0=true\/X.env.scope.names.lookup x0=some .local:=by first | exact .inl rfl | exact .inr rfl | assumption)
  (hs:∀ x,foldedSetIterable iter X.env x=pure x:=by intro _;rfl):IS K X (.Assign [.Name x0 py] (.ListComp elt [⟨tg,iter,ifs,0⟩] scope pos) spos) (bI (.nm i0) (aV (iLc k js fi g tt te)))/\
   IS K X (.Assign [.Name x0 py] (.ListComp elt [⟨tg,iter,ifs,0⟩] scope pos) spos) (bI (.nm i0) (oY (iLc k js fi g tt te))):=by
 have key:∀ env st r0 r,iLc k js fi g tt te env st=some r->(∀ σ φ H (D:pE),Er K H φ env σ->Sr K H φ st->vP K φ H D r0->∀ a vs H1 φ',Fw φ φ' H H1->Sr K H1 φ' r.2->H1 a=none->Rls K H1 φ' r.1 vs->D.nx (σ.set i0 (some (.ref a))) (upd H1 a (.lst vs)))->
   PS X (.Assign [.Name x0 py] (.ListComp elt [⟨tg,iter,ifs,0⟩] scope pos) spos) (tS K env st r0):=by
  intro env st r0 r hr h
  simp only [iLc,Option.bind_eq_some_iff] at hr
  obtain⟨⟨ds,s1⟩,hy,hr⟩:=hr
  have hr':(if ds.length<=1000000 then lcI g tt te (lN k js env) ds s1 else none)=some r:=hr
  by_cases hdn:¬ ds.length<=1000000
  ·rw [if_neg hdn] at hr';cases hr'
  have hdl:ds.length<=1000000:=by lia
  rw [if_pos hdl] at hr'
  refine (AF hN0 hi0 hx0 S hc (hi.run _ _ _ hy) hg (λcells s H C fp=>(ht cells s H C fp).run) (λcells s H C fp=>(he cells s H C fp).any) hsw hf0 hs).imp ?_
  rintro D σ H ⟨φ,hE,hS,q⟩
  exact vE hgi hdl hr' σ H _ ⟨φ,hE,hS,h σ φ H D hE hS q⟩
 constructor
 ·refine⟨λenv st r hr=>?_⟩
  simp only [bI,aV,gg,Option.bind_eq_some_iff,Option.map_eq_some_iff] at hr
  obtain⟨y,⟨r2,hy,rfl⟩,e',ee,rfl⟩:=hr
  cases ee
  refine key _ _ _ _ hy λσ φ H D hE hS q a vs H1 φ1 f1 s1 n1 w1=>?_
  exact q _ _ φ1 (f1.trans (Fw.new n1)) ((((hE.fw hS f1).fw s1 (Fw.new n1))).set i0 (w:=.d (.lst r2.1)) ⟨a,vs,rfl,s1.nin n1,.inl aX,w1.fw s1 (Fw.new n1)⟩) (s1.new n1)
 ·refine⟨λenv st r hr=>?_⟩
  simp only [bI,oY,gg,Option.bind_eq_some_iff,Option.map_eq_some_iff] at hr
  obtain⟨y,⟨r2,hy,rfl⟩,e',ee,rfl⟩:=hr
  cases ee
  refine key _ _ _ _ hy λσ φ H D hE hS q a vs H1 φ1 f1 s1 n1 w1=>?_
  exact q _ _ (φ1++[a]) (f1.trans (Fw.more n1)) (((hE.fw hS f1).fw s1 (Fw.more n1)).set i0 (w:=.h r2.2.length) ⟨a,by rw [<-s1.len];simp,rfl⟩) (s1.more n1 w1)
end
end L2
namespace L2
open PySem PySem.Spec PyProof.Rows
noncomputable def bB (n k:Nat) (b:Sf):Fn
 | ws,st=>if ws.length=k then (b (ws.map some++List.replicate (n - k) none) st).bind λr=>match r with
 | .nx _ s=>some (.d .non,s)
 | .rt w s=>some (w,s)
 | _=>none
 else none
noncomputable def xY (n:Nat) (w:W) (s:Sto):Option (W×Sto):=match w with
 | .d x=>some (.d x,s.take n)
 | .h m=>if m < n then some (.h m,s.take n) else (lg s m).map λds=>(.d (.lst ds),s.take n)
noncomputable def gZ (n k:Nat) (b:Sf):Fn
 | ws,st=>if ws.length=k then (b (ws.map some++List.replicate (n - k) none) st).bind λr=>match r with
 | .nx _ s=>some (.d .non,s.take st.length)
 | .rt w s=>xY st.length w s
 | _=>none
 else none
section
variable {P:Program}{w:World}{K:PySem.W.Frag}{mg:Str->Option Value}{base:Heap}
theorem pY {H:Hp}{φ:List Addr}{N:List Str}{k:Nat}:∀ {ws:List W}{vs:List V},Rws K H φ ws vs->ws.length=k->Er K H φ (ws.map some++List.replicate (N.length - k) none) (start N vs):=by
 intro ws vs r hk
 have hl:=r.length
 refine⟨by unfold start;simp;lia,λi x e=>?_⟩
 unfold start
 by_cases hi:i < ws.length
 ·rw [List.getElem?_append_left (by simpa using hi),List.getElem?_map,Option.map_eq_some_iff] at e
  obtain⟨y,ey,e⟩:=e
  have:∃ v,vs[i]?=some v/\Rw K H φ y v:=by
   clear hk hl hi e
   induction ws generalizing vs i with
   | nil=>simp at ey
   | cons w ws ih=>
    obtain⟨v,r',rfl,r1,r2⟩:=r
    cases i with
    | zero=>simp at ey;subst ey;exact⟨v,rfl,r1⟩
    | succ i=>simpa using ih r2 i (by simpa using ey)
  obtain⟨v,ev,rv⟩:=this
  cases e
  refine⟨v,?_,rv⟩
  rw [List.getElem?_append_left (by rw [List.length_map,<-hl];exact hi),List.getElem?_map,ev];rfl
 ·rw [List.getElem?_append_right (by simpa using hi)] at e
  have:=List.mem_of_getElem? e
  have:=(List.mem_replicate.mp this).2
  cases this
theorem dM {x qual:Str}{st:Stmt}{f:Addr}{fd:FuncData}{N ps:List Str}{k:Nat}{b:Sf} (F:Fun K x qual st f fd) (S:aH N ps (ab st))
  (hb:∀ (cdv:Value) (A:Around) (outer:List Env) (s:Shared) (H:Hp) (E:XK),bo k (A.deeper (envOfC qual (ab st) s.heap.objs.size f cdv))->ISs K (cy CX0 P w K mg base N qual (ab st) f cdv A outer s H E).nox (ap st) b) :
  aU P w K mg base CX0 (k+1) f fd ps (spI K (bB N.length ps.length b)):=by
 refine F.ok S (λvs H Q E h=>?_) λcdv A outer s H vs Q E hr h=>?_
 ·obtain⟨φ,st,ws,r,e,rw,_⟩:=h
  rw [bB] at e
  by_cases hl:ws.length=ps.length
  ·rw [<-rw.length,hl]
  ·rw [if_neg hl] at e;cases e
 ·obtain⟨φ,st',ws,r,e,rw,S',q⟩:=h
  rw [bB] at e
  by_cases hl:ws.length=ps.length
  ·rw [if_pos hl] at e
   obtain⟨fl,e1,e2⟩:=Option.bind_eq_some_iff.mp e
   refine⟨_,(hb cdv A outer s H E hr).run _ _ _ e1,φ,pY rw hl,S',?_⟩
   cases fl with
   | nx e s=>cases e2;exact λσ' H' φ' f' e' s'=>q .non H' φ' f' s' rfl
   | rt w s=>cases e2;exact λv H' φ' f' s' w'=>q v H' φ' f' s' w'
   | bk e s=>cases e2
   | ct e s=>cases e2
  ·rw [if_neg hl] at e;cases e
theorem Fw.less {φ φ':List Addr}{H H':Hp} (f:Fw φ φ' H H'):Fw φ φ H H':=⟨⟨[],by simp,by simp⟩,f.keep,f.there⟩
theorem t3 {x qual:Str}{st:Stmt}{f:Addr}{fd:FuncData}{N ps:List Str}{k:Nat}{b:Sf} (F:Fun K x qual st f fd) (S:aH N ps (ab st))
  (hb:∀ (cdv:Value) (A:Around) (outer:List Env) (s:Shared) (H:Hp) (E:XK),bo k (A.deeper (envOfC qual (ab st) s.heap.objs.size f cdv))->ISs K (cy CX0 P w K mg base N qual (ab st) f cdv A outer s H E).nox (ap st) b) :
  aU P w K mg base CX0 (k+1) f fd ps (spI K (gZ N.length ps.length b)):=by
 refine F.ok S (λvs H Q E h=>?_) λcdv A outer s H vs Q E hr h=>?_
 ·obtain⟨φ,st,ws,r,e,rw,_⟩:=h
  rw [gZ] at e
  by_cases hl:ws.length=ps.length
  ·rw [<-rw.length,hl]
  ·rw [if_neg hl] at e;cases e
 ·obtain⟨φ,st',ws,r,e,rw,S',q⟩:=h
  rw [gZ] at e
  by_cases hl:ws.length=ps.length
  ·rw [if_pos hl] at e
   obtain⟨fl,e1,e2⟩:=Option.bind_eq_some_iff.mp e
   refine⟨_,(hb cdv A outer s H E hr).run _ _ _ e1,φ,pY rw hl,S',?_⟩
   have less:∀ {H':Hp}{φ':List Addr}{s':Sto},Fw φ φ' H H'->Sr K H' φ' s'->Sr K H' φ (s'.take st'.length):=λ{H' φ' s'} f' S2=>by
    obtain⟨ψ,rfl,_⟩:=f'.ext
    rw [<-S'.len]
    exact S2.less
   cases fl with
   | nx e s=>cases e2;exact λσ' H' φ' f' e' s'=>q .non H' φ f'.less (less f' s') rfl
   | rt w s=>
    intro v H' φ' f' s' w'
    have e3:xY st'.length w s=some r:=e2
    obtain⟨ψ,eψ,_⟩:=f'.ext
    cases w with
    | d x=>
     cases e3
     subst eψ
     exact q v H' φ f'.less (less f' s') (Rl.less w')
    | h m=>
     obtain⟨a,ea,rfl⟩:=w'
     unfold xY at e3
     by_cases hm:m < st'.length
     ·have e4:some (W.h m,s.take st'.length)=some r:=by
       have:=e3
       simp only [hm,if_true] at this
       exact this
      cases e4
      subst eψ
      rw [List.getElem?_append_left (by rw [S'.len];exact hm)] at ea
      exact q _ H' φ f'.less (less f' s') ⟨a,ea,rfl⟩
     ·simp only [hm,if_false] at e3
      obtain⟨ds,eds,rfl⟩:=Option.map_eq_some_iff.mp e3
      obtain⟨vs,hv,rl⟩:=s'.atl m a ds ea eds
      have hn:a ∉ φ:=λz=>by
       obtain⟨i,hi,ei⟩:=List.mem_iff_getElem.mp z
       have h1:φ'[i]?=some a:=by subst eψ;rw [List.getElem?_append_left hi,List.getElem?_eq_getElem hi,ei]
       obtain⟨h2,h2'⟩:=List.getElem?_eq_some_iff.mp h1
       obtain⟨h3,h3'⟩:=List.getElem?_eq_some_iff.mp ea
       have:=(List.getElem_inj s'.nd).mp (h2'.trans h3'.symm)
       rw [S'.len] at hi
       lia
      subst eψ
      exact q _ H' φ f'.less (less f' s') ⟨a,vs,rfl,hn,.inl hv,rl.less⟩
   | bk e s=>cases e2
   | ct e s=>cases e2
  ·rw [if_neg hl] at e;cases e
end
noncomputable def dA:D->Bool
 | .non=>true
 | .bl _=>true
 | .int _=>true
 | .str _=>true
 | _=>false
noncomputable def vOf:D->V
 | .bl b=>.bl b
 | .int i=>.int i
 | .str x=>.str x
 | _=>.non
mutual
noncomputable def eqD:D->D->Bool
 | .non,.non=>true
 | .bl a,.bl b=>a==b
 | .bl a,.int b=>(if a then 1 else 0)==b
 | .int a,.bl b=>a==(if b then 1 else 0)
 | .int a,.int b=>a==b
 | .str a,.str b=>a==b
 | .tup as,.tup bs=>iF as bs
 | .lst as,.lst bs=>iF as bs
 | _,_=>false
noncomputable def iF:List D->List D->Bool
 | [],[]=>true
 | a::as,b::bs=>eqD a b && iF as bs
 | _,_=>false
end
noncomputable def okD:Nat->D->Bool
 | _,.non=>true
 | _,.bl _=>true
 | _,.int _=>true
 | _,.str _=>true
 | n+1,.tup ds=>ds.all (okD n)
 | n+1,.lst ds=>ds.all (okD n)
 | _,_=>false
noncomputable def lsD (st:Sto):W->Option (List D)
 | .d (.lst ds)=>some ds
 | .h n=>lg st n
 | _=>none
noncomputable def dL (st:Sto) (x y:W):Option D:=match x,y with
 | .d (.int i),.d (.int j)=>some (.int (i+j))
 | .d (.tup a),.d (.tup b)=>if a.length+b.length<=1000000 then some (.tup (a++b)) else none
 | .d (.str a),.d (.str b)=>if a.length+b.length<=1000000 then some (.str (a++b)) else none
 | x,y=>(lsD st x).bind λa=>(lsD st y).bind λb=>if a.length+b.length<=1000000 then some (.lst (a++b)) else none
noncomputable def vC (_:Sto):W->W->Option D
 | .d (.int i),.d (.int j)=>some (.int (i - j))
 | _,_=>none
instance (a b:Int):Decidable (IntMulOk a b):=by unfold IntMulOk;infer_instance
noncomputable def dO (_:Sto):W->W->Option D
 | .d (.int i),.d (.int j)=>if IntMulOk i j then some (.int (i*j)) else none
 | .d (.tup a),.d (.int k)=>if a≠[]/\a.length<=1000/\1<=k/\k < 1000 then some (.tup (List.replicate k.toNat a).flatten) else none
 | .d (.lst a),.d (.int k)=>if a.length<=1000/\-1000<=k/\k < 1000 then some (.lst (List.replicate k.toNat a).flatten) else none
 | _,_=>none
noncomputable def lZ (_:Sto):W->W->Option D
 | .d (.int i),.d (.int j)=>if 0 < j/\j < 1073741824 then some (.int (i / j)) else none
 | _,_=>none
noncomputable def jj (_:Sto):W->W->Option D
 | .d (.int i),.d (.int j)=>if 0 < j then some (.int (i % j)) else none
 | _,_=>none
instance (i j:Int):Decidable (oy i j):=by unfold oy;infer_instance
noncomputable def uE (_:Sto):W->W->Option D
 | .d (.int i),.d (.int j)=>if oy i j then some (.int (i ^ j.toNat)) else none
 | _,_=>none
noncomputable def kE (_:Sto):W->W->Option D
 | .d (.int i),.d (.int j)=>if oy i j then some (.int (i*2 ^ j.toNat)) else none
 | _,_=>none
noncomputable def yr (_:Sto):W->W->Option D
 | .d (.int i),.d (.int j)=>if 0<=j then some (.int (i / 2 ^ j.toNat)) else none
 | _,_=>none
noncomputable def dLt (_:Sto):W->W->Option D
 | .d (.int i),.d (.int j)=>some (.bl (decide (i < j)))
 | _,_=>none
noncomputable def dLe (_:Sto):W->W->Option D
 | .d (.int i),.d (.int j)=>some (.bl (decide (i<=j)))
 | _,_=>none
noncomputable def dGt (_:Sto):W->W->Option D
 | .d (.int i),.d (.int j)=>some (.bl (decide (j < i)))
 | _,_=>none
noncomputable def dGe (_:Sto):W->W->Option D
 | .d (.int i),.d (.int j)=>some (.bl (decide (j<=i)))
 | _,_=>none
noncomputable def vX:D->Bool
 | .non=>true
 | _=>false
noncomputable def v7 (_:Sto):W->W->Option D
 | .d x,.d .non=>some (.bl (!vX x))
 | _,_=>none
noncomputable def inD (x:D) (ds:List D):Bool:=ds.any λy=>eqD y x
noncomputable def oP (st:Sto) (x y:W):Option D:=match x with
 | .d x=>(gz st y).bind λds=>if dA x=true/\ds.all dA=true then some (.bl (!inD x ds)) else none
 | _=>none
section
variable {K:PySem.W.Frag}{X:Cx}
theorem eE {H:Hp}{φ:List Addr}{d:D}{v:V} (h:dA d=true) (r:Rl K H φ d v):v=vOf d/\eX v=true:=by
 cases d with
 | non=>cases (show v=.non from r);exact⟨rfl,rfl⟩
 | bl b=>cases (show v=.bl b from r);exact⟨rfl,rfl⟩
 | int b=>cases (show v=.int b from r);exact⟨rfl,rfl⟩
 | str b=>cases (show v=.str b from r);exact⟨rfl,rfl⟩
 | _=>cases h
theorem kZ {a b:D} (ha:dA a=true) (hb:dA b=true):eqV (vOf a) (vOf b)=eqD a b:=by
 cases a<;>cases b<;>first | rfl | (cases ha;done) | (cases hb;done) | (simp [eqV,vOf,eqD];done)
theorem pS {H:Hp}{φ:List Addr}:∀ {ds:List D}{vs:List V},ds.all dA=true->Rls K H φ ds vs->vs=ds.map vOf/\vs.all eX=true
 | [],_,_,h=>by cases h;exact⟨rfl,rfl⟩
 | d::ds,_,h,r=>by
  rw [List.all_cons,Bool.and_eq_true] at h
  obtain⟨v,vr,rfl,r1,r2⟩:=r
  obtain⟨e1,e2⟩:=eE h.1 r1
  obtain⟨e3,e4⟩:=pS h.2 r2
  exact⟨by rw [e1,e3];rfl,by rw [List.all_cons,e2,e4];rfl⟩
theorem sQ {x:D} (hx:dA x=true):∀ {ds:List D},ds.all dA=true->inV (vOf x) (ds.map vOf)=inD x ds
 | [],_=>rfl
 | d::ds,h=>by
  rw [List.all_cons,Bool.and_eq_true] at h
  have ih:=sQ hx h.2
  unfold inV inD at ih ⊢
  rw [List.map_cons,List.any_cons,List.any_cons,ih,kZ h.1 hx]
theorem uN {f:Value->Value->Sem Value}{g:Sto->W->W->Option D} (h:∀ st x y d,g st x y=some d->∃ i j,x=.d (.int i)/\y=.d (.int j)/\OpR X f (λvx vy H Q=>vx=.int i/\vy=.int j/\Q (vOf d) H)/\dA d=true):OpD K X f g:=by
 refine⟨λst x y d hd=>?_⟩
 obtain⟨i,j,rfl,rfl,ho,hf⟩:=h st x y d hd
 refine ho.imp ?_
 rintro vx vy H Q ⟨φ,S,r1,r2,q⟩
 refine⟨r1,r2,q _ H (bK.refl H) ?_⟩
 cases d<;>first | rfl | cases hf
noncomputable def i2 (f:Int->Int->Option D):W->W->Option D
 | .d (.int i),.d (.int j)=>f i j
 | _,_=>none
theorem yD {f:Int->Int->Option D}{x y:W}{d:D} (h:i2 f x y=some d):∃ i j,x=.d (.int i)/\y=.d (.int j)/\f i j=some d:=by
 unfold i2 at h
 split at h
 ·exact⟨_,_,rfl,rfl,h⟩
 ·cases h
theorem qF {f:Value->Value->Sem Value}{g:Sto->W->W->Option D}{r:Int->Int->D} (hg:∀ st,g st=i2 λi j=>some (r i j)) (hf:∀ i j,dA (r i j)=true) (h:∀ i j,OpR X f (λvx vy H Q=>vx=.int i/\vy=.int j/\Q (vOf (r i j)) H)):OpD K X f g:=uN λst x y d e=>by
 rw [hg] at e
 obtain⟨i,j,e1,e2,e3⟩:=yD e
 cases e3
 exact⟨i,j,e1,e2,h i j,hf i j⟩
theorem lT {f:Value->Value->Sem Value}{g:Sto->W->W->Option D}{r:Int->Int->D}{c:Int->Int->Prop} [∀ i j,Decidable (c i j)] (hg:∀ st,g st=i2 λi j=>if c i j then some (r i j) else none) (hf:∀ i j,dA (r i j)=true) (h:∀ i j,c i j->OpR X f (λvx vy H Q=>vx=.int i/\vy=.int j/\Q (vOf (r i j)) H)):OpD K X f g:=uN λst x y d e=>by
 rw [hg] at e
 obtain⟨i,j,e1,e2,e3⟩:=yD e
 split at e3
 next hc=>
  cases e3
  exact⟨i,j,e1,e2,h i j hc,hf i j⟩
 next=>cases e3
theorem oS:OpD K X (binaryOp .Sub) vC:=qF (λ_=>rfl) (λ_ _=>rfl) λi j=>za.imp λvx vy H Q h=>⟨i,j,h.1,h.2.1,h.2.2⟩
theorem nu:OpD K X (compareOp .Lt) dLt:=qF (λ_=>rfl) (λ_ _=>rfl) λi j=>AM.imp λvx vy H Q h=>⟨i,j,h.1,h.2.1,h.2.2⟩
theorem Bi:OpD K X (compareOp .LtE) dLe:=qF (λ_=>rfl) (λ_ _=>rfl) λi j=>AN.imp λvx vy H Q h=>⟨i,j,h.1,h.2.1,h.2.2⟩
theorem yB:OpD K X (compareOp .Gt) dGt:=qF (λ_=>rfl) (λ_ _=>rfl) λi j=>A5.imp λvx vy H Q h=>⟨i,j,h.1,h.2.1,h.2.2⟩
theorem AU:OpD K X (compareOp .GtE) dGe:=qF (λ_=>rfl) (λ_ _=>rfl) λi j=>BF.imp λvx vy H Q h=>⟨i,j,h.1,h.2.1,h.2.2⟩
theorem jq:OpD K X (binaryOp .FloorDiv) lZ:=lT (λ_=>rfl) (λ_ _=>rfl) λi j hc=>x6.imp λvx vy H Q h=>⟨i,j,h.1,h.2.1,hc,h.2.2⟩
theorem fW:OpD K X (binaryOp .Mod) jj:=lT (λ_=>rfl) (λ_ _=>rfl) λi j hc=>zM.imp λvx vy H Q h=>⟨i,j,h.1,h.2.1,hc,h.2.2⟩
theorem zl:OpD K X (binaryOp .Pow) uE:=lT (λ_=>rfl) (λ_ _=>rfl) λi j hc=>zt.imp λvx vy H Q h=>⟨i,j,h.1,h.2.1,hc,h.2.2⟩
theorem iU:OpD K X (binaryOp .LShift) kE:=lT (λ_=>rfl) (λ_ _=>rfl) λi j hc=>Av.imp λvx vy H Q h=>⟨i,j,h.1,h.2.1,hc,h.2.2⟩
theorem uO:OpD K X (binaryOp .RShift) yr:=lT (λ_=>rfl) (λ_ _=>rfl) λi j hc=>Ar.imp λvx vy H Q h=>⟨i,j,h.1,h.2.1,hc,h.2.2⟩
theorem zh {H:Hp}{φ:List Addr}{d:D}{v:V} (r:Rl K H φ d v):decide (v=.non)=vX d:=by
 cases d with
 | non=>cases (show v=.non from r);rfl
 | bl b=>cases (show v=.bl b from r);rfl
 | int b=>cases (show v=.int b from r);rfl
 | str b=>cases (show v=.str b from r);rfl
 | ty b=>cases (show v=.ty b from r);rfl
 | dct=>obtain⟨a,rfl,_⟩:=r;rfl
 | scr ns=>obtain⟨a,rfl,_⟩:=r;rfl
 | tup ds=>obtain⟨a,vs,rfl,_⟩:=r;rfl
 | lst ds=>obtain⟨a,vs,rfl,_⟩:=r;rfl
theorem xI:OpD K X (compareOp .IsNot) v7:=by
 refine⟨λst x y d h=>?_⟩
 unfold v7 at h
 split at h
 next x=>
  cases h
  refine xO.imp ?_
  rintro vx vy H Q ⟨φ,S,r1,r2,q⟩
  refine⟨r2,q _ H (bK.refl H) ?_⟩
  rw [zh r1];rfl
 next=>cases h
theorem uF (hK:X.K=K:=by rfl):OpD K X (compareOp .NotIn) oP:=by
 subst hK
 refine⟨λst x y d h=>?_⟩
 match x,h with
 | .d x,h=>
  simp only [oP,Option.bind_eq_some_iff] at h
  obtain⟨ds,hs,h⟩:=h
  split at h
  ·rename_i hc
   cases h
   refine pe.imp ?_
   rintro vx vy H Q ⟨φ,S,r1,r2,q⟩
   obtain⟨a,vs,rfl,h1,h2⟩:=kP S r2 hs
   obtain⟨e1,e2⟩:=eE hc.1 r1
   obtain⟨e3,e4⟩:=pS hc.2 h2
   refine⟨a,vs,rfl,h1,e2,e4,q _ H (bK.refl H) ?_⟩
   rw [e1,e3,sQ hc.1 hc.2];rfl
  ·cases h
end
end L2
namespace L2
open PySem PySem.Spec PyProof.Rows
section
variable {K:PySem.W.Frag}{X:Cx}
theorem yv:OpR X (binaryOp .Add) (λx y H Q=>∃ l b xs zs,x=.ref l/\y=.ref b/\Rd H l (.lst xs)/\Rd H b (.lst zs)/\xs.length+zs.length<=sizeLine/\∀ p,H p=none->Q (.ref p) (upd H p (.lst (xs++zs)))):=by
 intro pins s σ H x y v u Q I rx ry h
 obtain⟨l,b,xs,zs,rfl,rfl,hH,hB,hz,q⟩:=h
 cases rx
 cases ry
 obtain⟨z,its,n,r,e⟩:=hH.ok I.hok
 obtain⟨z2,its2,n2,r2,e2⟩:=hB.ok I.hok
 have hl:=r.length
 have hl2:=r2.length
 refine PySem.P.add_list e e2 ?_ (by rw [List.size_toArray,List.size_toArray];lia)
 have ea:its.toArray++its2.toArray=(its++its2).toArray:=by simp
 rw [ea]
 exact⟨.ref _,_,I.lnew (t':=s.toks) (r.append r2) (by rw [List.length_append];lia),rfl,q _ I.fresh⟩
theorem uU:OpR X (binaryOp .Add) (λx y H Q=>∃ a b xs ys,x=.ref a/\y=.ref b/\SqT X.K H a xs/\SqT X.K H b ys/\xs.length+ys.length<=sizeLine/\
  (xs=[]->Q (.ref b) H)/\(ys=[]->Q (.ref a) H)/\∀ p,H p=none->Q (.ref p) (upd H p (.tup (xs++ys)))):=by
 intro pins s σ H x y v u Q I rx ry h
 obtain⟨a,b,xs,ys,rfl,rfl,ha,hb,hz,q0,q1,q2⟩:=h
 by_cases hx:xs=[]
 ·cases rx
  cases ry
  obtain⟨its,r1,p1,_⟩:=I.tuple ha
  obtain⟨its2,r2,p2,_⟩:=I.tuple hb
  obtain⟨⟨cls,dd,data,sl⟩,ho,hc,n,hd⟩:=id p1
  obtain⟨⟨cls2,dd2,data2,sl2⟩,ho2,hc2,n2,hd2⟩:=id p2
  simp only at hc hd hc2 hd2
  subst hc hd hc2 hd2
  exact concat_meets ⟨_,ho,rfl⟩ ⟨_,ho2,rfl⟩ noFill_tuple_add seq_tuple_add PySem.F.slot_tuple_add PySem.F.entry_tuple_add (PySem.F.args_tuple_add_2 _ _)
   (tuple_addW0 a b its.toArray its2.toArray n n2 dd dd2 sl sl2 (by simp [r1.nil_iff.mpr hx])) ⟨ho,ho2,.ref b,H,I,rfl,q0 hx⟩
 ·exact xa pins s σ H _ _ v u Q I rx ry ⟨a,b,xs,ys,rfl,rfl,ha,hb,hx,hz,q1,λ_ p hp=>q2 p hp⟩
theorem jS {st:Sto}{H:Hp}{φ:List Addr}{w:W}{v:V}{ds:List D} (S:Sr K H φ st) (r:Rw K H φ w v) (e:lsD st w=some ds):∃ a vs,v=.ref a/\Rd H a (.lst vs)/\Rls K H φ ds vs:=by
 cases w with
 | h n=>
  obtain⟨a,ea,rfl⟩:=r
  obtain⟨vs,q,rl⟩:=S.atl n a ds ea e
  exact⟨a,vs,rfl,.inl q,rl⟩
 | d x=>
  cases x with
  | lst es=>cases e;obtain⟨a,vs,rfl,h0,h1,h2⟩:=r;exact⟨a,vs,rfl,h1,h2⟩
  | _=>cases e
theorem mil:(1000000:Nat)<=sizeLine:=by rw [sizeLine_eq];decide
theorem cW (hK:X.K=K:=by rfl):OpD K X (binaryOp .Add) dL:=by
 subst hK
 refine⟨λst x y d h=>?_⟩
 have lists:(lsD st x).bind (λa=>(lsD st y).bind λb=>if a.length+b.length<=1000000 then some (.lst (a++b)) else none)=some d->OpR X (binaryOp .Add) (rD X.K st x y d):=λh=>by
  simp only [Option.bind_eq_some_iff] at h
  obtain⟨as,ha,bs,hb,h⟩:=h
  split at h
  ·rename_i hl
   cases h
   refine yv.imp ?_
   rintro vx vy H Q ⟨φ,S,r1,r2,q⟩
   obtain⟨a,us,rfl,h1,h2⟩:=jS S r1 ha
   obtain⟨b,vs,rfl,h3,h4⟩:=jS S r2 hb
   refine⟨a,b,us,vs,rfl,rfl,h1,h3,by rw [<-h2.length,<-h4.length];exact Nat.le_trans hl mil,λp hp=>q _ _ (bK.new hp _) ?_⟩
   exact⟨p,_,rfl,S.nin hp,.inl aX,(h2.append h4).fw S (Fw.new hp)⟩
  ·cases h
 unfold dL at h
 split at h
 next i j=>
  cases h
  refine Ap.imp ?_
  rintro vx vy H Q ⟨φ,S,r1,r2,q⟩
  exact⟨i,j,r1,r2,q _ H (bK.refl H) rfl⟩
 next as bs=>
  split at h
  ·rename_i hl
   cases h
   refine uU.imp ?_
   rintro vx vy H Q ⟨φ,S,⟨a,us,rfl,h1,h2⟩,⟨b,vs,rfl,h3,h4⟩,q⟩
   refine⟨a,b,us,vs,rfl,rfl,(SqT.of h1),(SqT.of h3),by rw [<-h2.length,<-h4.length];exact Nat.le_trans hl mil,λe=>?_,λe=>?_,λp hp=>?_⟩
   ·subst e
    have:as=[]:=by cases as with | nil=>rfl | cons _ _=>cases h2.length
    subst this
    exact q _ H (bK.refl H) ⟨b,vs,rfl,h3,h4⟩
   ·subst e
    have:bs=[]:=by cases bs with | nil=>rfl | cons _ _=>cases h4.length
    subst this
    exact q _ H (bK.refl H) ⟨a,us,rfl,h1,by rw [List.append_nil];exact h2⟩
   ·exact q _ _ (bK.new hp _) ⟨p,_,rfl,aX,(h2.append h4).fw S (Fw.new hp)⟩
  ·cases h
 next as bs=>
  split at h
  ·rename_i hl
   cases h
   refine rp.imp ?_
   rintro vx vy H Q ⟨φ,S,r1,r2,q⟩
   exact⟨as,bs,r1,r2,Nat.le_trans hl mil,q _ H (bK.refl H) rfl⟩
  ·cases h
 next=>exact lists h
theorem xG:OpR X (binaryOp .Mult) (λx y H Q=>∃ l k xs,x=.ref l/\y=.int k/\Rd H l (.lst xs)/\-(2 ^ 63)<=k/\k < 2 ^ 63/\xs.length*k.toNat<=sizeLine/\
 ∀ p,H p=none->Q (.ref p) (upd H p (.lst (List.replicate k.toNat xs).flatten))):=by
 intro pins s σ H x y v u Q I rx ry h
 obtain⟨l,k,xs,rfl,rfl,hH,h1,h2,hz,q⟩:=h
 cases rx
 obtain⟨t,rfl⟩:=ry
 obtain⟨z,its,n,r,e⟩:=hH.ok I.hok
 have hl:=r.length
 have hlen:its.toArray.size*k.toNat<=sizeLine:=by rw [List.size_toArray,<-hl];exact hz
 have hcap:¬ its.toArray.size*k.toNat > (2 ^ 63 - 1) / 8:=by
  have:(sizeLine:Nat)<=(2 ^ 63 - 1) / 8:=by decide
  lia
 have hfit:¬ (!Builtin.List.listFitsIndex k)=true:=by
  rw [fitsIndex_both h1 h2]
  exact Bool.false_ne_true
 have hlong:¬ Builtin.List.listTooLong (its.toArray.size*k.toNat)=true:=by
  rw [qr hlen]
  exact Bool.false_ne_true
 have hnew:List.foldl (λx1 x2=>x1++x2) #[] (List.replicate (if its.toArray.isEmpty=true then 0 else k.toNat) its.toArray)=(List.replicate k.toNat its).flatten.toArray:=by
  have f0:∀ m:Nat,List.foldl (λx1 x2=>x1++x2) #[] (List.replicate m its.toArray)=(List.replicate m its).flatten.toArray:=λm=>by
   have:=jZ its m []
   rw [List.nil_append] at this
   exact this
  rw [f0]
  cases its with
  | nil=>simp
  | cons a r'=>rw [if_neg (by simp)]
 refine wpAny_binaryOp_repeat_ref (T:="list") (U:="int") (by decide) ⟨_,e,rfl⟩ (λs'=>typeIs_int s' k t) noFill_list_mul F.fills_int_mul F.slot_int_rmul repeat_list F.slot_int_index.lookup
  (call_meets F.slot_int_rmul (typeIs_int s k t) F.entry_int_rmul (F.args_int_rmul_2 _ _) (int___rmul___int_list k t l its.toArray n)
    ⟨e,rfl,⟨_,e,rfl⟩,call_meets F.slot_list_mul ⟨_,e,rfl⟩ F.entry_list_mul (F.args_list_mul_2 _ _) (AutoListH.list___mul___list_int_3 l its.toArray n k t hfit hcap hlong) ⟨e,?_⟩⟩)
 rw [hnew]
 exact⟨.ref _,_,I.lnew (t':=s.toks) (r.rep k.toNat) (by rw [oT,Nat.mul_comm];exact hz),rfl,q _ I.fresh⟩
theorem cP (hK:X.K=K:=by rfl):OpD K X (binaryOp .Mult) dO:=by
 subst hK
 refine⟨λst x y d h=>?_⟩
 unfold dO at h
 split at h
 next i j=>
  split at h
  ·rename_i hl
   cases h
   refine xT.imp ?_
   rintro vx vy H Q ⟨φ,S,r1,r2,q⟩
   exact⟨i,j,r1,r2,hl,q _ H (bK.refl H) rfl⟩
  ·cases h
 next as k=>
  split at h
  ·rename_i hl
   cases h
   refine xb.imp ?_
   rintro vx vy H Q ⟨φ,S,⟨a,us,rfl,h1,h2⟩,r2,q⟩
   have hne:us≠[]:=by rintro rfl;cases as with | nil=>exact hl.1 rfl | cons _ _=>cases h2.length
   refine⟨a,k,us,rfl,r2,(SqT.of h1),hne,by rw [<-h2.length];exact hl.2.1,hl.2.2.1,hl.2.2.2,λe=>?_,λ_ p hp=>?_⟩
   ·subst e
    exact q _ H (bK.refl H) ⟨a,us,rfl,h1,by simpa using h2⟩
   ·exact q _ _ (bK.new hp _) ⟨p,_,rfl,aX,(h2.rep _).fw S (Fw.new hp)⟩
  ·cases h
 next as k=>
  split at h
  ·rename_i hl
   cases h
   refine xG.imp ?_
   rintro vx vy H Q ⟨φ,S,⟨a,us,rfl,h0,h1,h2⟩,r2,q⟩
   refine⟨a,k,us,rfl,r2,h1,by lia,by lia,?_,λp hp=>?_⟩
   ·rw [<-h2.length]
    have:as.length*k.toNat<=1000*1000:=Nat.mul_le_mul hl.1 (by lia)
    exact Nat.le_trans this mil
   ·exact q _ _ (bK.new hp _) ⟨p,_,rfl,S.nin hp,.inl aX,(h2.rep _).fw S (Fw.new hp)⟩
  ·cases h
 next=>cases h
noncomputable def dIx (st:Sto) (x y:W):Option D:=match x,y with
 | .d (.str z),.d (.int i)=>if z.length<=1000000 then (atI z.cps.toList i).map λc=>.str ⟨#[c]⟩ else none
 | x,.d (.int i)=>(gz st x).bind λds=>atI ds i
 | _,_=>none
theorem zN {H:Hp}{φ:List Addr}{ds:List D}{vs:List V}{i:Int}{d:D} (r:Rls K H φ ds vs) (e:atI ds i=some d):∃ v,atI vs i=some v/\Rl K H φ d v:=by
 unfold atI at e ⊢
 rw [<-r.length]
 obtain⟨j,e1,e2⟩:=Option.bind_eq_some_iff.mp e
 obtain⟨v,ev,rv⟩:=r.get e2
 exact⟨v,by rw [e1];exact ev,rv⟩
theorem IxR.imp {r r':R2} (h:IxR X r) (m:∀ x y H Q,r' x y H Q->r x y H Q):IxR X r':=λvalue slice pins s σ H x y v u Q I rx ry q hs=>h value slice pins s σ H x y v u Q I rx ry (m _ _ _ _ q) hs
theorem BA (st:Sto) (x y:W) (d:D) (h:dIx st x y=some d) (hK:X.K=K):IxR X (rD K st x y d):=by
 subst hK
 unfold dIx at h
 split at h
 next z i=>
  split at h
  next hl=>
   obtain⟨c,e1,rfl⟩:=Option.map_eq_some_iff.mp h
   refine vb.imp ?_
   rintro vx vy H Q ⟨φ,S,r1,r2,q⟩
   exact .inr (.inr ⟨z,i,c,r1,r2,Nat.le_trans hl mil,e1,q _ H (bK.refl H) rfl⟩)
  next=>cases h
 next x i _=>
  obtain⟨ds,e1,e2⟩:=Option.bind_eq_some_iff.mp h
  refine vb.imp ?_
  rintro vx vy H Q ⟨φ,S,r1,r2,q⟩
  obtain⟨a,vs,rfl,h1,h2⟩:=kP S r1 e1
  obtain⟨v,ev,rv⟩:=zN h2 e2
  rcases h1 with h1 | h1
  ·exact .inl ⟨a,vs,i,v,rfl,r2,h1,ev,q _ H (bK.refl H) rv⟩
  ·exact .inr (.inl ⟨a,vs,i,v,rfl,r2,h1,ev,q _ H (bK.refl H) rv⟩)
 next=>cases h
variable {e a b:Expr}{pos p2:Pos}{f fa fb:Ef}
theorem bM (ha:IE K X a fa) (hb:IE K X b fb) (hs:pi b=true:=by rfl) (hK:X.K=K:=by rfl):IE K X (.Subscript a b pos) (iOp dIx fa fb):=by
 refine⟨λenv st r hr=>?_⟩
 simp only [iOp,Option.bind_eq_some_iff,Option.map_eq_some_iff] at hr
 obtain⟨x,hx,y,hy,d,hd,rfl⟩:=hr
 exact (Bt (BA _ _ _ _ hd hK) (ha.run _ _ _ hx) (hb.run _ _ _ hy) (vO hs)).imp λσ H Q h=>om h
abbrev Pf:=Ev->Sto->Option (Option Int×Sto)
noncomputable def iPn:Pf
 | _,st=>some (none,st)
noncomputable def Bg:W->Option Int
 | .d (.int i)=>some i
 | _=>none
theorem uc {w:W}{i:Int} (h:Bg w=some i):w=.d (.int i):=by
 cases w with
 | h n=>cases h
 | d x=>cases x<;>first | (cases h;done) | (injection h with h;subst h;rfl)
noncomputable def iPs (f:Ef):Pf
 | env,st=>(f env st).bind λr=>(Bg r.1).map λi=>(some i,r.2)
noncomputable def tIO (K:PySem.W.Frag) (env:Ev) (st:Sto) (r:Option Int×Sto):TO:=λσ H Q=>∃ φ,Er K H φ env σ/\Sr K H φ st/\∀ H' φ',Fw φ φ' H H'->Sr K H' φ' r.2->Q r.1 H'
structure IO (K:PySem.W.Frag) (X:Cx) (e:Option Expr) (f:Pf):Prop where
 run:∀ env st r,f env st=some r->PO X e (tIO K env st r)
theorem PO.imp {e:Option Expr}{t t':TO} (h:PO X e t) (m:∀ σ H Q,t' σ H Q->t σ H Q):PO X e t':=λpins s σ H Q I q=>h pins s σ H Q I (m σ H Q q)
theorem tJ:IO K X none iPn:=by
 refine⟨λenv st r hr=>?_⟩
 cases hr
 exact yc.imp λσ H Q ⟨φ,hE,hS,q⟩=>q H φ (Fw.refl φ H) hS
theorem tj (h:IE K X e f):IO K X (some e) (iPs f):=by
 refine⟨λenv st r hr=>?_⟩
 simp only [iPs,Option.bind_eq_some_iff,Option.map_eq_some_iff] at hr
 obtain⟨⟨x,s1⟩,hx,i,hi,rfl⟩:=hr
 cases uc hi
 refine (xV (h.run _ _ _ hx)).imp ?_
 rintro σ H Q ⟨φ,hE,hS,q⟩
 exact⟨φ,hE,hS,λv H1 φ1 f1 s1 w1=>⟨i,w1,q H1 φ1 f1 s1⟩⟩
noncomputable def jO (xs:List D) (lo hi:Option Int):List D:=(xs.drop (HT.sIx xs.length 0 lo)).take (HT.sIx xs.length xs.length hi - HT.sIx xs.length 0 lo)
theorem tm {H:Hp}{φ:List Addr}{ds:List D}{vs:List V} (r:Rls K H φ ds vs) (lo hi:Option Int):Rls K H φ (jO ds lo hi) (oU vs lo hi):=by
 unfold jO oU
 rw [r.length]
 exact (r.drop _).take _
noncomputable def dSl (st:Sto) (x:W) (lo hi:Option Int):Option D:=match x with
 | .d (.tup ds)=>some (.tup (jO ds lo hi))
 | .d (.lst ds)=>some (.lst (jO ds lo hi))
 | .h n=>(lg st n).map λds=>.lst (jO ds lo hi)
 | .d (.scr ns)=>some (.lst (jO (ns.map D.int) lo hi))
 | _=>none
noncomputable def iSl (f:Ef) (lo hi:Pf):Ef
 | env,st=>(f env st).bind λx=>(lo env x.2).bind λl=>(hi env l.2).bind λu=>(dSl u.2 x.1 l.1 u.1).map λd=>(.d d,u.2)
theorem yE {lo hi:Option Expr}{fl fh:Pf} (h:IE K X e f) (hl:IO K X lo fl) (hh:IO K X hi fh) (hK:X.K=K:=by rfl):IE K X (.Subscript e (.Slice lo hi none p2) pos) (iSl f fl fh):=by
 subst hK
 refine⟨λenv st r hr=>?_⟩
 simp only [iSl,Option.bind_eq_some_iff,Option.map_eq_some_iff] at hr
 obtain⟨⟨x,s1⟩,hx,l,hl',u,hu',d,hd,rfl⟩:=hr
 have list:(∀ {H:Hp}{φ:List Addr}{v:V},Sr X.K H φ u.2->Rw X.K H φ x v->∃ a vs ds,v=.ref a/\SqL X.K H a vs/\Rls X.K H φ ds vs/\d=.lst (jO ds l.1 u.1))->PE X (.Subscript e (.Slice lo hi none p2) pos) (tI X.K env st (.d d,u.2)):=λhq=>by
  refine (qG xM (h.run _ _ _ hx) (hl.run _ _ _ hl') (hh.run _ _ _ hu')).imp ?_
  rintro σ H Q ⟨φ,hE,hS,q⟩
  refine⟨φ,hE,hS,λv H1 φ1 f1 s1 w1=>⟨φ1,hE.fw hS f1,s1,λH2 φ2 f2 s2=>⟨φ2,(hE.fw hS f1).fw s1 f2,s2,λH3 φ3 f3 s3=>?_⟩⟩⟩
  obtain⟨a,vs,ds,rfl,h1,h2,rfl⟩:=hq s3 ((w1.fw s1 f2).fw s2 f3)
  refine⟨a,vs,rfl,h1,λp hp=>q _ _ φ3 (((f1.trans f2).trans f3).trans (Fw.new hp)) (s3.new hp) ?_⟩
  exact⟨p,_,rfl,s3.nin hp,.inl aX,(tm h2 _ _).fw s3 (Fw.new hp)⟩
 dsimp only at hd
 unfold dSl at hd
 split at hd
 next ds=>
  cases hd
  refine (qG (zY (K:=X.K) rfl) (h.run _ _ _ hx) (hl.run _ _ _ hl') (hh.run _ _ _ hu')).imp ?_
  rintro σ H Q ⟨φ,hE,hS,q⟩
  refine⟨φ,hE,hS,λv H1 φ1 f1 s1 w1=>⟨φ1,hE.fw hS f1,s1,λH2 φ2 f2 s2=>⟨φ2,(hE.fw hS f1).fw s1 f2,s2,λH3 φ3 f3 s3=>?_⟩⟩⟩
  obtain⟨a,vs,rfl,h1,h2⟩:=(w1.fw s1 f2).fw s2 f3
  refine⟨a,vs,rfl,(SqT.of h1),?_⟩
  by_cases hc:HT.sIx vs.length 0 l.1=0/\HT.sIx vs.length vs.length u.1=vs.length
  ·refine .inr ⟨hc,q _ _ φ3 ((f1.trans f2).trans f3) s3 ⟨a,vs,rfl,h1,?_⟩⟩
   have e:jO ds l.1 u.1=ds:=by
    unfold jO
    rw [h2.length,hc.1,hc.2,List.drop_zero,Nat.sub_zero,<-h2.length,List.take_length]
   rw [e]
   exact h2
  ·exact .inl ⟨hc,λp hp=>q _ _ φ3 (((f1.trans f2).trans f3).trans (Fw.new hp)) (s3.new hp) ⟨p,_,rfl,aX,(tm h2 _ _).fw s3 (Fw.new hp)⟩⟩
 next ds=>
  cases hd
  refine list λ{H φ v} S w=>?_
  obtain⟨a,vs,rfl,h0,h1,h2⟩:=w
  exact⟨a,vs,ds,rfl,.inl h1,h2,rfl⟩
 next n=>
  obtain⟨ds,e1,rfl⟩:=Option.map_eq_some_iff.mp hd
  refine list λ{H φ v} S w=>?_
  obtain⟨a,ea,rfl⟩:=w
  obtain⟨vs,q,rl⟩:=S.atl n a ds ea e1
  exact⟨a,vs,ds,rfl,SqL.of q,rl,rfl⟩
 next ns=>
  cases hd
  refine list λ{H φ v} S w=>?_
  obtain⟨a,rfl,h⟩:=w
  refine⟨a,_,_,rfl,?_,Rls.of_ints ns,rfl⟩
  rcases h with⟨o,h⟩ | h
  ·exact .inl (.inr ⟨o,h⟩)
  ·exact .inr h
 next=>cases hd
end
end L2
namespace L2
open PySem PySem.Spec PyProof.Rows
section
variable {K:PySem.W.Frag}{X:Cx}{pins:List (Addr×Obj)}{σ:St}{H:Hp}{s:Shared}{φ:List Addr}{st:Sto}
theorem fg:∀ (xs ys:List D),((List.range (min xs.length ys.length)).all (λj=>eqD (xs.getD j .non) (ys.getD j .non)) && xs.length==ys.length)=iF xs ys
 | [],[]=>rfl
 | [],y::ys=>by simp [iF]
 | x::xs,[]=>by simp [iF]
 | x::xs,y::ys=>by
  show ((List.range (min (xs.length+1) (ys.length+1))).all (λj=>eqD ((x::xs).getD j .non) ((y::ys).getD j .non)) && (xs.length+1==ys.length+1))=(eqD x y && iF xs ys)
  rw [show min (xs.length+1) (ys.length+1)=min xs.length ys.length+1 by lia,ly,<-fg xs ys]
  have e:(xs.length+1==ys.length+1)=(xs.length==ys.length):=by rw [Bool.eq_iff_iff];simp
  rw [e,Bool.and_assoc]
  rfl
theorem iN {xs ys:List D} (h:xs.length=ys.length):(List.range xs.length).all (λj=>eqD (xs.getD j .non) (ys.getD j .non))=iF xs ys:=by
 rw [<-fg xs ys,<-h,Nat.min_self];simp
theorem qQ:∀ {xs ys:List D},xs.length≠ys.length->iF xs ys=false
 | [],[],h=>absurd rfl h
 | [],_::_,_=>rfl
 | _::_,[],_=>rfl
 | x::xs,y::ys,h=>by
  show (eqD x y && iF xs ys)=false
  rw [qQ (by intro e;apply h;rw [List.length_cons,List.length_cons,e]),Bool.and_false]
theorem yp (I:Inv X pins σ H s) {a:Addr}{vs ws:List V} (h:Rd H a (.lst vs)) (h':Rd H a (.lst ws)):vs=ws:=I.list_inj (.inl h) (.inl h')
theorem yT {x:V} (h:eX x=true):eqV x x=true:=by
 cases x<;>first | (cases h;done) | (simp [eqV];done)
theorem wJ {d e:D}{v:V} (f1:dA d=true) (f2:dA e=true) (r1:Rl K H φ d v) (r2:Rl K H φ e v):eqD d e=true:=by
 obtain⟨e1,g1⟩:=eE f1 r1
 obtain⟨e2,_⟩:=eE f2 r2
 rw [<-kZ f1 f2,<-e1,<-e2]
 exact yT g1
theorem lr {n:Nat}{d e:D}{v:V} (f:dA d=true) (r1:Rl K H φ d v) (r2:Rl K H φ e v) (o2:okD n e=true):eqD d e=true:=by
 have g1:=(eE f r1).2
 cases e with
 | tup es=>obtain⟨b,us,q,_⟩:=r2;rw [q] at g1;cases g1
 | lst es=>obtain⟨b,us,q,_⟩:=r2;rw [q] at g1;cases g1
 | _=>first | exact wJ f rfl r1 r2 | (cases n<;>cases o2;done)
theorem sO (I:Inv X pins σ H s):∀ (n:Nat) {d e:D}{v:V},Rl X.K H φ d v->Rl X.K H φ e v->okD n d=true->okD n e=true->eqD d e=true:=by
 intro n
 induction n with
 | zero=>
  intro d e v r1 r2 o1 o2
  refine lr ?_ r1 r2 o2
  cases d<;>first | rfl | (cases o1;done)
 | succ n ih=>
  have lists:∀ {ds es:List D}{vs:List V},Rls X.K H φ ds vs->Rls X.K H φ es vs->(∀ d ∈ ds,okD n d=true)->(∀ d ∈ es,okD n d=true)->iF ds es=true:=by
   intro ds
   induction ds with
   | nil=>
    intro es vs r1 r2 _ _
    cases r1
    cases es with
    | nil=>rfl
    | cons e es=>obtain⟨_,_,q,_⟩:=r2;cases q
   | cons d ds ihd=>
    intro es vs r1 r2 o1 o2
    obtain⟨v,r,rfl,a1,a2⟩:=r1
    cases es with
    | nil=>cases r2
    | cons e es=>
     obtain⟨v',r',q,b1,b2⟩:=r2
     cases q
     show (eqD d e && iF ds es)=true
     rw [ih a1 b1 (o1 d List.mem_cons_self) (o2 e List.mem_cons_self),ihd a2 b2 (λx hx=>o1 x (List.mem_cons_of_mem _ hx)) (λx hx=>o2 x (List.mem_cons_of_mem _ hx))]
     rfl
  intro d e v r1 r2 o1 o2
  cases d with
  | tup ds=>
   obtain⟨a,vs,rfl,h1,h2⟩:=r1
   cases e with
   | tup es=>
    obtain⟨b,us,q,h3,h4⟩:=r2
    cases q
    rw [I.tuple_inj (SqT.of h3) (SqT.of h1)] at h4
    exact lists h2 h4 (List.all_eq_true.mp o1) (List.all_eq_true.mp o2)
   | lst es=>
    obtain⟨b,us,q,_,h3,h4⟩:=r2
    cases q
    obtain⟨_,_,p1,_⟩:=I.tuple (SqT.of h1)
    obtain⟨_,_,p2,_⟩:=I.list (.inl h3)
    exact absurd rfl (SeqAt.ne_of_list_tuple p2.isList p1)
   | _=>first | (cases o2;done) | (cases r2;done)
  | lst ds=>
   obtain⟨a,vs,rfl,h0,h1,h2⟩:=r1
   cases e with
   | lst es=>
    obtain⟨b,us,q,_,h3,h4⟩:=r2
    cases q
    rw [yp I h3 h1] at h4
    exact lists h2 h4 (List.all_eq_true.mp o1) (List.all_eq_true.mp o2)
   | tup es=>
    obtain⟨b,us,q,h3,h4⟩:=r2
    cases q
    obtain⟨_,_,p1,_⟩:=I.tuple (SqT.of h3)
    obtain⟨_,_,p2,_⟩:=I.list (.inl h1)
    exact absurd rfl (SeqAt.ne_of_list_tuple p2.isList p1)
   | _=>first | (cases o2;done) | (cases r2;done)
  | non=>exact lr rfl r1 r2 o2
  | bl b=>exact lr rfl r1 r2 o2
  | int b=>exact lr rfl r1 r2 o2
  | str b=>exact lr rfl r1 r2 o2
  | ty b=>cases o1
  | scr b=>cases o1
  | dct=>cases o1
theorem eN {ds:List D}{vs:List V}{us:List Value} (r:Rls K H φ ds vs) (rv:aT vs us):∀ (j:Nat) (h:j < us.length),∃ v,Rl K H φ (ds.getD j .non) v/\aW v us[j]/\ds.getD j .non ∈ ds:=by
 intro j h
 obtain⟨h',q⟩:=rv.at j h
 have hd:j < ds.length:=by rw [r.length];exact h'
 have e:ds[j]?=some ds[j]:=List.getElem?_eq_getElem hd
 obtain⟨v,ev,rl⟩:=r.get e
 rw [List.getElem?_eq_getElem h'] at ev
 cases ev
 refine⟨_,?_,q,?_⟩
 ·rw [List.getD,e];exact rl
 ·rw [List.getD,e];exact List.getElem_mem hd
theorem yY (I:Inv X pins σ H s):∀ (n:Nat) {A:Around}{d e:D}{v u:V}{vv uu:Value},Rl X.K H φ d v->Rl X.K H φ e u->aW v vv->aW u uu->okD n d=true->okD n e=true->A.units+n < cLine->SeqAt.EqAt A s vv uu (eqD d e):=by
 have flat:∀ {A:Around}{d e:D}{v u:V}{vv uu:Value},dA d=true->dA e=true->Rl X.K H φ d v->Rl X.K H φ e u->aW v vv->aW u uu->SeqAt.EqAt A s vv uu (eqD d e):=by
  intro A d e v u vv uu f1 f2 r1 r2 q1 q2
  obtain⟨e1,g1⟩:=eE f1 r1
  obtain⟨e2,g2⟩:=eE f2 r2
  rw [<-kZ f1 f2,<-e1,<-e2]
  exact rg q1 q2 g1 g2
 intro n
 induction n with
 | zero=>
  intro A d e v u vv uu r1 r2 q1 q2 o1 o2 hu
  refine flat ?_ ?_ r1 r2 q1 q2
  ·cases d<;>first | rfl | cases o1
  ·cases e<;>first | rfl | cases o2
 | succ n ih=>
  intro A d e v u vv uu r1 r2 q1 q2 o1 o2 hu
  have hu0:A.units < cLine:=by lia
  have hu1:A.in1.units+n < cLine:=by show A.units+1+n < cLine;lia
  cases d with
  | tup ds=>
   obtain⟨a,vs,rfl,h1,h2⟩:=r1
   cases q1
   obtain⟨its,rv,p1,_⟩:=I.tuple (SqT.of h1)
   cases e with
   | tup es=>
    obtain⟨b,us,rfl,h3,h4⟩:=id r2
    cases q2
    by_cases hab:a=b
    ·subst hab
     rw [sO I (n+1) (d:=.tup ds) ⟨a,vs,rfl,h1,h2⟩ r2 o1 o2]
     exact SeqAt.EqAt.same _
    ·obtain⟨its2,rv2,p2,_⟩:=I.tuple (SqT.of h3)
     have z:=SeqAt.RcAt.tuples (A:=A) (e:=λj=>eqD (ds.getD j .non) (es.getD j .non)) p1 p2 hu0 λj g1 g2=>by
      obtain⟨v1,k1,k2,k3⟩:=eN h2 rv j (by simpa using g1)
      obtain⟨v2,k4,k5,k6⟩:=eN h4 rv2 j (by simpa using g2)
      exact ih k1 k4 (by simpa using k2) (by simpa using k5) (List.all_eq_true.mp o1 _ k3) (List.all_eq_true.mp o2 _ k6) hu1
     have e1:its.toArray.size=ds.length:=by simp [<-rv.length,h2.length]
     have e2:its2.toArray.size=es.length:=by simp [<-rv2.length,h4.length]
     rw [e1,e2,fg] at z
     exact SeqAt.EqAt.of_refs hab z
   | lst es=>
    obtain⟨b,us,rfl,_,h3,h4⟩:=id r2
    cases q2
    obtain⟨its2,rv2,p2,_⟩:=I.list (.inl h3)
    exact SeqAt.EqAt.tuple_list p1 p2.isList hu0
   | non=>cases r2;cases q2;exact SeqAt.EqAt.tuple_none p1 hu0
   | bl x=>cases r2;cases q2;exact SeqAt.EqAt.tuple_bool x p1 hu0
   | int x=>cases r2;obtain⟨t,rfl⟩:=q2;exact SeqAt.EqAt.tuple_int x t p1 hu0
   | str x=>cases r2;obtain⟨t,rfl⟩:=q2;exact SeqAt.EqAt.tuple_str x t p1 hu0
   | ty _=>cases o2
   | scr _=>cases o2
   | dct=>cases o2
  | lst ds=>
   obtain⟨a,vs,rfl,h0,h1,h2⟩:=r1
   cases q1
   obtain⟨its,rv,p1,_⟩:=I.list (.inl h1)
   cases e with
   | lst es=>
    obtain⟨b,us,rfl,_,h3,h4⟩:=id r2
    cases q2
    by_cases hab:a=b
    ·subst hab
     rw [sO I (n+1) (d:=.lst ds) ⟨a,vs,rfl,h0,h1,h2⟩ r2 o1 o2]
     exact SeqAt.EqAt.same _
    ·obtain⟨its2,rv2,p2,_⟩:=I.list (.inl h3)
     have e1:its.toArray.size=ds.length:=by simp [<-rv.length,h2.length]
     have e2:its2.toArray.size=es.length:=by simp [<-rv2.length,h4.length]
     by_cases hl:ds.length=es.length
     ·have z:=SeqAt.RcAt.lists (A:=A) (e:=λj=>eqD (ds.getD j .non) (es.getD j .non)) p1.isList p2.isList (by rw [e1,e2,hl]) hu0 λj g1 g2=>by
       obtain⟨v1,k1,k2,k3⟩:=eN h2 rv j (by simpa using g1)
       obtain⟨v2,k4,k5,k6⟩:=eN h4 rv2 j (by simpa using g2)
       exact ih k1 k4 (by simpa using k2) (by simpa using k5) (List.all_eq_true.mp o1 _ k3) (List.all_eq_true.mp o2 _ k6) hu1
      rw [e1,iN hl] at z
      exact SeqAt.EqAt.of_refs hab z
     ·have z:=SeqAt.RcAt.lists_lengths (A:=A) p1.isList p2.isList (by rw [e1,e2];simpa using hl) hu0
      show SeqAt.EqAt A s _ _ (iF ds es)
      rw [qQ hl]
      exact SeqAt.EqAt.of_refs hab z
   | tup es=>
    obtain⟨b,us,rfl,h3,h4⟩:=id r2
    cases q2
    obtain⟨its2,rv2,p2,_⟩:=I.tuple (SqT.of h3)
    exact SeqAt.EqAt.list_tuple p1.isList p2 hu0
   | non=>cases r2;cases q2;exact SeqAt.EqAt.list_none p1.isList hu0
   | bl x=>cases r2;cases q2;exact SeqAt.EqAt.list_bool x p1.isList hu0
   | int x=>cases r2;obtain⟨t,rfl⟩:=q2;exact SeqAt.EqAt.list_int x t p1.isList hu0
   | str x=>cases r2;obtain⟨t,rfl⟩:=q2;exact SeqAt.EqAt.list_str x t p1.isList hu0
   | ty _=>cases o2
   | scr _=>cases o2
   | dct=>cases o2
  | non=>
   cases r1;cases q1
   cases e with
   | tup es=>obtain⟨b,us,rfl,h3,h4⟩:=r2;cases q2;obtain⟨_,_,p2,_⟩:=I.tuple (SqT.of h3);exact SeqAt.EqAt.none_tuple p2 hu0
   | lst es=>obtain⟨b,us,rfl,_,h3,h4⟩:=r2;cases q2;obtain⟨_,_,p2,_⟩:=I.list (.inl h3);exact SeqAt.EqAt.none_list p2.isList hu0
   | _=>first | (cases o2;done) | exact flat rfl rfl (d:=.non) rfl r2 (v:=.non) rfl q2
  | bl x=>
   cases r1;cases q1
   cases e with
   | tup es=>obtain⟨b,us,rfl,h3,h4⟩:=r2;cases q2;obtain⟨_,_,p2,_⟩:=I.tuple (SqT.of h3);exact SeqAt.EqAt.bool_tuple x p2 hu0
   | lst es=>obtain⟨b,us,rfl,_,h3,h4⟩:=r2;cases q2;obtain⟨_,_,p2,_⟩:=I.list (.inl h3);exact SeqAt.EqAt.bool_list x p2.isList hu0
   | _=>first | (cases o2;done) | exact flat rfl rfl (d:=.bl x) rfl r2 (v:=.bl x) rfl q2
  | int x=>
   cases r1;obtain⟨t1,rfl⟩:=q1
   cases e with
   | tup es=>obtain⟨b,us,rfl,h3,h4⟩:=r2;cases q2;obtain⟨_,_,p2,_⟩:=I.tuple (SqT.of h3);exact SeqAt.EqAt.int_tuple x t1 p2 hu0
   | lst es=>obtain⟨b,us,rfl,_,h3,h4⟩:=r2;cases q2;obtain⟨_,_,p2,_⟩:=I.list (.inl h3);exact SeqAt.EqAt.int_list x t1 p2.isList hu0
   | _=>first | (cases o2;done) | exact flat rfl rfl (d:=.int x) rfl r2 (v:=.int x) ⟨t1,rfl⟩ q2
  | str x=>
   cases r1;obtain⟨t1,rfl⟩:=q1
   cases e with
   | tup es=>obtain⟨b,us,rfl,h3,h4⟩:=r2;cases q2;obtain⟨_,_,p2,_⟩:=I.tuple (SqT.of h3);exact SeqAt.EqAt.str_tuple x t1 p2 hu0
   | lst es=>obtain⟨b,us,rfl,_,h3,h4⟩:=r2;cases q2;obtain⟨_,_,p2,_⟩:=I.list (.inl h3);exact SeqAt.EqAt.str_list x t1 p2.isList hu0
   | _=>first | (cases o2;done) | exact flat rfl rfl (d:=.str x) rfl r2 (v:=.str x) ⟨t1,rfl⟩ q2
  | ty _=>cases o1
  | scr _=>cases o1
  | dct=>cases o1
theorem zI {A:Around}{y x:V}{u v:Value} (ry:aW y u) (rx:aW x v) (fy:eX y=true) (fx:eX x=true):SeqAt.RcAt A s u v (eqV y x):=by
 cases y with
 | non=>
  cases ry
  cases x with
  | non=>cases rx;exact SeqAt.RcAt.none_none
  | bl b=>cases rx;exact SeqAt.RcAt.none_bool b
  | int b=>obtain⟨t,rfl⟩:=rx;exact SeqAt.RcAt.none_int b t
  | str b=>obtain⟨t,rfl⟩:=rx;exact SeqAt.RcAt.none_str b t
  | _=>cases fx
 | bl a=>
  cases ry
  cases x with
  | non=>cases rx;exact SeqAt.RcAt.bool_none a
  | bl b=>cases rx;exact SeqAt.RcAt.bool_bool a b
  | int b=>obtain⟨t,rfl⟩:=rx;exact SeqAt.RcAt.bool_int a b t
  | str b=>obtain⟨t,rfl⟩:=rx;exact SeqAt.RcAt.bool_str a b t
  | _=>cases fx
 | int a=>
  obtain⟨t',rfl⟩:=ry
  cases x with
  | non=>cases rx;exact SeqAt.RcAt.int_none a t'
  | bl b=>cases rx;exact SeqAt.RcAt.int_bool a t' b
  | int b=>obtain⟨t,rfl⟩:=rx;exact SeqAt.RcAt.int_int a t' b t
  | str b=>obtain⟨t,rfl⟩:=rx;exact SeqAt.RcAt.int_str a t' b t
  | _=>cases fx
 | str a=>
  obtain⟨t',rfl⟩:=ry
  cases x with
  | non=>cases rx;exact SeqAt.RcAt.str_none a t'
  | bl b=>cases rx;exact SeqAt.RcAt.str_bool a t' b
  | int b=>obtain⟨t,rfl⟩:=rx;exact SeqAt.RcAt.str_int a t' b t
  | str b=>obtain⟨t,rfl⟩:=rx;exact SeqAt.RcAt.str_str a t' b t
  | _=>cases fx
 | _=>cases fy
theorem uM {A:Around}{y x:V}{u v:Value} (ry:aW y u) (rx:aW x v) (fy:eX y=true) (fx:eX x=true):SeqAt.RcNeAt A s u v (!eqV y x):=by
 cases y with
 | non=>
  cases ry
  cases x with
  | non=>cases rx;exact SeqAt.RcNeAt.none_none
  | bl b=>cases rx;exact SeqAt.RcNeAt.none_bool b
  | int b=>obtain⟨t,rfl⟩:=rx;exact SeqAt.RcNeAt.none_int b t
  | str b=>obtain⟨t,rfl⟩:=rx;exact SeqAt.RcNeAt.none_str b t
  | _=>cases fx
 | bl a=>
  cases ry
  cases x with
  | non=>cases rx;exact SeqAt.RcNeAt.bool_none a
  | bl b=>cases rx;exact SeqAt.RcNeAt.bool_bool a b
  | int b=>obtain⟨t,rfl⟩:=rx;exact SeqAt.RcNeAt.bool_int a b t
  | str b=>obtain⟨t,rfl⟩:=rx;exact SeqAt.RcNeAt.bool_str a b t
  | _=>cases fx
 | int a=>
  obtain⟨t',rfl⟩:=ry
  cases x with
  | non=>cases rx;exact SeqAt.RcNeAt.int_none a t'
  | bl b=>cases rx;exact SeqAt.RcNeAt.int_bool a t' b
  | int b=>obtain⟨t,rfl⟩:=rx;exact SeqAt.RcNeAt.int_int a t' b t
  | str b=>obtain⟨t,rfl⟩:=rx;exact SeqAt.RcNeAt.int_str a t' b t
  | _=>cases fx
 | str a=>
  obtain⟨t',rfl⟩:=ry
  cases x with
  | non=>cases rx;exact SeqAt.RcNeAt.str_none a t'
  | bl b=>cases rx;exact SeqAt.RcNeAt.str_bool a t' b
  | int b=>obtain⟨t,rfl⟩:=rx;exact SeqAt.RcNeAt.str_int a t' b t
  | str b=>obtain⟨t,rfl⟩:=rx;exact SeqAt.RcNeAt.str_str a t' b t
  | _=>cases fx
 | _=>cases fy
inductive Kin where
 | fl (d:D) | tp (ds:List D) | ls (ds:List D)
noncomputable def pL (st:Sto):W->Option Kin
 | .d (.tup ds)=>some (.tp ds)
 | .d (.lst ds)=>some (.ls ds)
 | .h n=>(lg st n).map .ls
 | .d .non=>some (.fl .non)
 | .d (.bl b)=>some (.fl (.bl b))
 | .d (.int i)=>some (.fl (.int i))
 | .d (.str x)=>some (.fl (.str x))
 | _=>none
noncomputable def eqK:Kin->Kin->Option Bool
 | .fl a,.fl b=>some (eqD a b)
 | .tp as,.tp bs=>if (as.isEmpty || bs.isEmpty)=true then some (as.isEmpty && bs.isEmpty) else if as.all (okD 60)=true/\bs.all (okD 60)=true then some (iF as bs) else none
 | .ls as,.ls bs=>if as.length=bs.length then (if as.all (okD 60)=true/\bs.all (okD 60)=true then some (iF as bs) else none) else some false
 | .fl _,.tp _=>some false
 | .tp _,.fl _=>some false
 | .fl _,.ls _=>some false
 | .ls _,.fl _=>some false
 | .tp _,.ls _=>some false
 | .ls _,.tp _=>some false
noncomputable def dEq (st:Sto) (x y:W):Option D:=(pL st x).bind λa=>(pL st y).bind λb=>(eqK a b).map λk=>.bl k
noncomputable def dNe (st:Sto) (x y:W):Option D:=(pL st x).bind λa=>(pL st y).bind λb=>(eqK a b).map λk=>.bl (!k)
noncomputable def zk (K:PySem.W.Frag) (H:Hp) (φ:List Addr):Kin->V->Prop
 | .fl d,v=>dA d=true/\Rl K H φ d v
 | .tp ds,v=>∃ a vs,v=.ref a/\SqT K H a vs/\Rls K H φ ds vs
 | .ls ds,v=>∃ a vs,v=.ref a/\Rd H a (.lst vs)/\Rls K H φ ds vs
theorem kU {w:W}{v:V}{k:Kin} (S:Sr K H φ st) (r:Rw K H φ w v) (e:pL st w=some k):zk K H φ k v:=by
 cases w with
 | h n=>
  obtain⟨a,ea,rfl⟩:=r
  obtain⟨ds,e1,rfl⟩:=Option.map_eq_some_iff.mp e
  obtain⟨vs,q,rl⟩:=S.atl n a ds ea e1
  exact⟨a,vs,rfl,.inl q,rl⟩
 | d x=>
  cases x with
  | tup es=>cases e;obtain⟨a,vs,rfl,h1,h2⟩:=r;exact⟨a,vs,rfl,SqT.of h1,h2⟩
  | lst es=>cases e;obtain⟨a,vs,rfl,h0,h1,h2⟩:=r;exact⟨a,vs,rfl,h1,h2⟩
  | non=>cases e;exact⟨rfl,r⟩
  | bl b=>cases e;exact⟨rfl,r⟩
  | int b=>cases e;exact⟨rfl,r⟩
  | str b=>cases e;exact⟨rfl,r⟩
  | _=>cases e
theorem zQ {A:Around}{k:Nat} (hr:bo k A):A.in1.units+60 < cLine:=by
 have:=hr.un
 show A.units+1+60 < cLine
 lia
theorem uY {k:Nat} (hr:bo k X.A) (I:Inv X pins σ H s) {a b:Kin}{v u:V}{vv uu:Value}{r:Bool} (ra:zk X.K H φ a v) (rb:zk X.K H φ b u) (qa:aW v vv) (qb:aW u uu) (e:eqK a b=some r) :
  SeqAt.RcAt X.A s vv uu r/\SeqAt.RcNeAt X.A s vv uu (!r):=by
 have hu0:=hr.units0
 have items:∀ {ds es:List D}{vs us:List V}{its its2:List Value},Rls X.K H φ ds vs->Rls X.K H φ es us->aT vs its->aT us its2->ds.all (okD 60)=true->es.all (okD 60)=true->
   ∀ j (g1:j < its.toArray.size) (g2:j < its2.toArray.size),SeqAt.EqAt X.A.in1 s its.toArray[j] its2.toArray[j] (eqD (ds.getD j .non) (es.getD j .non)):=by
  intro ds es vs us its its2 h2 h4 rv rv2 o1 o2 j g1 g2
  obtain⟨v1,k1,k2,k3⟩:=eN h2 rv j (by simpa using g1)
  obtain⟨v2,k4,k5,k6⟩:=eN h4 rv2 j (by simpa using g2)
  exact yY I 60 k1 k4 (by simpa using k2) (by simpa using k5) (List.all_eq_true.mp o1 _ k3) (List.all_eq_true.mp o2 _ k6) (zQ hr)
 match a,b,e with
 | .fl d,.fl d',e=>
  cases e
  obtain⟨f1,r1⟩:=ra
  obtain⟨f2,r2⟩:=rb
  obtain⟨e1,g1⟩:=eE f1 r1
  obtain⟨e2,g2⟩:=eE f2 r2
  rw [<-kZ f1 f2,<-e1,<-e2]
  exact⟨zI qa qb g1 g2,uM qa qb g1 g2⟩
 | .tp ds,.tp es,e=>
  simp only [eqK] at e
  obtain⟨a,vs,rfl,h1,h2⟩:=ra
  obtain⟨b,us,rfl,h3,h4⟩:=rb
  cases qa;cases qb
  obtain⟨its,rv,p1,_⟩:=I.tuple h1
  obtain⟨its2,rv2,p2,_⟩:=I.tuple h3
  have e1:its.toArray.size=ds.length:=by simp [<-rv.length,h2.length]
  have e2:its2.toArray.size=es.length:=by simp [<-rv2.length,h4.length]
  split at e
  ·rename_i hc
   cases e
   have hv:∀ j (g1:j < its.toArray.size) (g2:j < its2.toArray.size),SeqAt.EqAt X.A.in1 s its.toArray[j] its2.toArray[j] (eqD (ds.getD j .non) (es.getD j .non)):=λj g1 g2=>by
    rw [e1] at g1
    rw [e2] at g2
    rw [Bool.or_eq_true] at hc
    rcases hc with hc | hc
    ·rw [List.isEmpty_iff.mp hc] at g1;exact absurd g1 (Nat.not_lt_zero _)
    ·rw [List.isEmpty_iff.mp hc] at g2;exact absurd g2 (Nat.not_lt_zero _)
   have z:=SeqAt.RcAt.tuples (A:=X.A) p1 p2 hu0 hv
   have z':=SeqAt.RcNeAt.tuples (A:=X.A) p1 p2 hu0 hv
   rw [e1,e2,fg] at z z'
   have e3:iF ds es=(ds.isEmpty && es.isEmpty):=by
    cases ds with
    | nil=>cases es<;>rfl
    | cons _ _=>cases es with
     | nil=>rfl
     | cons _ _=>cases hc
   rw [e3] at z z'
   exact⟨z,z'⟩
  ·split at e
   ·rename_i hc
    cases e
    have z:=SeqAt.RcAt.tuples (A:=X.A) p1 p2 hu0 (items h2 h4 rv rv2 hc.1 hc.2)
    have z':=SeqAt.RcNeAt.tuples (A:=X.A) p1 p2 hu0 (items h2 h4 rv rv2 hc.1 hc.2)
    rw [e1,e2,fg] at z z'
    exact⟨z,z'⟩
   ·cases e
 | .ls ds,.ls es,e=>
  simp only [eqK] at e
  obtain⟨a,vs,rfl,h1,h2⟩:=ra
  obtain⟨b,us,rfl,h3,h4⟩:=rb
  cases qa;cases qb
  obtain⟨its,rv,p1,_⟩:=I.list (.inl h1)
  obtain⟨its2,rv2,p2,_⟩:=I.list (.inl h3)
  have e1:its.toArray.size=ds.length:=by simp [<-rv.length,h2.length]
  have e2:its2.toArray.size=es.length:=by simp [<-rv2.length,h4.length]
  split at e
  ·rename_i hl
   split at e
   ·rename_i hc
    cases e
    have z:=SeqAt.RcAt.lists (A:=X.A) p1.isList p2.isList (by rw [e1,e2,hl]) hu0 (items h2 h4 rv rv2 hc.1 hc.2)
    have z':=SeqAt.RcNeAt.lists (A:=X.A) p1.isList p2.isList (by rw [e1,e2,hl]) hu0 (items h2 h4 rv rv2 hc.1 hc.2)
    rw [e1,iN hl] at z z'
    exact⟨z,z'⟩
   ·cases e
  ·rename_i hl
   cases e
   have z:=SeqAt.RcAt.lists_lengths (A:=X.A) p1.isList p2.isList (by rw [e1,e2];simpa using hl) hu0
   have z':=SeqAt.RcNeAt.lists_lengths (A:=X.A) p1.isList p2.isList (by rw [e1,e2];simpa using hl) hu0
   exact⟨z,z'⟩
 | .fl d,.tp es,e=>
  cases e
  obtain⟨f1,r1⟩:=ra
  obtain⟨b,us,rfl,h3,h4⟩:=rb
  cases qb
  obtain⟨its2,rv2,p2,_⟩:=I.tuple h3
  cases d with
  | non=>cases r1;cases qa;exact⟨SeqAt.RcAt.none_tuple p2 hu0,SeqAt.RcNeAt.none_tuple p2 hu0⟩
  | bl x=>cases r1;cases qa;exact⟨SeqAt.RcAt.bool_tuple x p2 hu0,SeqAt.RcNeAt.bool_tuple x p2 hu0⟩
  | int x=>cases r1;obtain⟨t,rfl⟩:=qa;exact⟨SeqAt.RcAt.int_tuple x t p2 hu0,SeqAt.RcNeAt.int_tuple x t p2 hu0⟩
  | str x=>cases r1;obtain⟨t,rfl⟩:=qa;exact⟨SeqAt.RcAt.str_tuple x t p2 hu0,SeqAt.RcNeAt.str_tuple x t p2 hu0⟩
  | _=>cases f1
 | .tp es,.fl d,e=>
  cases e
  obtain⟨f1,r1⟩:=rb
  obtain⟨b,us,rfl,h3,h4⟩:=ra
  cases qa
  obtain⟨its2,rv2,p2,_⟩:=I.tuple h3
  cases d with
  | non=>cases r1;cases qb;exact⟨SeqAt.RcAt.tuple_none p2 hu0,SeqAt.RcNeAt.tuple_none p2 hu0⟩
  | bl x=>cases r1;cases qb;exact⟨SeqAt.RcAt.tuple_bool x p2 hu0,SeqAt.RcNeAt.tuple_bool x p2 hu0⟩
  | int x=>cases r1;obtain⟨t,rfl⟩:=qb;exact⟨SeqAt.RcAt.tuple_int x t p2 hu0,SeqAt.RcNeAt.tuple_int x t p2 hu0⟩
  | str x=>cases r1;obtain⟨t,rfl⟩:=qb;exact⟨SeqAt.RcAt.tuple_str x t p2 hu0,SeqAt.RcNeAt.tuple_str x t p2 hu0⟩
  | _=>cases f1
 | .fl d,.ls es,e=>
  cases e
  obtain⟨f1,r1⟩:=ra
  obtain⟨b,us,rfl,h3,h4⟩:=rb
  cases qb
  obtain⟨its2,rv2,p2,_⟩:=I.list (.inl h3)
  replace p2:=p2.isList
  cases d with
  | non=>cases r1;cases qa;exact⟨SeqAt.RcAt.none_list p2 hu0,SeqAt.RcNeAt.none_list p2 hu0⟩
  | bl x=>cases r1;cases qa;exact⟨SeqAt.RcAt.bool_list x p2 hu0,SeqAt.RcNeAt.bool_list x p2 hu0⟩
  | int x=>cases r1;obtain⟨t,rfl⟩:=qa;exact⟨SeqAt.RcAt.int_list x t p2 hu0,SeqAt.RcNeAt.int_list x t p2 hu0⟩
  | str x=>cases r1;obtain⟨t,rfl⟩:=qa;exact⟨SeqAt.RcAt.str_list x t p2 hu0,SeqAt.RcNeAt.str_list x t p2 hu0⟩
  | _=>cases f1
 | .ls es,.fl d,e=>
  cases e
  obtain⟨f1,r1⟩:=rb
  obtain⟨b,us,rfl,h3,h4⟩:=ra
  cases qa
  obtain⟨its2,rv2,p2,_⟩:=I.list (.inl h3)
  replace p2:=p2.isList
  cases d with
  | non=>cases r1;cases qb;exact⟨SeqAt.RcAt.list_none p2 hu0,SeqAt.RcNeAt.list_none p2 hu0⟩
  | bl x=>cases r1;cases qb;exact⟨SeqAt.RcAt.list_bool x p2 hu0,SeqAt.RcNeAt.list_bool x p2 hu0⟩
  | int x=>cases r1;obtain⟨t,rfl⟩:=qb;exact⟨SeqAt.RcAt.list_int x t p2 hu0,SeqAt.RcNeAt.list_int x t p2 hu0⟩
  | str x=>cases r1;obtain⟨t,rfl⟩:=qb;exact⟨SeqAt.RcAt.list_str x t p2 hu0,SeqAt.RcNeAt.list_str x t p2 hu0⟩
  | _=>cases f1
 | .tp ds,.ls es,e=>
  cases e
  obtain⟨a,vs,rfl,h1,h2⟩:=ra
  obtain⟨b,us,rfl,h3,h4⟩:=rb
  cases qa;cases qb
  obtain⟨its,rv,p1,_⟩:=I.tuple h1
  obtain⟨its2,rv2,p2,_⟩:=I.list (.inl h3)
  exact⟨SeqAt.RcAt.tuple_list p1 p2.isList hu0,SeqAt.RcNeAt.tuple_list p1 p2.isList hu0⟩
 | .ls ds,.tp es,e=>
  cases e
  obtain⟨a,vs,rfl,h1,h2⟩:=ra
  obtain⟨b,us,rfl,h3,h4⟩:=rb
  cases qa;cases qb
  obtain⟨its,rv,p1,_⟩:=I.list (.inl h1)
  obtain⟨its2,rv2,p2,_⟩:=I.tuple h3
  exact⟨SeqAt.RcAt.list_tuple p1.isList p2 hu0,SeqAt.RcNeAt.list_tuple p1.isList p2 hu0⟩
theorem dP {k:Nat} (hr:bo k X.A) (hK:X.K=K:=by rfl):OpD K X (compareOp .Eq) dEq:=by
 subst hK
 refine⟨λst x y d h=>?_⟩
 simp only [dEq,Option.bind_eq_some_iff,Option.map_eq_some_iff] at h
 obtain⟨a,ha,b,hb,r,e,rfl⟩:=h
 intro pins s σ H vx vy v u Q I rx ry q
 obtain⟨φ,S,r1,r2,q⟩:=q
 exact (uY hr I (kU S r1 ha) (kU S r2 hb) rx ry e).1 _ _ _ _ ⟨.bl r,H,I,rfl,q _ H (bK.refl H) rfl⟩
theorem nR {k:Nat} (hr:bo k X.A) (hK:X.K=K:=by rfl):OpD K X (compareOp .NotEq) dNe:=by
 subst hK
 refine⟨λst x y d h=>?_⟩
 simp only [dNe,Option.bind_eq_some_iff,Option.map_eq_some_iff] at h
 obtain⟨a,ha,b,hb,r,e,rfl⟩:=h
 intro pins s σ H vx vy v u Q I rx ry q
 obtain⟨φ,S,r1,r2,q⟩:=q
 exact (uY hr I (kU S r1 ha) (kU S r2 hb) rx ry e).2 _ _ _ _ ⟨.bl (!r),H,I,rfl,q _ H (bK.refl H) rfl⟩
end
end L2
namespace L2
open PySem PySem.Spec PyProof.Rows
section
variable {K:PySem.W.Frag}{X:Cx}
noncomputable def aQ:List D->Option (List Int)
 | []=>some []
 | .int i::ds=>(aQ ds).map λr=>i::r
 | _=>none
theorem cE:∀ {ds:List D}{ns:List Int},aQ ds=some ns->ds=ns.map D.int
 | [],_,h=>by cases h;rfl
 | .int i::ds,_,h=>by
  obtain⟨r,e,rfl⟩:=Option.map_eq_some_iff.mp h
  rw [cE e];rfl
 | .non::_,_,h=>by cases h
 | .bl _::_,_,h=>by cases h
 | .str _::_,_,h=>by cases h
 | .ty _::_,_,h=>by cases h
 | .dct::_,_,h=>by cases h
 | .scr _::_,_,h=>by cases h
 | .tup _::_,_,h=>by cases h
 | .lst _::_,_,h=>by cases h
theorem bp:∀ (ns:List Int),aQ (ns.map D.int)=some ns
 | []=>rfl
 | n::ns=>by rw [List.map_cons,aQ,bp ns];rfl
noncomputable def jV:List D->Option (List Bool)
 | []=>some []
 | .bl i::ds=>(jV ds).map λr=>i::r
 | _=>none
theorem ko:∀ {ds:List D}{ns:List Bool},jV ds=some ns->ds=ns.map D.bl
 | [],_,h=>by cases h;rfl
 | .bl i::ds,_,h=>by
  obtain⟨r,e,rfl⟩:=Option.map_eq_some_iff.mp h
  rw [ko e];rfl
 | .non::_,_,h=>by cases h
 | .int _::_,_,h=>by cases h
 | .str _::_,_,h=>by cases h
 | .ty _::_,_,h=>by cases h
 | .dct::_,_,h=>by cases h
 | .scr _::_,_,h=>by cases h
 | .tup _::_,_,h=>by cases h
 | .lst _::_,_,h=>by cases h
theorem mm:∀ (ns:List Bool),jV (ns.map D.bl)=some ns
 | []=>rfl
 | n::ns=>by rw [List.map_cons,jV,mm ns];rfl
noncomputable def eD (st:Sto):List W->Option D
 | [.d (.str x)]=>if x.length<=1000000 then some (.int x.length) else none
 | [w]=>(gz st w).map λds=>.int ds.length
 | _=>none
noncomputable def vF (_:Sto):List W->Option D
 | [.d (.int i),.d (.int j)]=>some (.int (if j < i then j else i))
 | _=>none
noncomputable def mi (_:Sto):List W->Option D
 | [.d (.int i)]=>some (.int i)
 | [.d (.bl k)]=>some (.int (if k then 1 else 0))
 | _=>none
noncomputable def jT (_:Sto):List W->Option D
 | [.d (.lst ds)]=>(aQ ds).map λns=>.int ns.sum
 | _=>none
noncomputable def rE (_:Sto):List W->Option D
 | [.d (.lst ds)]=>(jV ds).map λns=>.bl (ns.all id)
 | _=>none
noncomputable def kF (st:Sto):List W->Option D
 | [w]=>(gz st w).map λds=>.tup ds
 | _=>none
noncomputable def AB (st:Sto):W->Option String
 | .d .non=>some "NoneType"
 | .d (.bl _)=>some "bool"
 | .d (.int _)=>some "int"
 | .d (.str _)=>some "str"
 | .d (.tup _)=>some "tuple"
 | .d (.lst _)=>some "list"
 | .d .dct=>some "dict"
 | .h n=>(lg st n).map λ_=>"list"
 | _=>none
noncomputable def zd (t c:String):Option Bool:=
 if c = "int" then some (t=="int" || t=="bool")
 else if c = "bool"\/c = "str"\/c = "tuple"\/c = "list" then some (t==c)
 else none
noncomputable def jB (st:Sto):List W->Option D
 | [w,.d (.ty c)]=>(AB st w).bind λt=>(zd t c).map λb=>.bl b
 | _=>none
theorem er (hK:X.K=K:=by rfl):iK K X (.builtin "len") eD:=by
 subst hK
 refine⟨λst ws d h=>?_⟩
 have seq:∀ w,(gz st w).map (λds=>D.int ds.length)=some d->dk X (.builtin "len") (rCD X.K st [w] d):=λw h=>by
  obtain⟨ds,e,rfl⟩:=Option.map_eq_some_iff.mp h
  refine oV.imp ?_
  rintro vs H Q ⟨φ,S,⟨v,r,rfl,r1,rfl⟩,q⟩
  obtain⟨a,us,rfl,h1,h2⟩:=kP S r1 e
  exact⟨a,us,rfl,h1,q _ H (bK.refl H) (by rw [<-h2.length];rfl)⟩
 cases ws with
 | nil=>cases h
 | cons w tl=>
  cases tl with
  | cons _ _=>
   cases w with
   | h n=>cases h
   | d x=>cases x<;>cases h
  | nil=>
   cases w with
   | h n=>exact seq _ h
   | d x=>
    cases x with
    | str x=>
     simp only [eD] at h
     split at h
     ·rename_i hl
      cases h
      refine pc.imp ?_
      rintro vs H Q ⟨φ,S,⟨v,r,rfl,r1,rfl⟩,q⟩
      exact⟨x,by rw [show v=.str x from r1],Nat.le_trans hl mil,q _ H (bK.refl H) rfl⟩
     ·cases h
    | tup ds=>exact seq _ h
    | lst ds=>exact seq _ h
    | scr ds=>exact seq _ h
    | _=>cases h
theorem z9 (hc:X.calm=true:=by rfl):iK K X (.builtin "min") vF:=by
 refine⟨λst ws d h=>?_⟩
 unfold vF at h
 split at h
 next i j=>
  cases h
  refine (ue hc).imp ?_
  rintro vs H Q ⟨φ,S,⟨v,r,rfl,r1,u,r',rfl,r2,rfl⟩,q⟩
  exact⟨i,j,by rw [show v=.int i from r1,show u=.int j from r2],q _ H (bK.refl H) rfl⟩
 next=>cases h
theorem jU:iK K X (.type "int") mi:=by
 refine⟨λst ws d h=>?_⟩
 unfold mi at h
 split at h
 next i=>
  cases h
  refine nY.imp ?_
  rintro vs H Q ⟨φ,S,⟨v,r,rfl,r1,rfl⟩,q⟩
  exact .inl ⟨i,by rw [show v=.int i from r1],q _ H (bK.refl H) rfl⟩
 next i=>
  cases h
  refine nY.imp ?_
  rintro vs H Q ⟨φ,S,⟨v,r,rfl,r1,rfl⟩,q⟩
  exact .inr ⟨i,by rw [show v=.bl i from r1],q _ H (bK.refl H) rfl⟩
 next=>cases h
theorem lO (hc:X.calm=true:=by rfl) (hK:X.K=K:=by rfl):iK K X (.builtin "sum") jT:=by
 subst hK
 refine⟨λst ws d h=>?_⟩
 unfold jT at h
 split at h
 next ds=>
  obtain⟨ns,e,rfl⟩:=Option.map_eq_some_iff.mp h
  cases cE e
  refine (AK (K:=X.K) hc rfl).imp ?_
  rintro vs H Q ⟨φ,S,⟨v,r,rfl,⟨a,us,rfl,h0,h1,h2⟩,rfl⟩,q⟩
  cases h2.ints
  exact⟨a,ns,rfl,.inl h1,q _ H (bK.refl H) rfl⟩
 next=>cases h
theorem oE (hc:X.calm=true:=by rfl) (hK:X.K=K:=by rfl):iK K X (.builtin "all") rE:=by
 subst hK
 refine⟨λst ws d h=>?_⟩
 unfold rE at h
 split at h
 next ds=>
  obtain⟨ns,e,rfl⟩:=Option.map_eq_some_iff.mp h
  cases ko e
  refine (AX (K:=X.K) hc rfl).imp ?_
  rintro vs H Q ⟨φ,S,⟨v,r,rfl,⟨a,us,rfl,h0,h1,h2⟩,rfl⟩,q⟩
  cases h2.bools
  exact⟨a,ns,rfl,.inl h1,q _ H (bK.refl H) rfl⟩
 next=>cases h
theorem gB (hK:X.K=K:=by rfl):iK K X (.type "tuple") kF:=by
 subst hK
 refine⟨λst ws d h=>?_⟩
 unfold kF at h
 split at h
 next w=>
  obtain⟨ds,e,rfl⟩:=Option.map_eq_some_iff.mp h
  refine nh.imp ?_
  rintro vs H Q ⟨φ,S,⟨v,r,rfl,r1,rfl⟩,q⟩
  obtain⟨a,us,rfl,h1,h2⟩:=qg S r1 e
  refine⟨a,us,rfl,?_⟩
  rcases h1 with h1 | h1
  ·exact .inl ⟨h1,λl hl=>q _ _ (bK.new hl _) ⟨l,us,rfl,aX,h2.fw S (Fw.new hl)⟩⟩
  ·exact .inr ⟨SqT.of h1,q _ H (bK.refl H) ⟨a,us,rfl,h1,h2⟩⟩
 next=>cases h
theorem fS {t c:String}{b:Bool} (ht:t = "NoneType"\/t = "bool"\/t = "int"\/t = "str"\/t = "tuple"\/t = "list"\/t = "dict") (h:zd t c=some b):PySem.W.kitOne K (.type t) (.type c)=some b:=by
 unfold zd at h
 split at h
 ·rename_i hc
  subst hc
  rcases ht with rfl | rfl | rfl | rfl | rfl | rfl | rfl<;>(cases h;rfl)
 ·split at h
  ·rename_i _ hc
   rcases hc with rfl | rfl | rfl | rfl<;>rcases ht with rfl | rfl | rfl | rfl | rfl | rfl | rfl<;>(cases h;rfl)
  ·cases h
theorem i7 (hK:X.K=K:=by rfl):iK K X (.builtin "isinstance") jB:=by
 subst hK
 refine⟨λst ws d h=>?_⟩
 unfold jB at h
 split at h
 next w c=>
  simp only [Option.bind_eq_some_iff,Option.map_eq_some_iff] at h
  obtain⟨t,ht,b,hb,rfl⟩:=h
  intro pins s σ H xs us Q I rv q
  obtain⟨φ,S,⟨v,r,rfl,r1,u,r',rfl,r2,rfl⟩,q⟩:=q
  cases (show u=.ty c from r2)
  obtain⟨vv,uu,rfl,rv1,rv2⟩:=rv.two
  cases rv2
  have fin:∀ tk,EP X pins σ Q (.bool b) { s with toks:=tk }:=λtk=>⟨.bl b,H,I.tok tk,rfl,q _ H (bK.refl H) rfl⟩
  cases w with
  | h n=>
   obtain⟨a,ea,rfl⟩:=r1
   obtain⟨ds,eds,rfl⟩:=Option.map_eq_some_iff.mp ht
   obtain⟨vs,hv,_⟩:=S.atl n a ds ea eds
   exact dc I rv1 (.lst hv) (fS (by simp) hb) fin
  | d x=>
   cases x with
   | non=>cases ht;cases r1;exact dc I rv1 .non (fS (by simp) hb) fin
   | bl x=>cases ht;cases r1;exact dc I rv1 (.bl x) (fS (by simp) hb) fin
   | int x=>cases ht;cases r1;exact dc I rv1 (.int x) (fS (by simp) hb) fin
   | str x=>cases ht;cases r1;exact dc I rv1 (.str x) (fS (by simp) hb) fin
   | lst ds=>
    cases ht
    obtain⟨a,vs,rfl,h0,h1,h2⟩:=r1
    rcases h1 with h1 | ⟨o,h1⟩
    ·exact dc I rv1 (.lst h1) (fS (by simp) hb) fin
    ·exact dc I rv1 (.frz h1) (fS (by simp) hb) fin
   | tup ds=>
    cases ht
    obtain⟨a,vs,rfl,h1,h2⟩:=r1
    cases rv1
    obtain⟨its,_,p,_⟩:=I.tuple (SqT.of h1)
    obtain⟨o,e1,e2,_⟩:=p
    exact PySem.W.kia_one PySem.W.kitx_tuple I.kIn ⟨o,e1,e2⟩ (fS (by simp) hb) (λz=>nomatch z) fin
   | dct=>
    cases ht
    obtain⟨a,rfl,_,h1⟩:=r1
    rcases h1 with⟨d,h1⟩ | ⟨d,h1⟩
    ·exact dc I rv1 (.dK h1) (fS (by simp) hb) fin
    ·exact dc I rv1 (.dT h1) (fS (by simp) hb) fin
   | ty x=>cases ht
   | scr x=>cases ht
 next=>cases h
variable {e a b:Expr}{es:List Expr}{pos:Pos}{f fa fb:Ef}{af:Af}
theorem my {x:Str}{c:String} (hg:Gl X x) (hm:X.mg x=none) (hv:bootBuiltins x=some (.type c)) (hn:x≠"__name__":=by decide) (hd:(x==("__debug__" : Str))=false:=by decide):IE K X (.Name x pos) (iC (.ty c)):=
 uX (v:=.ty c) (xl hg hm hv rfl hn hd) λ_ _=>rfl
noncomputable def mE (g:List D->List W->Option (D×List D)) (o:Ef) (a:Af):Ef
 | env,st=>(o env st).bind λx=>(a env x.2).bind λr=>match x.1 with
 | .h n=>(lg x.2 n).bind λ_=>(lg r.2 n).bind λds=>(g ds r.1).map λy=>(.d y.1,r.2.set n (.l y.2))
 | _=>none
theorem Au {name:Str}{id:String}{apos:Pos}{rr:V->List V->Hp->VK->Prop}{g:List D->List W->Option (D×List D)} (slot:Slot "list" name id) (hty:typeOf (.builtin id)=pure (.type "method_descriptor")) (hm:MtR X id rr)
  (hg:∀ (H:Hp) (φ:List Addr) (st:Sto) (n:Nat) (ad:Addr) (ds:List D) (vs:List V) (ws:List W) (us:List V) (y:D×List D) (Q:VK),Sr K H φ st->φ[n]?=some ad->lg st n=some ds->H ad=some (.lst vs)->Rls K H φ ds vs->Rws K H φ ws us->g ds ws=some y->
    (∀ v vs',Rl K H φ y.1 v->Rls K H φ y.2 vs'->(∀ b,v≠.ref b)->Q v (upd H ad (.lst vs')))->rr (.ref ad) us H Q)
  (hfl:∀ ds ws y,g ds ws=some y->dA y.1=true)
  (ho:IE K X a fa) (ha:IA K X (e::es) af) (hbase:attributeBase a name X.env (eval a X.env)=eval a X.env:=by rfl)
  (hall:(e::es).all aR=true:=by rfl) (hfl30:(e::es).length < 30:=by decide) (hline:(apos.endLine==pos.line)=true:=by rfl) (hK:X.K=K:=by rfl) :
  IE K X (.Call (.Attribute a name apos) (e::es) [] pos) (mE g fa af):=by
 subst hK
 have hall2:aR e=true/\es.all aR=true:=by rw [List.all_cons,Bool.and_eq_true] at hall;exact hall
 refine⟨λenv st r hr=>?_⟩
 simp only [mE,Option.bind_eq_some_iff] at hr
 obtain⟨⟨x,s1⟩,hx,⟨ws,s2⟩,hw,hr⟩:=hr
 cases x with
 | d x=>cases hr
 | h n=>
  simp only [Option.bind_eq_some_iff,Option.map_eq_some_iff] at hr
  obtain⟨ds1,hds1,ds,hds,y,hy,rfl⟩:=hr
  refine (AR PySem.F.plainAttrs_list slot hty hm (ho.run _ _ _ hx) (ha.run _ _ _ hw) hbase (ve hall hfl30) hline (ce hall2.1) (dF hall2.2)).imp ?_
  rintro σ H Q ⟨φ,hE,hS,q⟩
  refine⟨φ,hE,hS,λv H1 φ1 f1 S1 w1=>?_⟩
  obtain⟨ad,ea,rfl⟩:=w1
  obtain⟨vs1,hv1,_⟩:=S1.atl n ad _ ea hds1
  refine⟨.inl ⟨rfl,vs1,SqL.of hv1⟩,φ1,hE.fw hS f1,S1,λus H2 φ2 f2 S2 w2=>?_⟩
  have ea2:=f2.get ea
  obtain⟨vs2,hv2,rl2⟩:=S2.atl n ad ds ea2 hds
  refine hg H2 φ2 s2 n ad ds vs2 ws us y _ S2 ea2 hds hv2 rl2 w2 hy λv vs' r1 r2 hb=>?_
  obtain⟨f3,S3⟩:=S2.put ea2 r2
  exact q v _ φ2 ((f1.trans f2).trans f3) S3 (r1.fw S2 f3)
end
end L2
namespace L2
open PySem PySem.Spec PyProof.Rows
section
variable {K:PySem.W.Frag}{X:Cx}{e a b:Expr}{es:List Expr}{pos:Pos}{f fa fb:Ef}{af:Af}
noncomputable def rh (x:Int):List Int->List Int
 | []=>[x]
 | y::ys=>if x<=y then x::y::ys else y::rh x ys
noncomputable def lX:List Int->List Int
 | []=>[]
 | x::xs=>rh x (lX xs)
theorem jL (x:Int):∀ ys,(rh x ys).Perm (x::ys)
 | []=>List.Perm.refl _
 | y::ys=>by
  unfold rh
  split
  ·exact List.Perm.refl _
  ·exact (List.Perm.cons y (jL x ys)).trans (List.Perm.swap x y ys)
theorem kg:∀ xs,(lX xs).Perm xs
 | []=>List.Perm.refl _
 | x::xs=>(jL x _).trans (List.Perm.cons x (kg xs))
theorem ki (x:Int):∀ {ys:List Int},ys.Pairwise (·<=·)->(rh x ys).Pairwise (·<=·)
 | [],_=>by simp [rh]
 | y::ys,h=>by
  unfold rh
  split
  ·rename_i hxy
   refine List.pairwise_cons.mpr ⟨λz hz=>?_,h⟩
   rcases List.mem_cons.mp hz with rfl | hz
   ·exact hxy
   ·exact Int.le_trans hxy ((List.pairwise_cons.mp h).1 z hz)
  ·rename_i hxy
   refine List.pairwise_cons.mpr ⟨λz hz=>?_,ki x (List.pairwise_cons.mp h).2⟩
   rcases List.mem_cons.mp ((jL x ys).mem_iff.mp hz) with rfl | hz
   ·lia
   ·exact (List.pairwise_cons.mp h).1 z hz
theorem iL:∀ xs,(lX xs).Pairwise (·<=·)
 | []=>List.Pairwise.nil
 | x::xs=>ki x (iL xs)
theorem qK {xs ys:List Int} (p:xs.Perm ys) (h1:xs.Pairwise (·<=·)) (h2:ys.Pairwise (·<=·)):xs=ys:=
 List.Perm.eq_of_pairwise (λa b _ _ h1 h2=>Int.le_antisymm h1 h2) h1 h2 p
theorem jk:∀ {ns:List Int}{us:List Value},IntsAre us ns->aT (ns.map V.int) us
 | _,_,.nil=>.nil
 | _,_,.cons n t h=>.cons ⟨t,rfl⟩ (jk h)
theorem x8 {H:Hp}{ad:Addr}{ns:List Int}{m:Fn} (hO:xB H) (hS:SqL K H ad (ns.map V.int)) (h:∃ st,m [.d (.scr ns)] []=some (.d (.bl true),st)):spI K m [.ref ad] H (λv _=>v=.bl true) λ_ _ _=>False:=by
 obtain⟨st,h⟩:=h
 refine⟨[],[],[.d (.scr ns)],_,h,⟨_,[],rfl,⟨ad,rfl,?_⟩,rfl⟩,⟨List.nodup_nil,rfl,λn a ds e=>by simp at e⟩,λv H' φ' _ _ r=>r⟩
 rcases hS with (h | h) | h
 ·rcases hO ad with z | ⟨o,xs,z⟩
  ·rw [h] at z;cases z
  ·rw [h] at z;cases z
 ·exact .inl h
 ·exact .inr h
end
end L2
namespace L2
open PySem
theorem cf {g:Tg}{body:Sf}:∀ {ds:List D} (Pv:Nat->Ev->Sto->Prop) {env:Ev}{st:Sto},Pv 0 env st->
  (∀ i d env st,ds[i]?=some d->Pv i env st->∃ e1 e2 s2,gg g (.d d) env=some e1/\(body e1 st=some (.nx e2 s2)\/body e1 st=some (.ct e2 s2))/\Pv (i+1) e2 s2)->
  ∃ env' st',mI g body ds env st=some (.nx env' st')/\Pv ds.length env' st'
 | [],Pv,env,st,h0,_=>⟨env,st,rfl,h0⟩
 | d::ds,Pv,env,st,h0,hs=>by
  obtain⟨e1,e2,s2,h1,h2,h3⟩:=hs 0 d env st rfl h0
  obtain⟨e',s',h4,h5⟩:=cf (g:=g) (body:=body) (ds:=ds) (λi=>Pv (i+1)) h3 λi d' env' st' hd p=>hs (i+1) d' env' st' (by simpa using hd) p
  refine⟨e',s',?_,h5⟩
  unfold mI
  rw [h1,Option.bind_some]
  rcases h2 with h2 | h2<;>(rw [h2,Option.bind_some];exact h4)
theorem jz {g:Tg}{tt:Tf}{te:Ef}{env:Ev}:∀ {ds:List D} (Pv:Nat->List D->Sto->Prop) {st:Sto}{ys0:List D},Pv 0 ys0 st->
  (∀ i d ys st,ds[i]?=some d->Pv i ys st->∃ e1,gg g (.d d) env=some e1/\((∃ s1 x s2,tt e1 st=some (true,s1)/\te e1 s1=some (.d x,s2)/\Pv (i+1) (ys++[x]) s2)\/∃ s1,tt e1 st=some (false,s1)/\Pv (i+1) ys s1))->
  ∃ ys st',lcI g tt te env ds st=some (ys,st')/\Pv ds.length (ys0++ys) st'
 | [],Pv,st,ys0,h0,_=>⟨[],st,rfl,by rw [List.append_nil];exact h0⟩
 | d::ds,Pv,st,ys0,h0,hs=>by
  obtain⟨e1,h1,h2⟩:=hs 0 d ys0 st rfl h0
  rcases h2 with⟨s1,x,s2,h2,h3,h4⟩ | ⟨s1,h2,h4⟩
  ·obtain⟨ys,s',h5,h6⟩:=jz (g:=g) (tt:=tt) (te:=te) (env:=env) (ds:=ds) (λi=>Pv (i+1)) h4 λi d' ys' st' hd p=>hs (i+1) d' ys' st' (by simpa using hd) p
   refine⟨x::ys,s',?_,by simpa using h6⟩
   unfold lcI
   rw [h1,Option.bind_some,h2,Option.bind_some,if_pos rfl,h3,Option.bind_some,h5]
   rfl
  ·obtain⟨ys,s',h5,h6⟩:=jz (g:=g) (tt:=tt) (te:=te) (env:=env) (ds:=ds) (λi=>Pv (i+1)) h4 λi d' ys' st' hd p=>hs (i+1) d' ys' st' (by simpa using hd) p
   refine⟨ys,s',?_,by simpa using h6⟩
   unfold lcI
   rw [h1,Option.bind_some,h2,Option.bind_some,if_neg Bool.false_ne_true,h5]
theorem gh {g:Tg}{tt:Tf}{te:Ef}{env:Ev}{st:Sto} (p:D->Bool) (F:D->D):∀ {ds:List D},(∀ d ∈ ds,∃ e1,gg g (.d d) env=some e1/\tt e1 st=some (p d,st)/\(p d=true->te e1 st=some (.d (F d),st)))->
  lcI g tt te env ds st=some ((ds.filter p).map F,st)
 | [],_=>rfl
 | d::ds,h=>by
  obtain⟨e1,h1,h2,h3⟩:=h d List.mem_cons_self
  have ih:=gh (g:=g) (tt:=tt) (te:=te) (env:=env) (st:=st) p F (ds:=ds) λx hx=>h x (List.mem_cons_of_mem _ hx)
  unfold lcI
  rw [h1,Option.bind_some,h2,Option.bind_some]
  cases hp:p d with
  | true=>rw [if_pos rfl,h3 hp,Option.bind_some,ih,List.filter_cons,hp];rfl
  | false=>rw [if_neg Bool.false_ne_true,ih,List.filter_cons,hp];rfl
theorem d3 {g:Tg}{te:Ef}{env:Ev}{st:Sto} (F:D->D) {ds:List D} (h:∀ d ∈ ds,∃ e1,gg g (.d d) env=some e1/\te e1 st=some (.d (F d),st)):lcI g bN te env ds st=some (ds.map F,st):=by
 have:=gh (g:=g) (tt:=bN) (te:=te) (env:=env) (st:=st) (λ_=>true) F (ds:=ds) λd hd=>by
  obtain⟨e1,h1,h2⟩:=h d hd
  exact⟨e1,h1,rfl,λ_=>h2⟩
 rw [this,List.filter_eq_self.mpr λ_ _=>rfl]
theorem eK {a b:Int} (h:-(2 ^ 64) < a/\a < 2 ^ 64):PySem.IntMulOk a b:=ym.ok (.inl h)
theorem eI {a b:Int} (h:-(2 ^ 64) < b/\b < 2 ^ 64):PySem.IntMulOk a b:=ym.ok (.inr h)
theorem ou {st:Sto}{n:Nat}{v:C} (h:n < st.length):(st.set n v)[n]?=some v:=List.getElem?_set_self h
theorem qR {α:Type} (a:α) (l:List α):atI (a::l) 0=some a:=gH (j:=0) rfl
theorem qi {α:Type} (a b:α) (l:List α):atI (a::b::l) 1=some b:=gH (j:=1) rfl
end L2
namespace L2
open PySem
theorem cZ {n i:Nat}{d:D} (h:(cx 0 n)[i]?=some d):d=.int (i:Int)/\i < n:=by
 rw [pB] at h
 by_cases hi:i < n
 ·rw [if_pos hi] at h
  cases h
  exact⟨by rw [Int.zero_add],hi⟩
 ·rw [if_neg hi] at h;cases h
end L2
namespace L2
open PySem PySem.Spec PyProof.Rows
noncomputable def Br:Nat->Nat->StateT SortSt Sem (Option Nat):=sortPriv% PySem.Builtin.countRun
noncomputable def Al:Nat->Nat->Nat->StateT SortSt Sem Bool:=sortPriv% PySem.Builtin.binarySort
noncomputable def oF:Bool->Keyed->Array Keyed->Nat->Nat->Nat->StateT SortSt Sem (Option Nat):=sortPriv% PySem.Builtin.gallop
noncomputable def AS:Array Keyed->Array Keyed->StateT SortSt Sem (Array Keyed):=sortPriv% PySem.Builtin.mergeLo
noncomputable def Bj:Array Keyed->Array Keyed->StateT SortSt Sem (Array Keyed):=sortPriv% PySem.Builtin.mergeHi
noncomputable def yN:Nat->StateT SortSt Sem Bool:=sortPriv% PySem.Builtin.mergeAt
abbrev yO (st:SortSt) (g:Nat):SortSt:=SortSt.mk' (kindOf st) (arrOf st) (pendingOf st) g (failedOf st)
noncomputable def Cm (prog:Program) (w:World) (A:Around) (s:Shared) (κ:SortKind) (O:KeyOrd) (rk:Keyed->O.α) (S:Keyed->Prop):Prop:=
 ∀ x y,S x->S y->∀ (Q:Bool->Shared->Prop) (E:Value->Shared->Prop),Q (O.blt (rk x) (rk y)) s->wpAny (model prog w) A (keyLt' κ x.1 y.1) Q E s
section
variable {prog:Program}{w:World}{A:Around}{E:Value->Shared->Prop}{s:Shared}{κ:SortKind}{O:KeyOrd}{rk:Keyed->O.α}{S:Keyed->Prop}
theorem qH (hC:Cm prog w A s κ O rk S) {x y:Keyed}{st:SortSt}{Q:Option Bool->SortSt->Prop} (hk:kindOf st=κ) (hx:S x) (hy:S y) (h:Q (some (O.blt (rk x) (rk y))) st) :
  wpS (model prog w) A E s (lt' x y) Q st:=by
 rw [lt'_eq]
 refine wpS_bind (wpS_get ?_)
 rw [hk]
 exact wpS_bind (wpS_lift (wpAny_attempt (hC x y hx hy _ _ ⟨rfl,wpS_pure h⟩)))
theorem bE {c:Prop} [Decidable c] {M:Model}{A':Around}{E':Value->Shared->Prop}{s':Shared}{α:Type}{a b:StateT SortSt Sem α}{Q:α->SortSt->Prop}{st:SortSt} (h:c) (k:wpS M A' E' s' a Q st):wpS M A' E' s' (if c then a else b) Q st:=by rw [if_pos h];exact k
theorem bn {c:Prop} [Decidable c] {M:Model}{A':Around}{E':Value->Shared->Prop}{s':Shared}{α:Type}{a b:StateT SortSt Sem α}{Q:α->SortSt->Prop}{st:SortSt} (h:¬ c) (k:wpS M A' E' s' b Q st):wpS M A' E' s' (if c then a else b) Q st:=by rw [if_neg h];exact k
theorem bF {arr:Array Keyed}{i:Nat}{x:Keyed}{st:SortSt}{Q:Keyed->SortSt->Prop} (hi:arr[i]?=some x) (h:Q x st):wpS (model prog w) A E s (elem' arr i) Q st:=by
 rw [elem'_eq,hi];exact wpS_pure h
theorem gG {t:String}{st:SortSt}{Q:Unit->SortSt->Prop} (h:Q () st):wpS (model prog w) A E s (liftM (rule t):StateT SortSt Sem Unit) Q st:=wpS_lift (wpAny_rule ⟨rfl,h⟩)
noncomputable def kyd (arr:Array Keyed) (i:Nat):Keyed:=(arr[i]?).getD (.none,.none)
theorem br {arr:Array Keyed}{i:Nat} (h:i < arr.size):arr[i]?=some (kyd arr i):=by
 unfold kyd;simp [h]
theorem dB {a b:Array Keyed}{i j:Nat} (h:a[i]?=b[j]?):kyd a i=kyd b j:=by
 unfold kyd;rw [h]
theorem xj (hC:Cm prog w A s κ O rk S) {i j:Nat}{st:SortSt}{Q:Option Bool->SortSt->Prop} (hk:kindOf st=κ) (hi:i < (arrOf st).size) (hj:j < (arrOf st).size) (hx:S (kyd (arrOf st) i)) (hy:S (kyd (arrOf st) j))
  (h:Q (some (O.blt (rk (kyd (arrOf st) i)) (rk (kyd (arrOf st) j)))) st):wpS (model prog w) A E s (ltAt' i j) Q st:=by
 rw [ltAt'_eq]
 refine wpS_bind (wpS_get ?_)
 exact wpS_bind (bF (br hi) (wpS_bind (bF (br hj) (qH hC hk hx hy h))))
structure SB (κ:SortKind) (a0:Array Keyed) (lo:Nat) (p0:Array (Nat×Nat×Nat)) (g0:Nat) (st:SortSt):Prop where
 perm:(arrOf st).Perm a0
 pre:∀ k,k < lo->(arrOf st)[k]?=a0[k]?
 kind:kindOf st=κ
 fail:failedOf st=none
 pend:pendingOf st=p0
 gal:gallopOf st=g0
variable {a0:Array Keyed}{lo:Nat}{p0:Array (Nat×Nat×Nat)}{g0:Nat}{st:SortSt}
theorem SB.size (h:SB κ a0 lo p0 g0 st):(arrOf st).size=a0.size:=h.perm.size_eq
theorem SB.mem (h:SB κ a0 lo p0 g0 st) (hS:∀ x ∈ a0.toList,S x) {i:Nat} (hi:i < a0.size):S (kyd (arrOf st) i):=by
 have hi':i < (arrOf st).size:=by rw [h.size];exact hi
 refine hS _ ((Array.perm_iff_toList_perm.mp h.perm).mem_iff.mp ?_)
 have e:=br hi'
 rw [Array.getElem?_eq_getElem hi'] at e
 rw [<-Option.some.inj e]
 exact Array.getElem_mem_toList hi'
theorem SB.set (h:SB κ a0 lo p0 g0 st) {xs:Array Keyed} (hp:xs.Perm (arrOf st)) (hl:∀ k,k < lo->xs[k]?=(arrOf st)[k]?):SB κ a0 lo p0 g0 (setArr st xs):=
 ⟨hp.trans h.perm,λk hk=>(hl k hk).trans (h.pre k hk),h.kind,h.fail,h.pend,h.gal⟩
theorem si (hC:Cm prog w A s κ O rk S) (hS:∀ x ∈ a0.toList,S x) (hB:SB κ a0 lo p0 g0 st) {i j:Nat}{Q:Option Bool->SortSt->Prop} (hi:i < a0.size) (hj:j < a0.size)
  (h:Q (some (O.blt (rk (kyd (arrOf st) i)) (rk (kyd (arrOf st) j)))) st):wpS (model prog w) A E s (ltAt' i j) Q st:=
 xj hC hB.kind (by rw [hB.size];exact hi) (by rw [hB.size];exact hj) (hB.mem hS hi) (hB.mem hS hj) h
noncomputable def Up (rk:Keyed->O.α) (arr:Array Keyed) (lo n:Nat):Prop:=∀ i j,lo<=i->i<=j->j < lo+n->O.kle (rk (kyd arr i)) (rk (kyd arr j))
noncomputable def gO (rk:Keyed->O.α) (arr:Array Keyed) (lo n:Nat):Prop:=∀ i j,lo<=i->i<=j->j < lo+n->O.kle (rk (kyd arr j)) (rk (kyd arr i))
theorem iX {xs:Array Keyed}{i j:Nat} (hj:j<=xs.size) (k:Nat):kyd (mirror xs i j ((j - i) / 2)) k=if i<=k/\k < j then kyd xs (i+j - 1 - k) else kyd xs k:=by
 have e:=getElem?_mirror_all (i:=i) hj k
 by_cases h1:i<=k/\k < j
 ·rw [if_pos h1] at e ⊢;exact dB e
 ·rw [if_neg h1] at e ⊢;exact dB e
theorem mN {xs:Array Keyed}{src d:Nat} (hs:src < xs.size) (hd:d<=src) (k:Nat) :
  kyd (bubble xs src d) k=if k=src - d then kyd xs src else if src - d < k/\k<=src then kyd xs (k - 1) else kyd xs k:=by
 have e:=getElem?_bubble hs d hd k
 by_cases h1:k=src - d
 ·rw [if_pos h1] at e ⊢;exact dB e
 ·rw [if_neg h1] at e ⊢
  by_cases h2:src - d < k/\k<=src
  ·rw [if_pos h2] at e ⊢;exact dB e
  ·rw [if_neg h2] at e ⊢;exact dB e
theorem SB.rev (hB:SB κ a0 lo p0 g0 st) {i j:Nat} (hi:lo<=i) (hj:j<=a0.size):SB κ a0 lo p0 g0 (setArr st (mirror (arrOf st) i j ((j - i) / 2))):=
 hB.set (mirror_perm _ _ _ _) λk hk=>by
  rw [getElem?_mirror_all (by rw [hB.size];exact hj),if_neg (by lia)]
theorem h7 {xs:Array Keyed}{i j:Nat} (hj:j<=xs.size) (he:∀ k,i<=k->k < j->rk (kyd xs k)=rk (kyd xs (j - 1))) (k:Nat):rk (kyd (mirror xs i j ((j - i) / 2)) k)=rk (kyd xs k):=by
 rw [iX hj]
 split
 ·rw [he (i+j - 1 - k) (by lia) (by lia),he k (by lia) (by lia)]
 ·rfl
theorem pj {i j:Nat}{Q:Unit->SortSt->Prop} (h:Q () (setArr st (mirror (arrOf st) i j ((j - i) / 2)))):wpS (model prog w) A E s (reverseSlice' i j) Q st:=by
 rw [reverseSlice'_eq];exact wpS_modify h
theorem Up.more {arr:Array Keyed}{n:Nat} (h:Up rk arr lo n) (h1:1<=n) (hl:O.kle (rk (kyd arr (lo+n - 1))) (rk (kyd arr (lo+n)))):Up rk arr lo (n+1):=by
 intro i j hi hij hj
 by_cases hjx:j < lo+n
 ·exact h i j hi hij hjx
 ·have hj':j=lo+n:=by lia
  subst hj'
  by_cases hi':i=lo+n
  ·subst hi';exact KeyOrd.kle_refl _
  ·exact KeyOrd.kle_trans (h i (lo+n - 1) hi (by lia) (by lia)) hl
theorem gO.more {arr:Array Keyed}{n:Nat} (h:gO rk arr lo n) (h1:1<=n) (hl:O.kle (rk (kyd arr (lo+n))) (rk (kyd arr (lo+n - 1)))):gO rk arr lo (n+1):=by
 intro i j hi hij hj
 by_cases hjx:j < lo+n
 ·exact h i j hi hij hjx
 ·have hj':j=lo+n:=by lia
  subst hj'
  by_cases hi':i=lo+n
  ·subst hi';exact KeyOrd.kle_refl _
  ·exact KeyOrd.kle_trans hl (h i (lo+n - 1) hi (by lia) (by lia))
theorem Up.one {arr:Array Keyed}:Up rk arr lo 1:=λi j hi hij hj=>by
 have:i=j:=by lia
 subst this;exact KeyOrd.kle_refl _
theorem gO.congr {xs ys:Array Keyed}{n:Nat} (h:gO rk xs lo n) (e:∀ k,rk (kyd ys k)=rk (kyd xs k)):gO rk ys lo n:=λi j hi hij hj=>by
 rw [e,e];exact h i j hi hij hj
end
end L2
namespace L2
open PySem PySem.Spec PyProof.Rows
section
variable {prog:Program}{w:World}{A:Around}{E:Value->Shared->Prop}{s:Shared}{κ:SortKind}{O:KeyOrd}{rk:Keyed->O.α}{S:Keyed->Prop}
variable {a0:Array Keyed}{lo:Nat}{p0:Array (Nat×Nat×Nat)}{g0:Nat}{st:SortSt}
theorem vf {n0 nrem:Nat}{f:Nat->Option (Option Nat)×Nat->StateT SortSt Sem (ForInStep (Option (Option Nat)×Nat))}{Q:Option (Option Nat)×Nat->SortSt->Prop}
  (hf:∀ x n (Q':ForInStep (Option (Option Nat)×Nat)->SortSt->Prop),1<=n->n < nrem->(O.blt (rk (kyd (arrOf st) (lo+n))) (rk (kyd (arrOf st) (lo+n - 1)))=true->Q' (.done (none,n)) st)->
    (O.blt (rk (kyd (arrOf st) (lo+n))) (rk (kyd (arrOf st) (lo+n - 1)))=false->Q' (.yield (none,n+1)) st)->wpS (model prog w) A E s (f x (none,n)) Q' st)
  (h1:1<=n0) (hn:n0<=nrem) (hu:Up rk (arrOf st) lo n0)
  (h:∀ n,n0<=n->n<=nrem->Up rk (arrOf st) lo n->(n=nrem\/O.klt (rk (kyd (arrOf st) (lo+n))) (rk (kyd (arrOf st) (lo+n - 1))))->Q (none,n) st):wpS (model prog w) A E s (forIn [n0:nrem] (none,n0) f) Q st:=by
 refine wpS_forRange (I:=λx c st'=>st'=st/\c=(none,x)/\Up rk (arrOf st) lo x) ?_ ?_ ⟨rfl,rfl,hu⟩
 ·rintro x c st' hx hxn ⟨rfl,rfl,hs⟩
  exact hf x x _ (by lia) hxn (λhl=>h x hx (by lia) hs (.inr hl)) λhl=>⟨rfl,rfl,hs.more (by lia) hl⟩
 ·rintro c st' ⟨rfl,rfl,hs⟩
  rw [show max n0 nrem=nrem by lia] at hs ⊢
  exact h nrem hn (Nat.le_refl _) hs (.inl rfl)
noncomputable def Eqs (rk:Keyed->O.α) (arr:Array Keyed) (lo m q:Nat):Prop:=q+1<=m/\∀ i,lo+m - (q+1)<=i->i < lo+m->rk (kyd arr i)=rk (kyd arr (lo+m - 1))
theorem xc {n0 nrem:Nat}{f:Nat->Option (Option Nat)×Nat×Nat->StateT SortSt Sem (ForInStep (Option (Option Nat)×Nat×Nat))}{Q:Option (Option Nat)×Nat×Nat->SortSt->Prop}
  (hf:∀ x n q st' (Q':ForInStep (Option (Option Nat)×Nat×Nat)->SortSt->Prop),1<=n->n < nrem->SB κ a0 lo p0 g0 st'->
    (O.blt (rk (kyd (arrOf st') (lo+n))) (rk (kyd (arrOf st') (lo+n - 1)))=true->0 < q->Q' (.yield (none,n+1,0)) (setArr st' (mirror (arrOf st') (lo+n - (q+1)) (lo+n) ((lo+n - (lo+n - (q+1))) / 2))))->
    (O.blt (rk (kyd (arrOf st') (lo+n))) (rk (kyd (arrOf st') (lo+n - 1)))=true->q=0->Q' (.yield (none,n+1,0)) st')->
    (O.blt (rk (kyd (arrOf st') (lo+n - 1))) (rk (kyd (arrOf st') (lo+n)))=true->Q' (.done (none,n,q)) st')->
    (O.blt (rk (kyd (arrOf st') (lo+n))) (rk (kyd (arrOf st') (lo+n - 1)))=false->O.blt (rk (kyd (arrOf st') (lo+n - 1))) (rk (kyd (arrOf st') (lo+n)))=false->Q' (.yield (none,n+1,q+1)) st')->
    wpS (model prog w) A E s (f x (none,n,q)) Q' st')
  (h1:1<=n0) (hn:n0<=nrem) (hz:lo+nrem<=a0.size) (hB:SB κ a0 lo p0 g0 st) (hd:gO rk (arrOf st) lo n0)
  (h:∀ n q st',n0<=n->n<=nrem->SB κ a0 lo p0 g0 st'->gO rk (arrOf st') lo n->Eqs rk (arrOf st') lo n q->Q (none,n,q) st'):wpS (model prog w) A E s (forIn [n0:nrem] (none,n0,0) f) Q st:=by
 have one:∀ (arr:Array Keyed) m,1<=m->Eqs rk arr lo m 0:=λarr m hm=>⟨by lia,λi h1 h2=>by rw [show i=lo+m - 1 by lia]⟩
 refine wpS_forRange (I:=λx c st'=>∃ q,c=(none,x,q)/\SB κ a0 lo p0 g0 st'/\gO rk (arrOf st') lo x/\Eqs rk (arrOf st') lo x q) ?_ ?_ ⟨0,rfl,hB,hd,one _ _ h1⟩
 ·rintro x c st' hx hxn ⟨q,rfl,hB',hs,he⟩
  have hsz:lo+x<=(arrOf st').size:=by rw [hB'.size];lia
  refine hf x x q st' _ (by lia) hxn hB' (λhl hq=>?_) (λhl hq=>?_) (λhl=>h x q st' hx (by lia) hB' hs he) λhl hl2=>?_
  ·have e:=h7 (rk:=rk) (xs:=arrOf st') (i:=lo+x - (q+1)) (j:=lo+x) hsz he.2
   exact⟨0,rfl,hB'.rev (by have:=he.1;lia) (by lia),gO.congr (hs.more (by lia) (KeyOrd.kle_of_klt hl)) e,one _ _ (by lia)⟩
  ·exact⟨0,rfl,hB',hs.more (by lia) (KeyOrd.kle_of_klt hl),one _ _ (by lia)⟩
  ·have eq:rk (kyd (arrOf st') (lo+x))=rk (kyd (arrOf st') (lo+x - 1)):=KeyOrd.kle_antisymm hl2 hl
   refine⟨q+1,rfl,hB',hs.more (by lia) (by rw [eq];exact KeyOrd.kle_refl _),by have:=he.1;lia,λi h1 h2=>?_⟩
   rw [show lo+(x+1) - 1=lo+x by lia,eq]
   by_cases hi:i=lo+x
   ·rw [hi,eq]
   ·exact he.2 i (by lia) (by lia)
 ·rintro c st' ⟨q,rfl,hB',hs,he⟩
  rw [show max n0 nrem=nrem by lia] at hs he ⊢
  exact h nrem q st' hn (Nat.le_refl _) hB' hs he
theorem zc {m nrem:Nat}{f:Nat->Option (Option Nat)×Nat->StateT SortSt Sem (ForInStep (Option (Option Nat)×Nat))}{k:Option (Option Nat)×Nat->StateT SortSt Sem (Option Nat)}{Q:Option Nat->SortSt->Prop}
  (hB:SB κ a0 lo p0 g0 st) (hd:gO rk (arrOf st) lo m) (h1:1<=m) (hm:m<=nrem) (hz:lo+nrem<=a0.size)
  (hf:∀ x n (Q':ForInStep (Option (Option Nat)×Nat)->SortSt->Prop) st4,SB κ a0 lo p0 g0 st4->1<=n->n < nrem->(O.blt (rk (kyd (arrOf st4) (lo+n))) (rk (kyd (arrOf st4) (lo+n - 1)))=true->Q' (.done (none,n)) st4)->
    (O.blt (rk (kyd (arrOf st4) (lo+n))) (rk (kyd (arrOf st4) (lo+n - 1)))=false->Q' (.yield (none,n+1)) st4)->wpS (model prog w) A E s (f x (none,n)) Q' st4)
  (hk:∀ n st4,SB κ a0 lo p0 g0 st4->1<=n->n<=nrem->Up rk (arrOf st4) lo n->wpS (model prog w) A E s (k (none,n)) Q st4) :
  wpS (model prog w) A E s (do reverseSlice' lo (lo+m);let r <-forIn [m:nrem] (none,m) f;k r) Q st:=by
 refine wpS_bind (pj ?_)
 have hB4:=hB.rev (i:=lo) (j:=lo+m) (Nat.le_refl _) (by lia)
 refine wpS_bind (vf (rk:=rk) (lo:=lo) (λx n Q' hn1 hn2 hy hno=>hf x n Q' _ hB4 hn1 hn2 hy hno) h1 hm ?_ λn' hn1' hn2' hu' _=>hk n' _ hB4 (by lia) hn2' hu')
 intro i j hi hij hj
 have hs3:lo+m<=(arrOf st).size:=by rw [hB.size];lia
 show O.kle (rk (kyd (mirror (arrOf st) lo (lo+m) ((lo+m - lo) / 2)) i)) (rk (kyd (mirror (arrOf st) lo (lo+m) ((lo+m - lo) / 2)) j))
 rw [iX hs3,iX hs3,if_pos (by lia),if_pos (by lia)]
 exact hd _ _ (by lia) (by lia) (by lia)
set_option maxHeartbeats 1000000 in
theorem sN (hC:Cm prog w A s κ O rk S) (hS:∀ x ∈ a0.toList,S x) {nrem:Nat}{Q:Option Nat->SortSt->Prop} (hB:SB κ a0 lo p0 g0 st) (h1:1<=nrem) (hz:lo+nrem<=a0.size)
  (h:∀ m st',SB κ a0 lo p0 g0 st'->1<=m->m<=nrem->Up rk (arrOf st') lo m->Q (some m) st'):wpS (model prog w) A E s (Br lo nrem) Q st:=by
 have asc:∀ st' (_:SB κ a0 lo p0 g0 st') n (Q':Option Bool->SortSt->Prop),1<=n->n < nrem->Q' (some (O.blt (rk (kyd (arrOf st') (lo+n))) (rk (kyd (arrOf st') (lo+n - 1))))) st'->
   wpS (model prog w) A E s (ltAt' (lo+n) (lo+n - 1)) Q' st':=λst' hB' n Q' h1 h2 hq=>si hC hS hB' (by lia) (by lia) hq
 refine wpS_bind (vf (rk:=rk) (lo:=lo) (λx n Q' hn1 hn2 hy hno=>?_) (Nat.le_refl 1) h1 Up.one λn hn1 hn2 hu hor=>?_)
 ·refine wpS_bind (asc st hB n _ hn1 hn2 ?_)
  cases hl:O.blt (rk (kyd (arrOf st) (lo+n))) (rk (kyd (arrOf st) (lo+n - 1))) with
  | true=>exact wpS_pure (hy hl)
  | false=>exact wpS_pure (hno hl)
 dsimp only
 by_cases hnn:n=nrem
 ·refine bE (by simpa using hnn) ?_
  exact wpS_pure (h n st hB hn1 hn2 hu)
 refine bn (by simpa using hnn) ?_
 have hlt:=hor.resolve_left hnn
 have hn3:n+1<=nrem:=by lia
 have hsz:lo+n<=(arrOf st).size:=by rw [hB.size];lia
 by_cases hgt:n > 1
 case' pos=>
  refine bE hgt ?_
  refine wpS_bind (si hC hS hB (by lia) (by lia) ?_)
  by_cases hrose:O.blt (rk (kyd (arrOf st) lo)) (rk (kyd (arrOf st) (lo+n - 1)))=true
  ·rw [hrose];exact wpS_pure (h n st hB hn1 hn2 hu)
  rw [Bool.not_eq_true] at hrose
  rw [hrose]
  have hall:∀ k,lo<=k->k < lo+n->rk (kyd (arrOf st) k)=rk (kyd (arrOf st) (lo+n - 1)):=λk hk1 hk2=>
   KeyOrd.kle_antisymm (hu k (lo+n - 1) hk1 (by lia) (by lia)) (KeyOrd.kle_trans hrose (hu lo k (by lia) hk1 hk2))
  refine wpS_bind (pj ?_)
  have hB2:=hB.rev (i:=lo) (j:=lo+n) (Nat.le_refl _) (by lia)
  have hd:gO rk (arrOf (setArr st (mirror (arrOf st) lo (lo+n) ((lo+n - lo) / 2)))) lo (n+1):=by
   refine gO.congr (xs:=arrOf st) (gO.more (λi j hi hij hj=>?_) (by lia) (KeyOrd.kle_of_klt hlt)) (h7 hsz hall)
   rw [hall i hi (by lia),hall j (by lia) hj];exact KeyOrd.kle_refl _
  generalize setArr st (mirror (arrOf st) lo (lo+n) ((lo+n - lo) / 2))=st2 at hB2 hd ⊢
  clear hu hlt hrose hall hB hsz hor
 case' neg=>
  refine bn hgt ?_
  have hB2:=hB
  have hd:gO rk (arrOf st) lo (n+1):=by
   refine gO.more (λi j hi hij hj=>?_) (by lia) (KeyOrd.kle_of_klt hlt)
   rw [show i=j by lia];exact KeyOrd.kle_refl _
  clear hu hlt hB hsz hor
  revert hB2 hd
  generalize st=st2
  intro hB2 hd
 all_goals
  refine wpS_bind (gG ?_)
  refine wpS_bind (xc (λx m q st' Q' hm1 hm2 hB' c1 c2 c3 c4=>?_) (by lia) hn3 hz hB2 hd λm q st' hm1 hm2 hB' hd' he=>?_)
  ·refine wpS_bind (asc st' hB' m _ hm1 hm2 ?_)
   cases hl:O.blt (rk (kyd (arrOf st') (lo+m))) (rk (kyd (arrOf st') (lo+m - 1))) with
   | true=>
    dsimp only
    refine bE rfl ?_
    by_cases hq:q > 0
    ·rw [if_pos hq];exact wpS_bind (pj (wpS_pure (c1 hl hq)))
    ·rw [if_neg hq];exact wpS_pure (c2 hl (by lia))
   | false=>
    dsimp only
    refine bn (by simp) ?_
    refine wpS_bind (si hC hS hB' (by lia) (by lia) ?_)
    cases hl2:O.blt (rk (kyd (arrOf st') (lo+m - 1))) (rk (kyd (arrOf st') (lo+m))) with
    | true=>exact wpS_pure (c3 hl2)
    | false=>exact wpS_pure (c4 hl hl2)
  have hsz':lo+m<=(arrOf st').size:=by rw [hB'.size];lia
  dsimp only
  by_cases hq:q > 0
  case' pos=>
   refine bE hq ?_
   refine wpS_bind (pj ?_)
   have hB3:=hB'.rev (i:=lo+m - (q+1)) (j:=lo+m) (by have:=he.1;lia) (by lia)
   have hd3:gO rk (arrOf (setArr st' (mirror (arrOf st') (lo+m - (q+1)) (lo+m) ((lo+m - (lo+m - (q+1))) / 2)))) lo m:=gO.congr hd' (h7 hsz' he.2)
   generalize setArr st' (mirror (arrOf st') (lo+m - (q+1)) (lo+m) ((lo+m - (lo+m - (q+1))) / 2))=st3 at hB3 hd3 ⊢
  case' neg=>
   refine bn hq ?_
   have hB3:=hB'
   have hd3:=hd'
  all_goals
   refine zc hB3 hd3 (by lia) hm2 hz (λx n' Q' st4 hB4 hn1' hn2' hy hno=>?_) λn' st4 hB4 a1 a2 a3=>wpS_pure (h n' st4 hB4 a1 a2 a3)
   refine wpS_bind (asc st4 hB4 n' _ hn1' hn2' ?_)
   cases hl:O.blt (rk (kyd (arrOf st4) (lo+n'))) (rk (kyd (arrOf st4) (lo+n' - 1))) with
   | true=>exact wpS_pure (hy hl)
   | false=>exact wpS_pure (hno hl)
end
end L2
namespace L2
open PySem PySem.Spec PyProof.Rows
section
variable {prog:Program}{w:World}{A:Around}{E:Value->Shared->Prop}{s:Shared}{κ:SortKind}{O:KeyOrd}{rk:Keyed->O.α}{S:Keyed->Prop}
variable {a0:Array Keyed}{lo:Nat}{p0:Array (Nat×Nat×Nat)}{g0:Nat}{st:SortSt}
set_option maxHeartbeats 1000000 in
theorem pX (hC:Cm prog w A s κ O rk S) (hS:∀ x ∈ a0.toList,S x) {n ok:Nat}{Q:Bool->SortSt->Prop} (hB:SB κ a0 lo p0 g0 st) (h1:1<=ok) (hok:ok<=n) (hz:lo+n<=a0.size) (hu:Up rk (arrOf st) lo ok)
  (h:∀ st',SB κ a0 lo p0 g0 st'->Up rk (arrOf st') lo n->Q true st'):wpS (model prog w) A E s (Al lo n ok) Q st:=by
 refine wpS_bind (wpS_mono (wpS_forRange (I:=λk c st'=>c=(none,())/\SB κ a0 lo p0 g0 st'/\Up rk (arrOf st') lo (min k n)) (Q:=λc st'=>c=(none,())/\SB κ a0 lo p0 g0 st'/\Up rk (arrOf st') lo n) ?_ ?_ ?_) ?_)
 ·rintro k c st' hk hkn ⟨rfl,hB',hs⟩
  rw [show min k n=k by lia] at hs
  dsimp only
  refine wpS_bind (wpS_mono (wpS_forRange (I:=λx c st2=>st2=st'/\∃ l r,c=(none,l,r)/\l<=r/\r<=k/\r - l<=k - x/\(∀ i,i < l->O.kle (rk (kyd (arrOf st') (lo+i))) (rk (kyd (arrOf st') (lo+k))))/\
    ∀ i,r<=i->i < k->O.klt (rk (kyd (arrOf st') (lo+k))) (rk (kyd (arrOf st') (lo+i))))
   (Q:=λc st2=>st2=st'/\∃ l r,c=(none,l,r)/\l<=k/\(∀ i,i < l->O.kle (rk (kyd (arrOf st') (lo+i))) (rk (kyd (arrOf st') (lo+k))))/\∀ i,l<=i->i < k->O.klt (rk (kyd (arrOf st') (lo+k))) (rk (kyd (arrOf st') (lo+i)))) ?_ ?_ ?_) ?_)
  ·rintro x c st2 _ hxk ⟨rfl,l,r,rfl,hlr,hrk,hm,hlo,hhi⟩
   dsimp only
   by_cases hge:l>=r
   ·refine bE hge ?_
    have e:l=r:=by lia
    subst e
    exact wpS_pure ⟨rfl,l,l,rfl,hrk,hlo,hhi⟩
   ·refine bn hge ?_
    refine wpS_bind (si hC hS hB' (by lia) (by lia) ?_)
    cases hl:O.blt (rk (kyd (arrOf st2) (lo+k))) (rk (kyd (arrOf st2) (lo+(l+r) / 2))) with
    | true=>exact wpS_pure ⟨rfl,l,(l+r) / 2,rfl,by lia,by lia,by lia,hlo,λi h1 h2=>KeyOrd.klt_of_klt_of_kle hl (hs _ _ (by lia) (by lia) (by lia))⟩
    | false=>exact wpS_pure ⟨rfl,(l+r) / 2+1,r,rfl,by lia,by lia,by lia,λi h1=>KeyOrd.kle_trans (hs (lo+i) (lo+(l+r) / 2) (by lia) (by lia) (by lia)) hl,hhi⟩
  ·rintro c st2 ⟨rfl,l,r,rfl,hlr,hrk,hm,hlo,hhi⟩
   have e:l=r:=by lia
   subst e
   exact⟨rfl,l,l,rfl,hrk,hlo,hhi⟩
  ·exact⟨rfl,0,k,rfl,by lia,by lia,by lia,λi hi=>by lia,λi h1 h2=>by lia⟩
  ·rintro c st2 ⟨rfl,l,r,rfl,hlk,hlo,hhi⟩
   dsimp only
   refine wpS_bind (m:=moveDown' (lo+k) (lo+l)) ?_
   rw [moveDown'_eq]
   have hks:lo+k < (arrOf st2).size:=by rw [hB'.size];lia
   refine wpS_modify (wpS_pure ⟨rfl,hB'.set (bubble_perm _ _ _) λi hi=>?_,?_⟩)
   ·rw [getElem?_bubble hks _ (by lia),if_neg (by lia),if_neg (by lia)]
   ·rw [show min (k+1) n=k+1 by lia]
    intro i j hi hij hj
    show O.kle (rk (kyd (bubble (arrOf st2) (lo+k) (lo+k - (lo+l))) i)) (rk (kyd (bubble (arrOf st2) (lo+k) (lo+k - (lo+l))) j))
    rw [mN hks (by lia),mN hks (by lia),show lo+k - (lo+k - (lo+l))=lo+l by lia]
    have hlo':∀ i,lo<=i->i < lo+l->O.kle (rk (kyd (arrOf st2) i)) (rk (kyd (arrOf st2) (lo+k))):=λi h1 h2=>by
     have:=hlo (i - lo) (by lia);rwa [show lo+(i - lo)=i by lia] at this
    have hhi':∀ i,lo+l<=i->i < lo+k->O.klt (rk (kyd (arrOf st2) (lo+k))) (rk (kyd (arrOf st2) i)):=λi h1 h2=>by
     have:=hhi (i - lo) (by lia) (by lia);rwa [show lo+(i - lo)=i by lia] at this
    repeat' split
    all_goals first
     | (exfalso;lia)
     | exact KeyOrd.kle_refl _
     | exact hlo' _ (by lia) (by lia)
     | exact KeyOrd.kle_of_klt (hhi' _ (by lia) (by lia))
     | exact hs _ _ (by lia) (by lia) (by lia)
 ·rintro c st' ⟨rfl,hB',hs⟩
  rw [show min (max (max ok 1) n) n=n by lia] at hs
  exact⟨rfl,hB',hs⟩
 ·rw [show max ok 1=ok by lia,show min ok n=ok by lia]
  exact⟨rfl,hB,hu⟩
 ·rintro c st' ⟨rfl,hB',hs⟩
  exact wpS_pure (h st' hB' hs)
noncomputable def bey (O:KeyOrd) (rk:Keyed->O.α) (left:Bool) (key x:Keyed):Bool:=if left=true then O.blt (rk x) (rk key) else !O.blt (rk key) (rk x)
set_option maxHeartbeats 1000000 in
theorem eM (hC:Cm prog w A s κ O rk S) {left:Bool}{key:Keyed}{arr:Array Keyed}{base n hint:Nat}{Q:Option Nat->SortSt->Prop} (hk:kindOf st=κ) (hkey:S key) (hz:base+n<=arr.size) (hS:∀ i,i < n->S (kyd arr (base+i)))
  (hh:hint < n) (anti:∀ i j,i<=j->j < n->bey O rk left key (kyd arr (base+j))=true->bey O rk left key (kyd arr (base+i))=true)
  (h:∀ k,k<=n->(∀ i,i < k->bey O rk left key (kyd arr (base+i))=true)->(∀ i,k<=i->i < n->bey O rk left key (kyd arr (base+i))=false)->Q (some k) st) :
  wpS (model prog w) A E s (oF left key arr base n hint) Q st:=by
 have bey1:∀ i (Q':Option Bool->SortSt->Prop),i < n->Q' (some (bey O rk left key (kyd arr (base+i)))) st->wpS (model prog w) A E s (elem' arr (base+i) >>= λx=>if left=true then lt' x key else lt' key x >>= λb=>pure (b.map (!·))) Q' st:=λi Q' hi hq=>by
  refine wpS_bind (bF (br (by lia)) ?_)
  cases left with
  | true=>exact qH hC hk (hS i hi) hkey hq
  | false=>exact wpS_bind (qH hC hk hkey (hS i hi) (wpS_pure hq))
 have bin:∀ l0 h0,l0<=h0->h0<=n->(∀ i,i < l0->bey O rk left key (kyd arr (base+i))=true)->(∀ i,h0<=i->i < n->bey O rk left key (kyd arr (base+i))=false)->
   ∀ (f:Nat->Option (Option Nat)×Nat×Nat->StateT SortSt Sem (ForInStep (Option (Option Nat)×Nat×Nat))) (k:Option (Option Nat)×Nat×Nat->StateT SortSt Sem (Option Nat)),
   (∀ x l r (Q':ForInStep (Option (Option Nat)×Nat×Nat)->SortSt->Prop),l<=r->r<=n->(r<=l->Q' (.done (none,l,r)) st)->(l < r->bey O rk left key (kyd arr (base+(l+(r - l) / 2)))=true->Q' (.yield (none,l+(r - l) / 2+1,r)) st)->
     (l < r->bey O rk left key (kyd arr (base+(l+(r - l) / 2)))=false->Q' (.yield (none,l,l+(r - l) / 2)) st)->wpS (model prog w) A E s (f x (none,l,r)) Q' st)->
   (∀ l r,k (none,l,r)=pure (some r))->wpS (model prog w) A E s (forIn [0:n] (none,l0,h0) f >>= k) Q st:=λl0 h0 e1 e2 e3 e4 f k hf hkk=>by
  refine wpS_bind (wpS_mono (wpS_forRange (I:=λx c st2=>st2=st/\∃ l r,c=(none,l,r)/\l<=r/\r<=n/\r - l<=n - x/\(∀ i,i < l->bey O rk left key (kyd arr (base+i))=true)/\∀ i,r<=i->i < n->bey O rk left key (kyd arr (base+i))=false)
   (Q:=λc st2=>st2=st/\∃ r,c=(none,r,r)/\r<=n/\(∀ i,i < r->bey O rk left key (kyd arr (base+i))=true)/\∀ i,r<=i->i < n->bey O rk left key (kyd arr (base+i))=false) ?_ ?_ ?_) ?_)
  ·rintro x c st2 _ hx ⟨rfl,l,r,rfl,a1,a2,a3,a4,a5⟩
   refine hf x l r _ a1 a2 (λhrl=>?_) (λhlr ht=>?_) λhlr ht=>?_
   ·have e:l=r:=by lia
    subst e
    exact⟨rfl,l,rfl,a2,a4,a5⟩
   ·refine⟨rfl,_,_,rfl,by lia,a2,by lia,λi hi=>?_,a5⟩
    exact anti i (l+(r - l) / 2) (by lia) (by lia) ht
   ·refine⟨rfl,_,_,rfl,by lia,by lia,by lia,a4,λi h1 h2=>?_⟩
    cases q:bey O rk left key (kyd arr (base+i)) with
    | false=>rfl
    | true=>rw [anti (l+(r - l) / 2) i h1 h2 q] at ht;cases ht
  ·rintro c st2 ⟨rfl,l,r,rfl,a1,a2,a3,a4,a5⟩
   have e:l=r:=by lia
   subst e
   exact⟨rfl,l,rfl,a2,a4,a5⟩
  ·exact⟨rfl,l0,h0,rfl,e1,e2,by lia,e3,e4⟩
  ·rintro c st2 ⟨rfl,r,rfl,a2,a4,a5⟩
   rw [hkk]
   exact wpS_pure (h r a2 a4 a5)
 refine wpS_bind (bey1 hint _ hh ?_)
 dsimp only
 cases hb:bey O rk left key (kyd arr (base+hint)) with
 | true=>
  refine bE rfl ?_
  refine wpS_bind (wpS_mono (wpS_forRange (I:=λx c st2=>st2=st/\∃ l o,c=(none,l,o)/\l < o/\x+1<=o/\hint+l < n/\bey O rk left key (kyd arr (base+(hint+l)))=true)
   (Q:=λc st2=>st2=st/\∃ l o,c=(none,l,o)/\l < o/\hint+l < n/\bey O rk left key (kyd arr (base+(hint+l)))=true/\(n - hint<=o\/hint+o < n/\bey O rk left key (kyd arr (base+(hint+o)))=false)) ?_ ?_ ?_) ?_)
  ·rintro x c st2 _ hx ⟨rfl,l,o,rfl,a1,a2,a3,a4⟩
   dsimp only
   by_cases ho:o>=n - hint
   ·rw [if_pos ho];exact wpS_pure ⟨rfl,l,o,rfl,a1,a3,a4,.inl ho⟩
   ·refine bn ho ?_
    refine wpS_bind (bey1 (hint+o) _ (by lia) ?_)
    cases hb2:bey O rk left key (kyd arr (base+(hint+o))) with
    | true=>exact wpS_pure ⟨rfl,o,2*o+1,rfl,by lia,by lia,by lia,hb2⟩
    | false=>exact wpS_pure ⟨rfl,l,o,rfl,a1,a3,a4,.inr ⟨by lia,hb2⟩⟩
  ·rintro c st2 ⟨rfl,l,o,rfl,a1,a2,a3,a4⟩
   exact⟨rfl,l,o,rfl,a1,a3,a4,.inl (by lia)⟩
  ·exact⟨rfl,0,1,rfl,by lia,by lia,by lia,hb⟩
  ·rintro c st2 ⟨rfl,l,o,rfl,a1,a3,a4,a5⟩
   dsimp only
   refine bin _ _ (by lia) (by lia) (λi hi=>anti i (hint+l) (by lia) a3 a4) (λi h1 h2=>?_) _ _ (λx l r Q' b1 b2 c1 c2 c3=>?_) λl r=>rfl
   ·rcases a5 with a5 | a5
    ·lia
    ·cases q:bey O rk left key (kyd arr (base+i)) with
     | false=>rfl
     | true=>rw [anti (hint+o) i (by lia) h2 q] at a5;exact absurd a5.2 (by simp)
   ·dsimp only
    by_cases hge:l>=r
    ·rw [if_pos hge];exact wpS_pure (c1 hge)
    ·refine bn hge ?_
     refine wpS_bind (bey1 (l+(r - l) / 2) _ (by lia) ?_)
     cases hb3:bey O rk left key (kyd arr (base+(l+(r - l) / 2))) with
     | true=>exact wpS_pure (c2 (by lia) hb3)
     | false=>exact wpS_pure (c3 (by lia) hb3)
 | false=>
  refine bn (by simp) ?_
  refine wpS_bind (wpS_mono (wpS_forRange (I:=λx c st2=>st2=st/\∃ l o,c=(none,l,o)/\l < o/\x+1<=o/\l<=hint/\bey O rk left key (kyd arr (base+(hint - l)))=false)
   (Q:=λc st2=>st2=st/\∃ l o,c=(none,l,o)/\l < o/\l<=hint/\bey O rk left key (kyd arr (base+(hint - l)))=false/\(hint+1<=o\/o<=hint/\bey O rk left key (kyd arr (base+(hint - o)))=true)) ?_ ?_ ?_) ?_)
  ·rintro x c st2 _ hx ⟨rfl,l,o,rfl,a1,a2,a3,a4⟩
   dsimp only
   by_cases ho:o>=hint+1
   ·rw [if_pos ho];exact wpS_pure ⟨rfl,l,o,rfl,a1,a3,a4,.inl ho⟩
   ·refine bn ho ?_
    refine wpS_bind (bey1 (hint - o) _ (by lia) ?_)
    cases hb2:bey O rk left key (kyd arr (base+(hint - o))) with
    | false=>exact wpS_pure ⟨rfl,o,2*o+1,rfl,by lia,by lia,by lia,hb2⟩
    | true=>exact wpS_pure ⟨rfl,l,o,rfl,a1,a3,a4,.inr ⟨by lia,hb2⟩⟩
  ·rintro c st2 ⟨rfl,l,o,rfl,a1,a2,a3,a4⟩
   exact⟨rfl,l,o,rfl,a1,a3,a4,.inl (by lia)⟩
  ·exact⟨rfl,0,1,rfl,by lia,by lia,by lia,hb⟩
  ·rintro c st2 ⟨rfl,l,o,rfl,a1,a3,a4,a5⟩
   dsimp only
   refine bin _ _ (by lia) (by lia) (λi hi=>?_) (λi h1 h2=>?_) _ _ (λx l r Q' b1 b2 c1 c2 c3=>?_) λl r=>rfl
   ·rcases a5 with a5 | a5
    ·lia
    ·exact anti i (hint - o) (by lia) (by lia) a5.2
   ·cases q:bey O rk left key (kyd arr (base+i)) with
    | false=>rfl
    | true=>rw [anti (hint - l) i (by lia) h2 q] at a4;cases a4
   ·dsimp only
    by_cases hge:l>=r
    ·rw [if_pos hge];exact wpS_pure (c1 hge)
    ·refine bn hge ?_
     refine wpS_bind (bey1 (l+(r - l) / 2) _ (by lia) ?_)
     cases hb3:bey O rk left key (kyd arr (base+(l+(r - l) / 2))) with
     | true=>exact wpS_pure (c2 (by lia) hb3)
     | false=>exact wpS_pure (c3 (by lia) hb3)
end
end L2
namespace L2
open PySem PySem.Spec PyProof.Rows
section
variable {O:KeyOrd}{rk:Keyed->O.α}
noncomputable def mrg (O:KeyOrd) (rk:Keyed->O.α) (xs ys:List Keyed):List Keyed:=List.merge xs ys λx y=>!O.blt (rk y) (rk x)
theorem gJ (xs:List Keyed):mrg O rk xs []=xs:=by unfold mrg;simp
theorem iA (ys:List Keyed):mrg O rk [] ys=ys:=by unfold mrg;simp
theorem nE {x y:Keyed}{xs ys:List Keyed} (h:O.blt (rk y) (rk x)=false):mrg O rk (x::xs) (y::ys)=x::mrg O rk xs (y::ys):=by
 unfold mrg;rw [List.cons_merge_cons,h];rfl
theorem lm {x y:Keyed}{xs ys:List Keyed} (h:O.blt (rk y) (rk x)=true):mrg O rk (x::xs) (y::ys)=y::mrg O rk (x::xs) ys:=by
 unfold mrg;rw [List.cons_merge_cons,h];rfl
theorem oD {x:Keyed}:∀ {ys:List Keyed},(∀ y ∈ ys,O.blt (rk y) (rk x)=true)->mrg O rk [x] ys=ys++[x]
 | [],_=>gJ _
 | y::ys,h=>by rw [lm (h y List.mem_cons_self),oD λz hz=>h z (List.mem_cons_of_mem _ hz)];rfl
theorem kc {x:Keyed}:∀ (xs ys:List Keyed),(∀ y ∈ ys,O.blt (rk y) (rk x)=true)->mrg O rk (xs++[x]) ys=mrg O rk xs ys++[x]
 | [],ys,h=>by rw [List.nil_append,oD h,iA]
 | a::xs,[],h=>by rw [gJ,gJ]
 | a::xs,y::ys,h=>by
  rw [List.cons_append]
  cases hb:O.blt (rk y) (rk a) with
  | true=>rw [lm hb,lm hb,<-List.cons_append,kc (a::xs) ys λz hz=>h z (List.mem_cons_of_mem _ hz)];rfl
  | false=>rw [nE hb,nE hb,kc xs (y::ys) h];rfl
termination_by xs ys=>xs.length+ys.length
theorem sj {y:Keyed}:∀ {xs:List Keyed},(∀ x ∈ xs,O.blt (rk y) (rk x)=false)->mrg O rk xs [y]=xs++[y]
 | [],_=>iA _
 | x::xs,h=>by rw [nE (h x List.mem_cons_self),sj λz hz=>h z (List.mem_cons_of_mem _ hz)];rfl
theorem jW {y:Keyed}:∀ (xs ys:List Keyed),(∀ x ∈ xs,O.blt (rk y) (rk x)=false)->mrg O rk xs (ys++[y])=mrg O rk xs ys++[y]
 | xs,[],h=>by rw [List.nil_append,sj h,gJ]
 | [],b::ys,h=>by rw [iA,iA]
 | a::xs,b::ys,h=>by
  rw [List.cons_append]
  cases hb:O.blt (rk b) (rk a) with
  | true=>rw [lm hb,lm hb,jW (a::xs) ys h];rfl
  | false=>rw [nE hb,nE hb,<-List.cons_append,jW xs (b::ys) λz hz=>h z (List.mem_cons_of_mem _ hz)];rfl
termination_by xs ys=>xs.length+ys.length
theorem lS (xs ys:List Keyed):(mrg O rk xs ys).Perm (xs++ys):=List.merge_perm_append _
theorem zr {xs ys:List Keyed} (hx:xs.Pairwise λa b=>O.kle (rk a) (rk b)) (hy:ys.Pairwise λa b=>O.kle (rk a) (rk b)):(mrg O rk xs ys).Pairwise λa b=>O.kle (rk a) (rk b):=by
 have:=List.pairwise_merge (le:=λx y=>!O.blt (rk y) (rk x)) (λa b c h1 h2=>by
   simp only [Bool.not_eq_true'] at *;exact KeyOrd.kle_trans (O:=O) h1 h2) (λa b=>by
   simp only [Bool.or_eq_true,Bool.not_eq_true']
   cases h:O.blt (rk b) (rk a) with
   | false=>exact .inl rfl
   | true=>exact .inr (KeyOrd.klt_asymm (O:=O) h)) xs ys (hx.imp λh=>by rw [Bool.not_eq_true'];exact h) (hy.imp λh=>by rw [Bool.not_eq_true'];exact h)
 exact this.imp λh=>by rw [Bool.not_eq_true'] at h;exact h
theorem d8 {a:Array Keyed}{i:Nat} (h:i < a.size):a.toList.drop i=kyd a i::a.toList.drop (i+1):=by
 have e:=br h
 rw [Array.getElem?_eq_getElem h] at e
 rw [List.drop_eq_getElem_cons (by simpa using h)]
 rw [<-Option.some.inj e];simp
theorem lB {a:Array Keyed}{i:Nat} (h:i < a.size):a.toList.take (i+1)=a.toList.take i++[kyd a i]:=by
 have e:=br h
 rw [Array.getElem?_eq_getElem h] at e
 rw [List.take_succ_eq_append_getElem (by simpa using h)]
 rw [<-Option.some.inj e];simp
theorem sg {a:Array Keyed}{x:Keyed} (h:x ∈ a.toList):∃ i,i < a.size/\x=kyd a i:=by
 obtain⟨i,hi,e⟩:=List.mem_iff_getElem.mp h
 have hi':i < a.size:=by simpa using hi
 refine⟨i,hi',?_⟩
 have q:=br hi'
 rw [Array.getElem?_eq_getElem hi'] at q
 rw [<-Option.some.inj q,<-e];simp
noncomputable def MI (O:KeyOrd) (rk:Keyed->O.α) (a b out:Array Keyed) (ia ib:Nat):Prop:=out.toList++mrg O rk (a.toList.drop ia) (b.toList.drop ib)=mrg O rk a.toList b.toList
variable {a b out:Array Keyed}{ia ib:Nat}
theorem MI.start:MI O rk a b #[] 0 0:=by unfold MI;simp
theorem MI.b1 (h:MI O rk a b out ia ib) (hb:ib < b.size) (ha:ia < a.size) (hl:O.blt (rk (kyd b ib)) (rk (kyd a ia))=true):MI O rk a b (out.push (kyd b ib)) ia (ib+1):=by
 unfold MI at *
 rw [d8 ha,d8 hb,lm hl] at h
 rw [<-h,d8 ha];simp
theorem MI.a1 (h:MI O rk a b out ia ib) (hb:ib < b.size) (ha:ia < a.size) (hl:O.blt (rk (kyd b ib)) (rk (kyd a ia))=false):MI O rk a b (out.push (kyd a ia)) (ia+1) ib:=by
 unfold MI at *
 rw [d8 ha,d8 hb,nE hl] at h
 rw [<-h,d8 hb];simp
theorem ml {a:Array Keyed}{i k:Nat} (h:i+k < a.size):(out++a.extract i (i+(k+1)))=(out++a.extract i (i+k)).push (kyd a (i+k)):=by
 apply Array.toList_inj.mp
 rw [Array.toList_push,Array.toList_append,Array.toList_append,Array.toList_extract,Array.toList_extract]
 simp only [List.extract_eq_take_drop,Nat.add_sub_cancel_left]
 have e:(a.toList.drop i).take (k+1)=(a.toList.drop i).take k++[kyd a (i+k)]:=by
  rw [List.take_succ_eq_append_getElem (by simp;lia)]
  have q:=br h
  rw [Array.getElem?_eq_getElem h] at q
  rw [<-Option.some.inj q];simp
 rw [e,List.append_assoc]
theorem p9 {a:Array Keyed}{i:Nat}:out++a.extract i (i+0)=out:=by
 apply Array.toList_inj.mp
 simp
theorem MI.as (h:MI O rk a b out ia ib) (hb:ib < b.size):∀ k,ia+k<=a.size->(∀ i,i < k->bey O rk false (kyd b ib) (kyd a (ia+i))=true)->MI O rk a b (out++a.extract ia (ia+k)) (ia+k) ib
 | 0,_,_=>by rw [p9];exact h
 | k+1,hk,hq=>by
  rw [ml (by lia)]
  have:=MI.a1 (MI.as h hb k (by lia) λi hi=>hq i (by lia)) hb (by lia) (by simpa [bey] using hq k (by lia))
  exact this
theorem MI.bs (h:MI O rk a b out ia ib) (ha:ia < a.size):∀ k,ib+k<=b.size->(∀ i,i < k->bey O rk true (kyd a ia) (kyd b (ib+i))=true)->MI O rk a b (out++b.extract ib (ib+k)) ia (ib+k)
 | 0,_,_=>by rw [p9];exact h
 | k+1,hk,hq=>by
  rw [ml (by lia)]
  exact MI.b1 (MI.bs h ha k (by lia) λi hi=>hq i (by lia)) (by lia) ha (by simpa [bey] using hq k (by lia))
theorem fH {a:Array Keyed}{i:Nat}:(a.extract i a.size).toList=a.toList.drop i:=by
 rw [Array.toList_extract,List.extract_eq_take_drop,List.take_of_length_le (by simp)]
theorem MI.doneB (h:MI O rk a b out ia ib) (hb:ib=b.size):(out++a.extract ia a.size++b.extract ib b.size).toList=mrg O rk a.toList b.toList:=by
 unfold MI at h
 subst hb
 rw [Array.toList_append,Array.toList_append,fH,fH,<-h]
 rw [show b.toList.drop b.size=[] by simp,gJ,List.append_nil]
theorem MI.doneA (h:MI O rk a b out ia ib) (ha:ia=a.size):(out++a.extract ia a.size++b.extract ib b.size).toList=mrg O rk a.toList b.toList:=by
 unfold MI at h
 subst ha
 rw [Array.toList_append,Array.toList_append,fH,fH,<-h]
 rw [show a.toList.drop a.size=[] by simp,iA,List.append_nil]
theorem MI.lastA (h:MI O rk a b out ia ib) (ha:ia+1=a.size) (hl:∀ i,i < b.size->O.blt (rk (kyd b i)) (rk (kyd a (a.size - 1)))=true):(out++b.extract ib b.size++a.extract ia a.size).toList=mrg O rk a.toList b.toList:=by
 unfold MI at h
 rw [Array.toList_append,Array.toList_append,fH,fH,<-h,d8 (by lia:ia < a.size),show a.toList.drop (ia+1)=[] by simp;lia,oD,List.append_assoc]
 intro y hy
 obtain⟨i,hi,rfl⟩:=sg (List.mem_of_mem_drop hy)
 rw [show ia=a.size - 1 by lia]
 exact hl i hi
noncomputable def MH (O:KeyOrd) (rk:Keyed->O.α) (a b out:Array Keyed) (na nb:Nat):Prop:=mrg O rk (a.toList.take na) (b.toList.take nb)++out.toList.reverse=mrg O rk a.toList b.toList
variable {na nb:Nat}
theorem MH.start:MH O rk a b #[] a.size b.size:=by
 unfold MH
 rw [List.take_of_length_le (by simp),List.take_of_length_le (by simp)];simp
theorem MH.a1 (h:MH O rk a b out (na+1) nb) (ha:na < a.size) (hl:∀ i,i < nb->i < b.size->O.blt (rk (kyd b i)) (rk (kyd a na))=true):MH O rk a b (out.push (kyd a na)) na nb:=by
 unfold MH at *
 rw [lB ha,kc _ _ λy hy=>?_] at h
 ·rw [<-h];simp
 ·obtain⟨i,hi,e⟩:=List.mem_iff_getElem.mp hy
  have hi':i < nb/\i < b.size:=by simp at hi;lia
  have q:=br hi'.2
  rw [Array.getElem?_eq_getElem hi'.2] at q
  have:y=kyd b i:=by rw [<-e,<-Option.some.inj q];simp
  rw [this];exact hl i hi'.1 hi'.2
theorem MH.b1 (h:MH O rk a b out na (nb+1)) (hb:nb < b.size) (hl:∀ i,i < na->i < a.size->O.blt (rk (kyd b nb)) (rk (kyd a i))=false):MH O rk a b (out.push (kyd b nb)) na nb:=by
 unfold MH at *
 rw [lB hb,jW _ _ λy hy=>?_] at h
 ·rw [<-h];simp
 ·obtain⟨i,hi,e⟩:=List.mem_iff_getElem.mp hy
  have hi':i < na/\i < a.size:=by simp at hi;lia
  have q:=br hi'.2
  rw [Array.getElem?_eq_getElem hi'.2] at q
  have:y=kyd a i:=by rw [<-e,<-Option.some.inj q];simp
  rw [this];exact hl i hi'.1 hi'.2
end
end L2
namespace L2
open PySem PySem.Spec PyProof.Rows
section
variable {prog:Program}{w:World}{A:Around}{E:Value->Shared->Prop}{s:Shared}{κ:SortKind}{O:KeyOrd}{rk:Keyed->O.α}{S:Keyed->Prop}{st:SortSt}{a b:Array Keyed}
noncomputable def Gs (st st':SortSt):Prop:=∃ g,st'=yO st g
theorem Gs.refl:Gs st st:=⟨gallopOf st,rfl⟩
theorem Gs.kind {st':SortSt} (h:Gs st st'):kindOf st'=kindOf st:=by obtain⟨g,rfl⟩:=h;rfl
theorem Gs.set {st':SortSt} (h:Gs st st') (g:Nat):Gs st (SortSt.mk' (kindOf st') (arrOf st') (pendingOf st') g (failedOf st')):=by obtain⟨g',rfl⟩:=h;exact⟨g,rfl⟩
structure Two (O:KeyOrd) (rk:Keyed->O.α) (S:Keyed->Prop) (a b:Array Keyed):Prop where
 sa:∀ i,i < a.size->S (kyd a i)
 sb:∀ i,i < b.size->S (kyd b i)
 ua:Up rk a 0 a.size
 ub:Up rk b 0 b.size
 pa:0 < a.size
 pb:0 < b.size
 first:O.blt (rk (kyd b 0)) (rk (kyd a 0))=true
 last:∀ i,i < b.size->O.blt (rk (kyd b i)) (rk (kyd a (a.size - 1)))=true
theorem Two.galA (T:Two O rk S a b) {ia na:Nat}{key:Keyed} (hn:ia+na<=a.size):∀ i j,i<=j->j < na->bey O rk false key (kyd a (ia+j))=true->bey O rk false key (kyd a (ia+i))=true:=λi j hij hj h=>by
 simp only [bey,Bool.false_eq_true,if_false,Bool.not_eq_true'] at h ⊢
 exact KeyOrd.kle_trans (O:=O) (T.ua (ia+i) (ia+j) (Nat.zero_le _) (by lia) (by lia)) h
theorem Two.galB (T:Two O rk S a b) {ib nb:Nat}{key:Keyed} (hn:ib+nb<=b.size):∀ i j,i<=j->j < nb->bey O rk true key (kyd b (ib+j))=true->bey O rk true key (kyd b (ib+i))=true:=λi j hij hj h=>by
 simp only [bey,if_true] at h ⊢
 exact KeyOrd.klt_of_kle_of_klt (O:=O) (T.ub (ib+i) (ib+j) (Nat.zero_le _) (by lia) (by lia)) h
set_option maxHeartbeats 4000000 in
structure Hid (G:Prop):Prop where
 out:G
theorem shr {C:Prop} [Decidable C] {G P:Prop} (hp:C->Hid G->P) (hn:¬ C->Hid G->P) (g:G):P:=if h:C then hp h ⟨g⟩ else hn h ⟨g⟩
theorem xC (hC:Cm prog w A s κ O rk S) {Q:Array Keyed->SortSt->Prop} (hk:kindOf st=κ) (T:Two O rk S a b)
  (h:∀ r st',Gs st st'->r.toList=mrg O rk a.toList b.toList->Q r st'):wpS (model prog w) A E s (AS a b) Q st:=by
 refine wpS_bind (gG ?_)
 refine wpS_bind (bF (br T.pb) ?_)
 have I0:MI O rk a b #[kyd b 0] 0 1:=MI.start.b1 T.pb T.pa T.first
 dsimp -zeta only
 by_cases e1:1=b.size
 ·refine bE (by simpa using e1) ?_
  exact wpS_pure (h _ _ .refl (I0.doneB e1))
 refine bn (by simpa using e1) ?_
 by_cases e2:0+1=a.size
 ·refine bE (by simpa using e2) ?_
  exact wpS_pure (h _ _ .refl (I0.lastA e2 T.last))
 refine bn (by simpa using e2) ?_
 have pa:=T.pa
 have pb:=T.pb
 refine wpS_bind (wpS_get ?_)
 refine wpS_bind (wpS_mono (wpS_forRange (I:=λx c st'=>∃ out ia ib g,c=(none,out,ia,ib,g)/\MI O rk a b out ia ib/\ia+1 < a.size/\ib < b.size/\x+1<=ia+ib/\Gs st st')
  (Q:=λc st'=>∃ r c',c=(some r,c')/\r.toList=mrg O rk a.toList b.toList/\Gs st st') ?_ ?_ ?_) ?_)
 ·rintro x c st' _ hx ⟨out,ia,ib,g,rfl,I,ha,hb,hp,hG⟩
  have hk':kindOf st'=κ:=hG.kind.trans hk
  refine wpS_bind (wpS_mono (wpS_forRange (I:=λy c st2=>st2=st'/\∃ out ja jb ac bc,c=(none,out,ja,jb,ac,bc)/\MI O rk a b out ja jb/\ja+1 < a.size/\jb < b.size/\ia+ib+y<=ja+jb)
   (Q:=λc st2=>st2=st'/\((∃ r c',c=(some r,c')/\r.toList=mrg O rk a.toList b.toList)\/∃ out ja jb ac bc,c=(none,out,ja,jb,ac,bc)/\MI O rk a b out ja jb/\ja+1 < a.size/\jb < b.size/\ia+ib+1<=ja+jb)) ?_ ?_ ?_) ?_)
  ·rintro y c st2 _ hy ⟨rfl,out2,ja,jb,ac,bc,rfl,I2,ha2,hb2,hp2⟩
   dsimp only
   refine wpS_bind (bF (br hb2) (wpS_bind (bF (br (by lia)) (wpS_bind (qH hC hk' (T.sb _ hb2) (T.sa _ (by lia)) ?_)))))
   cases hl:O.blt (rk (kyd b jb)) (rk (kyd a ja)) with
   | true=>
    dsimp only
    refine bE rfl ?_
    refine wpS_bind (bF (br hb2) ?_)
    have I3:=I2.b1 hb2 (by lia) hl
    by_cases e3:jb+1=b.size
    ·refine bE (by simpa using e3) ?_
     exact wpS_pure ⟨rfl,.inl ⟨_,_,rfl,I3.doneB e3⟩⟩
    ·refine bn (by simpa using e3) ?_
     split
     ·exact wpS_pure ⟨rfl,.inr ⟨_,_,_,_,_,rfl,I3,ha2,by lia,by lia⟩⟩
     ·exact wpS_pure ⟨rfl,_,_,_,_,_,rfl,I3,ha2,by lia,by lia⟩
   | false=>
    dsimp only
    refine bn (by simp) ?_
    refine wpS_bind (bF (br (by lia)) ?_)
    have I3:=I2.a1 hb2 (by lia) hl
    by_cases e3:ja+1+1=a.size
    ·refine bE (by simpa using e3) ?_
     exact wpS_pure ⟨rfl,.inl ⟨_,_,rfl,I3.lastA e3 T.last⟩⟩
    ·refine bn (by simpa using e3) ?_
     split
     ·exact wpS_pure ⟨rfl,.inr ⟨_,_,_,_,_,rfl,I3,by lia,hb2,by lia⟩⟩
     ·exact wpS_pure ⟨rfl,_,_,_,_,_,rfl,I3,by lia,hb2,by lia⟩
  ·rintro c st2 ⟨rfl,out2,ja,jb,ac,bc,rfl,I2,ha2,hb2,hp2⟩
   exact⟨rfl,.inr ⟨_,_,_,_,_,rfl,I2,ha2,hb2,by lia⟩⟩
  ·exact⟨rfl,out,ia,ib,0,0,rfl,I,ha,hb,by lia⟩
  ·rintro c st2 ⟨rfl,⟨r,c',rfl,hr⟩ | ⟨out2,ja,jb,ac,bc,rfl,I2,ha2,hb2,hp2⟩⟩
   ·exact wpS_pure ⟨_,_,rfl,hr,hG⟩
   refine wpS_bind (gG ?_)
   refine wpS_bind (wpS_mono (wpS_forRange (I:=λy c st3=>Gs st st3/\∃ out ja jb g ac bc,c=(none,out,ja,jb,g,ac,bc)/\MI O rk a b out ja jb/\ja+1 < a.size/\jb < b.size/\ia+ib+1<=ja+jb)
    (Q:=λc st3=>Gs st st3/\((∃ r c',c=(some r,c')/\r.toList=mrg O rk a.toList b.toList)\/∃ out ja jb g ac bc,c=(none,out,ja,jb,g,ac,bc)/\MI O rk a b out ja jb/\ja+1 < a.size/\jb < b.size/\ia+ib+1<=ja+jb)) ?_ ?_ ?_) ?_)
   ·rintro y c st3 _ hy ⟨hG3,out3,ja,jb,g3,ac,bc,rfl,I3,ha3,hb3,hp3⟩
    dsimp -zeta only
    have gal1:∀ (g4:Nat) (Q':Option Nat->SortSt->Prop),(∀ k,k<=a.size - ja->(∀ i,i < k->bey O rk false (kyd b jb) (kyd a (ja+i))=true)->(∀ i,k<=i->i < a.size - ja->bey O rk false (kyd b jb) (kyd a (ja+i))=false)->Q' (some k) (SortSt.mk' (kindOf st3) (arrOf st3) (pendingOf st3) g4 (failedOf st3)))->
      wpS (model prog w) A E s (oF false (kyd b jb) a ja (a.size - ja) 0) Q' (SortSt.mk' (kindOf st3) (arrOf st3) (pendingOf st3) g4 (failedOf st3)):=λg4 Q' hq=>
     eM hC (hG3.kind.trans hk) (T.sb _ hb3) (by lia) (λi hi=>T.sa _ (by lia)) (by lia) (T.galA (by lia)) hq
    dsimp only
    apply shr (C:=g3 > 1)
    case hp=>
     intro hg1 tail
     refine bE hg1 ?_
     generalize g3 - 1=g4
     revert g4
     exact tail.out
    case hn=>
     intro hg1 tail
     refine bn hg1 ?_
     exact tail.out g3
    case g=>
     intro g4
     refine wpS_bind (wpS_modify ?_)
     refine wpS_bind (bF (br hb3) (wpS_bind (gal1 _ _ λk hk1 hk2 hk3=>?_)))
     have I4:=I3.as hb3 k (by lia) hk2
     clear gal1 hk2
     dsimp only
     apply shr (C:=k > 0)
     case hp=>
      intro hk0 tail
      refine bE hk0 ?_
      by_cases e3:ja+k+1=a.size
      ·refine bE (by simpa using e3) ?_
       exact wpS_pure ⟨hG3.set _,.inl ⟨_,_,rfl,I4.lastA e3 T.last⟩⟩
      refine bn (by simpa using e3) ?_
      by_cases e4:ja+k=a.size
      ·refine bE (by simpa using e4) ?_
       exact wpS_pure ⟨hG3.set _,.inl ⟨_,_,rfl,I4.doneA e4⟩⟩
      refine bn (by simpa using e4) ?_
      have hb5:O.blt (rk (kyd b jb)) (rk (kyd a (ja+k)))=true:=by simpa [bey] using hk3 k (Nat.le_refl _) (by lia)
      have z:MI O rk a b (out3++a.extract ja (ja+k)) (ja+k) jb/\O.blt (rk (kyd b jb)) (rk (kyd a (ja+k)))=true/\ja+k+1 < a.size/\ia+ib+1<=ja+k+jb:=⟨I4,hb5,by lia,by lia⟩
      generalize out3++a.extract ja (ja+k)=out5 at z ⊢
      generalize ja+k=ja5 at z ⊢
      generalize k=ac5
      revert z
      revert ac5 out5 ja5
      exact tail.out
     case hn=>
      intro hk0 tail
      refine bn hk0 ?_
      have hb5:O.blt (rk (kyd b jb)) (rk (kyd a ja))=true:=by simpa [bey] using hk3 0 (by lia) (by lia)
      exact tail.out _ _ _ ⟨I3,hb5,ha3,hp3⟩
     case g=>
      clear I4 hk3 hk1 I3
      intro out5 ja5 ac5 z
      obtain⟨I4,hb5,ha5,hp5⟩:=z
      refine wpS_bind (bF (br hb3) ?_)
      have I5:=I4.b1 hb3 (by lia) hb5
      by_cases e5:jb+1=b.size
      ·refine bE (by simpa using e5) ?_
       exact wpS_pure ⟨hG3.set _,.inl ⟨_,_,rfl,I5.doneB e5⟩⟩
      refine bn (by simpa using e5) ?_
      refine wpS_bind (bF (br (by lia)) (wpS_bind (eM hC (hG3.kind.trans hk) (T.sa _ (by lia)) (by lia) (λi hi=>T.sb _ (by lia)) (by lia) (T.galB (by lia)) λk2 hk1 hk2 hk3=>?_)))
      have I6:=I5.bs (by lia) k2 (by lia) hk2
      clear hk2
      dsimp only
      apply shr (C:=k2 > 0)
      case hp=>
       intro hk20 tail
       refine bE hk20 ?_
       by_cases e6:jb+1+k2=b.size
       ·refine bE (by simpa using e6) ?_
        exact wpS_pure ⟨hG3.set _,.inl ⟨_,_,rfl,I6.doneB e6⟩⟩
       refine bn (by simpa using e6) ?_
       have hb7:O.blt (rk (kyd b (jb+1+k2))) (rk (kyd a ja5))=false:=by simpa [bey] using hk3 k2 (Nat.le_refl _) (by lia)
       have z:MI O rk a b (out5.push (kyd b jb)++b.extract (jb+1) (jb+1+k2)) ja5 (jb+1+k2)/\O.blt (rk (kyd b (jb+1+k2))) (rk (kyd a ja5))=false/\jb+1+k2 < b.size/\ia+ib+1<=ja5+1+(jb+1+k2):=⟨I6,hb7,by lia,by lia⟩
       generalize out5.push (kyd b jb)++b.extract (jb+1) (jb+1+k2)=out7 at z ⊢
       generalize jb+1+k2=jb7 at z ⊢
       generalize k2=bc7
       revert z
       revert bc7 out7 jb7
       exact tail.out
      case hn=>
       intro hk20 tail
       refine bn hk20 ?_
       have hb7:O.blt (rk (kyd b (jb+1))) (rk (kyd a ja5))=false:=by simpa [bey] using hk3 0 (by lia) (by lia)
       exact tail.out _ _ _ ⟨I5,hb7,by lia,by lia⟩
      case g=>
       clear I6 hk3 hk1 I5 I4
       intro out7 jb7 bc7 z
       obtain⟨I6,hb7,hj7,hp7⟩:=z
       refine wpS_bind (bF (br (by lia)) ?_)
       have I7:=I6.a1 hj7 (by lia) hb7
       by_cases e7:ja5+1+1=a.size
       ·refine bE (by simpa using e7) ?_
        exact wpS_pure ⟨hG3.set _,.inl ⟨_,_,rfl,I7.lastA e7 T.last⟩⟩
       refine bn (by simpa using e7) ?_
       split
       ·exact wpS_pure ⟨hG3.set _,.inr ⟨_,_,_,_,_,_,rfl,I7,by lia,hj7,hp7⟩⟩
       ·exact wpS_pure ⟨hG3.set _,_,_,_,_,_,_,rfl,I7,by lia,hj7,hp7⟩
   ·rintro c st3 ⟨hG3,out3,ja,jb,g3,ac,bc,rfl,I3,ha3,hb3,hp3⟩
    exact⟨hG3,.inr ⟨_,_,_,_,_,_,rfl,I3,ha3,hb3,hp3⟩⟩
   ·exact⟨hG,_,_,_,_,_,_,rfl,I2,ha2,hb2,hp2⟩
   ·rintro c st3 ⟨hG3,⟨r,c',rfl,hr⟩ | ⟨out3,ja,jb,g3,ac,bc,rfl,I3,ha3,hb3,hp3⟩⟩
    ·exact wpS_pure ⟨_,_,rfl,hr,hG3⟩
    ·refine wpS_bind (wpS_modify (wpS_pure ⟨out3,ja,jb,_,rfl,I3,ha3,hb3,by lia,hG3.set _⟩))
 ·rintro c st' ⟨out,ia,ib,g,rfl,I,ha,hb,hp,hG⟩
  exfalso;lia
 ·exact⟨_,_,_,_,rfl,I0,by lia,by lia,by lia,.refl⟩
 ·rintro c st' ⟨r,c',rfl,hr,hG⟩
  exact wpS_pure (h r st' hG hr)
end
end L2
namespace L2
open PySem PySem.Spec PyProof.Rows
section
variable {prog:Program}{w:World}{A:Around}{E:Value->Shared->Prop}{s:Shared}{κ:SortKind}{O:KeyOrd}{rk:Keyed->O.α}{S:Keyed->Prop}{st:SortSt}{a b out:Array Keyed}{na nb:Nat}
theorem ik {a:Array Keyed}{n:Nat}:(a.extract 0 n).toList=a.toList.take n:=by
 rw [Array.toList_extract,List.extract_eq_take_drop];simp
theorem MH.doneA (h:MH O rk a b out na nb) (e:na=0):(a.extract 0 na++b.extract 0 nb++out.reverse).toList=mrg O rk a.toList b.toList:=by
 unfold MH at h
 subst e
 rw [Array.toList_append,Array.toList_append,ik,ik,Array.toList_reverse,<-h,List.take_zero,iA,List.nil_append]
theorem MH.doneB (h:MH O rk a b out na nb) (e:nb=0):(a.extract 0 na++b.extract 0 nb++out.reverse).toList=mrg O rk a.toList b.toList:=by
 unfold MH at h
 subst e
 rw [Array.toList_append,Array.toList_append,ik,ik,Array.toList_reverse,<-h,List.take_zero,gJ,List.append_nil]
theorem MH.firstB (T:Two O rk S a b) (h:MH O rk a b out na nb) (ha:0 < na) (e:nb=1):(b.extract 0 nb++a.extract 0 na++out.reverse).toList=mrg O rk a.toList b.toList:=by
 unfold MH at h
 subst e
 have e1:b.toList.take 1=[kyd b 0]:=by rw [lB T.pb];simp
 have e2:a.toList.take na=kyd a 0::(a.toList.drop 1).take (na - 1):=by
  obtain⟨m,rfl⟩:∃ m,na=m+1:=⟨na - 1,by lia⟩
  have:=d8 T.pa
  rw [List.drop_zero] at this
  rw [this];simp
 rw [Array.toList_append,Array.toList_append,ik,ik,Array.toList_reverse,<-h,e1,e2,lm T.first,gJ]
 rfl
theorem Two.belowB (T:Two O rk S a b) {i j:Nat}{x:Keyed} (hij:i<=j) (hj:j < b.size) (h:O.blt (rk (kyd b j)) (rk x)=true):O.blt (rk (kyd b i)) (rk x)=true:=
 KeyOrd.klt_of_kle_of_klt (O:=O) (T.ub i j (Nat.zero_le _) hij (by lia)) h
theorem Two.belowA (T:Two O rk S a b) {i j:Nat}{x:Keyed} (hij:i<=j) (hj:j < a.size) (h:O.blt (rk x) (rk (kyd a j))=false):O.blt (rk x) (rk (kyd a i))=false:=
 KeyOrd.kle_trans (O:=O) (T.ua i j (Nat.zero_le _) hij (by lia)) h
theorem qp {a:Array Keyed}{t k:Nat} (h:t+k < a.size):out++(a.extract t (t+(k+1))).reverse=(out.push (kyd a (t+k)))++(a.extract t (t+k)).reverse:=by
 apply Array.toList_inj.mp
 have e:=ml (out:=#[]) (a:=a) (i:=t) (k:=k) h
 have e':a.extract t (t+(k+1))=(a.extract t (t+k)).push (kyd a (t+k)):=by
  have z:∀ x:Array Keyed,#[]++x=x:=λx=>by simp
  rw [z,z] at e;exact e
 rw [e'];simp
theorem MH.as (T:Two O rk S a b) {t:Nat} (hb:∀ i,i < nb->i < b.size->∀ j,t<=j->j < a.size->O.blt (rk (kyd b i)) (rk (kyd a j))=true):∀ (k:Nat) {out:Array Keyed},MH O rk a b out (t+k) nb->t+k<=a.size->MH O rk a b (out++(a.extract t (t+k)).reverse) t nb
 | 0,out,h,_=>by
  have:out++(a.extract t (t+0)).reverse=out:=by apply Array.toList_inj.mp;simp
  rw [this];exact h
 | k+1,out,h,hz=>by
  rw [qp (by lia)]
  exact MH.as T hb k (MH.a1 (na:=t+k) h (by lia) λi h1 h2=>hb i h1 h2 (t+k) (by lia) (by lia)) (by lia)
theorem MH.bs (T:Two O rk S a b) {t:Nat} (hb:∀ i,i < na->i < a.size->∀ j,t<=j->j < b.size->O.blt (rk (kyd b j)) (rk (kyd a i))=false):∀ (k:Nat) {out:Array Keyed},MH O rk a b out na (t+k)->t+k<=b.size->MH O rk a b (out++(b.extract t (t+k)).reverse) na t
 | 0,out,h,_=>by
  have:out++(b.extract t (t+0)).reverse=out:=by apply Array.toList_inj.mp;simp
  rw [this];exact h
 | k+1,out,h,hz=>by
  rw [qp (by lia)]
  exact MH.bs T hb k (MH.b1 (nb:=t+k) h (by lia) λi h1 h2=>hb i h1 h2 (t+k) (by lia) (by lia)) (by lia)
theorem MH.a1' (T:Two O rk S a b) (h:MH O rk a b out na nb) (ha:0 < na) (hz:na<=a.size) (hb:0 < nb) (hz2:nb<=b.size) (hl:O.blt (rk (kyd b (nb - 1))) (rk (kyd a (na - 1)))=true):MH O rk a b (out.push (kyd a (na - 1))) (na - 1) nb:=
 MH.a1 (by rw [show na - 1+1=na by lia];exact h) (by lia) λi h1 h2=>T.belowB (by lia) (by lia) hl
theorem MH.b1' (T:Two O rk S a b) (h:MH O rk a b out na nb) (ha:0 < na) (hz:na<=a.size) (hb:0 < nb) (hz2:nb<=b.size) (hl:O.blt (rk (kyd b (nb - 1))) (rk (kyd a (na - 1)))=false):MH O rk a b (out.push (kyd b (nb - 1))) na (nb - 1):=
 MH.b1 (by rw [show nb - 1+1=nb by lia];exact h) (by lia) λi h1 h2=>T.belowA (by lia) (by lia) hl
theorem MH.as' (T:Two O rk S a b) {t:Nat} (h:MH O rk a b out na nb) (ht:t<=na) (hz:na<=a.size) (hb:0 < nb) (hz2:nb<=b.size) (hq:∀ i,t<=i->i < na->bey O rk false (kyd b (nb - 1)) (kyd a (0+i))=false):MH O rk a b (out++(a.extract t na).reverse) t nb:=by
 by_cases e:t=na
 ·subst e
  have:out++(a.extract t t).reverse=out:=by apply Array.toList_inj.mp;simp
  rw [this];exact h
 have e2:t+(na - t)=na:=by lia
 have:=MH.as T (t:=t) (nb:=nb) (a:=a) (b:=b) (λi h1 h2 j h3 h4=>?_) (na - t) (out:=out) (by rw [e2];exact h) (by lia)
 ·rw [e2] at this;exact this
 ·have q:=hq t (Nat.le_refl _) (by lia)
  simp only [bey,Bool.false_eq_true,if_false,Bool.not_eq_false',Nat.zero_add] at q
  exact T.belowB (j:=nb - 1) (by lia) (by lia) (KeyOrd.klt_of_klt_of_kle (O:=O) q (T.ua t j (Nat.zero_le _) h3 (by lia)))
theorem MH.bs' (T:Two O rk S a b) {t:Nat} (h:MH O rk a b out na nb) (ht:t<=nb) (hz:nb<=b.size) (ha:0 < na) (hz2:na<=a.size) (hq:∀ i,t<=i->i < nb->bey O rk true (kyd a (na - 1)) (kyd b (0+i))=false):MH O rk a b (out++(b.extract t nb).reverse) na t:=by
 by_cases e:t=nb
 ·subst e
  have:out++(b.extract t t).reverse=out:=by apply Array.toList_inj.mp;simp
  rw [this];exact h
 have e2:t+(nb - t)=nb:=by lia
 have:=MH.bs T (t:=t) (na:=na) (a:=a) (b:=b) (λi h1 h2 j h3 h4=>?_) (nb - t) (out:=out) (by rw [e2];exact h) (by lia)
 ·rw [e2] at this;exact this
 ·have q:=hq t (Nat.le_refl _) (by lia)
  simp only [bey,if_true,Nat.zero_add] at q
  exact T.belowA (j:=na - 1) (by lia) (by lia) (KeyOrd.kle_trans (O:=O) q (T.ub t j (Nat.zero_le _) h3 (by lia)))
set_option maxHeartbeats 4000000 in
theorem xD (hC:Cm prog w A s κ O rk S) {Q:Array Keyed->SortSt->Prop} (hk:kindOf st=κ) (T:Two O rk S a b)
  (h:∀ r st',Gs st st'->r.toList=mrg O rk a.toList b.toList->Q r st'):wpS (model prog w) A E s (Bj a b) Q st:=by
 have pa:=T.pa
 have pb:=T.pb
 refine wpS_bind (gG ?_)
 refine wpS_bind (bF (br (by lia)) ?_)
 have I0:MH O rk a b #[kyd a (a.size - 1)] (a.size - 1) b.size:=by
  have e:a.size - 1+1=a.size:=by lia
  exact MH.a1 (out:=#[]) (by rw [e];exact MH.start) (by lia) λi h1 h2=>T.last i h2
 dsimp -zeta only
 by_cases e1:a.size - 1=0
 ·refine bE (by simpa using e1) ?_
  exact wpS_pure (h _ _ .refl (I0.doneA e1))
 refine bn (by simpa using e1) ?_
 by_cases e2:b.size=1
 ·refine bE (by simpa using e2) ?_
  exact wpS_pure (h _ _ .refl (I0.firstB T (by lia) e2))
 refine bn (by simpa using e2) ?_
 refine wpS_bind (wpS_get ?_)
 refine wpS_bind (wpS_mono (wpS_forRange (I:=λx c st'=>∃ out na nb g,c=(none,na,nb,out,g)/\MH O rk a b out na nb/\0 < na/\1 < nb/\na<=a.size/\nb<=b.size/\na+nb+x+1<=a.size+b.size/\Gs st st')
  (Q:=λc st'=>∃ r c',c=(some r,c')/\r.toList=mrg O rk a.toList b.toList/\Gs st st') ?_ ?_ ?_) ?_)
 ·rintro x c st' _ hx ⟨out,na,nb,g,rfl,I,ha,hb,hza,hzb,hp,hG⟩
  have hk':kindOf st'=κ:=hG.kind.trans hk
  refine wpS_bind (wpS_mono (wpS_forRange (I:=λy c st2=>st2=st'/\∃ out ma mb ac bc,c=(none,ma,mb,out,ac,bc)/\MH O rk a b out ma mb/\0 < ma/\1 < mb/\ma<=a.size/\mb<=b.size/\ma+mb+y<=na+nb)
   (Q:=λc st2=>st2=st'/\((∃ r c',c=(some r,c')/\r.toList=mrg O rk a.toList b.toList)\/∃ out ma mb ac bc,c=(none,ma,mb,out,ac,bc)/\MH O rk a b out ma mb/\0 < ma/\1 < mb/\ma<=a.size/\mb<=b.size/\ma+mb+1<=na+nb)) ?_ ?_ ?_) ?_)
  ·rintro y c st2 _ hy ⟨rfl,out2,ma,mb,ac,bc,rfl,I2,ha2,hb2,za2,zb2,hp2⟩
   dsimp only
   refine wpS_bind (bF (br (by lia)) (wpS_bind (bF (br (by lia)) (wpS_bind (qH hC hk' (T.sb _ (by lia)) (T.sa _ (by lia)) ?_)))))
   cases hl:O.blt (rk (kyd b (mb - 1))) (rk (kyd a (ma - 1))) with
   | true=>
    dsimp only
    refine bE rfl ?_
    refine wpS_bind (bF (br (by lia)) ?_)
    have I3:=I2.a1' T ha2 za2 (by lia) zb2 hl
    by_cases e3:ma - 1=0
    ·refine bE (by simpa using e3) ?_
     exact wpS_pure ⟨rfl,.inl ⟨_,_,rfl,I3.doneA e3⟩⟩
    ·refine bn (by simpa using e3) ?_
     split
     ·exact wpS_pure ⟨rfl,.inr ⟨_,_,_,_,_,rfl,I3,by lia,hb2,by lia,zb2,by lia⟩⟩
     ·exact wpS_pure ⟨rfl,_,_,_,_,_,rfl,I3,by lia,hb2,by lia,zb2,by lia⟩
   | false=>
    dsimp only
    refine bn (by simp) ?_
    refine wpS_bind (bF (br (by lia)) ?_)
    have I3:=I2.b1' T ha2 za2 (by lia) zb2 hl
    by_cases e3:mb - 1=1
    ·refine bE (by simpa using e3) ?_
     exact wpS_pure ⟨rfl,.inl ⟨_,_,rfl,I3.firstB T ha2 e3⟩⟩
    ·refine bn (by simpa using e3) ?_
     split
     ·exact wpS_pure ⟨rfl,.inr ⟨_,_,_,_,_,rfl,I3,ha2,by lia,za2,by lia,by lia⟩⟩
     ·exact wpS_pure ⟨rfl,_,_,_,_,_,rfl,I3,ha2,by lia,za2,by lia,by lia⟩
  ·rintro c st2 ⟨rfl,out2,ma,mb,ac,bc,rfl,I2,ha2,hb2,za2,zb2,hp2⟩
   exact⟨rfl,.inr ⟨_,_,_,_,_,rfl,I2,ha2,hb2,za2,zb2,by lia⟩⟩
  ·exact⟨rfl,out,na,nb,0,0,rfl,I,ha,hb,hza,hzb,by lia⟩
  ·rintro c st2 ⟨rfl,⟨r,c',rfl,hr⟩ | ⟨out2,ma,mb,ac,bc,rfl,I2,ha2,hb2,za2,zb2,hp2⟩⟩
   ·exact wpS_pure ⟨_,_,rfl,hr,hG⟩
   refine wpS_bind (gG ?_)
   refine wpS_bind (wpS_mono (wpS_forRange (I:=λy c st3=>Gs st st3/\∃ out ma mb g ac bc,c=(none,ma,mb,out,g,ac,bc)/\MH O rk a b out ma mb/\0 < ma/\1 < mb/\ma<=a.size/\mb<=b.size/\ma+mb+1<=na+nb)
    (Q:=λc st3=>Gs st st3/\((∃ r c',c=(some r,c')/\r.toList=mrg O rk a.toList b.toList)\/∃ out ma mb g ac bc,c=(none,ma,mb,out,g,ac,bc)/\MH O rk a b out ma mb/\0 < ma/\1 < mb/\ma<=a.size/\mb<=b.size/\ma+mb+1<=na+nb)) ?_ ?_ ?_) ?_)
   ·rintro y c st3 _ hy ⟨hG3,out3,ma,mb,g3,ac,bc,rfl,I3,ha3,hb3,za3,zb3,hp3⟩
    have gal1:∀ (g4:Nat) (Q':Option Nat->SortSt->Prop),(∀ k,k<=ma->(∀ i,i < k->bey O rk false (kyd b (mb - 1)) (kyd a (0+i))=true)->(∀ i,k<=i->i < ma->bey O rk false (kyd b (mb - 1)) (kyd a (0+i))=false)->Q' (some k) (SortSt.mk' (kindOf st3) (arrOf st3) (pendingOf st3) g4 (failedOf st3)))->
      wpS (model prog w) A E s (oF false (kyd b (mb - 1)) a 0 ma (ma - 1)) Q' (SortSt.mk' (kindOf st3) (arrOf st3) (pendingOf st3) g4 (failedOf st3)):=λg4 Q' hq=>
     eM hC (hG3.kind.trans hk) (T.sb _ (by lia)) (by lia) (λi hi=>T.sa _ (by lia)) (by lia) (T.galA (by lia)) hq
    dsimp only
    apply shr (C:=g3 > 1)
    case hp=>
     intro hg1 tail
     refine bE hg1 ?_
     generalize g3 - 1=g4
     revert g4
     exact tail.out
    case hn=>
     intro hg1 tail
     refine bn hg1 ?_
     exact tail.out g3
    case g=>
     intro g4
     refine wpS_bind (wpS_modify ?_)
     refine wpS_bind (bF (br (by lia)) (wpS_bind (gal1 _ _ λt hk1 hk2 hk3=>?_)))
     have I4:=I3.as' T hk1 za3 (by lia) zb3 hk3
     have hb5:∀ i,i < t->O.blt (rk (kyd b (mb - 1))) (rk (kyd a i))=false:=λi hi=>by simpa [bey] using hk2 i hi
     clear hk2 hk3 gal1
     dsimp only
     apply shr (C:=ma - t > 0)
     case hp=>
      intro hk0 tail
      refine bE hk0 ?_
      by_cases e3:t=0
      ·refine bE (by simpa using e3) ?_
       exact wpS_pure ⟨hG3.set _,.inl ⟨_,_,rfl,I4.doneA e3⟩⟩
      refine bn (by simpa using e3) ?_
      have ha5:0 < t:=by lia
      have za5:t<=a.size:=by lia
      have hp5:t+mb+1<=na+nb:=by lia
      have J4:=I4
      have jb5:=hb5
      generalize out3++(a.extract t ma).reverse=out5 at J4 ⊢
      generalize ma - t=ac5
      generalize t=t5 at jb5 J4 ha5 za5 hp5 ⊢
      revert jb5 J4 ha5 za5 hp5
      revert ac5 out5 t5
      exact tail.out
     case hn=>
      intro hk0 tail
      refine bn hk0 ?_
      have e0:t=ma:=by lia
      subst e0
      have e9:out3++(a.extract t t).reverse=out3:=by apply Array.toList_inj.mp;simp
      rw [e9] at I4
      exact tail.out _ _ t hb5 I4 ha3 za3 hp3
     case g=>
      clear I4 hb5 hk1
      intro out5 ac5 t hb5 I4 ha5 za5 hp5
      refine wpS_bind (bF (br (by lia)) ?_)
      have I5:=I4.b1' T ha5 za5 (by lia) zb3 (hb5 _ (by lia))
      by_cases e5:mb - 1=1
      ·refine bE (by simpa using e5) ?_
       exact wpS_pure ⟨hG3.set _,.inl ⟨_,_,rfl,I5.firstB T ha5 e5⟩⟩
      refine bn (by simpa using e5) ?_
      refine wpS_bind (bF (br (by lia)) (wpS_bind (eM hC (hG3.kind.trans hk) (T.sa _ (by lia)) (by lia) (λi hi=>T.sb _ (by lia)) (by lia) (T.galB (by lia)) λu hk1 hk2 hk3=>?_)))
      have I6:=I5.bs' T hk1 (by lia) ha5 za5 hk3
      have hb7:∀ i,i < u->O.blt (rk (kyd b i)) (rk (kyd a (t - 1)))=true:=λi hi=>by simpa [bey] using hk2 i hi
      clear hk2 hk3
      dsimp only
      apply shr (C:=mb - 1 - u > 0)
      case hp=>
       intro hk20 tail
       refine bE hk20 ?_
       by_cases e6:u=1
       ·refine bE (by simpa using e6) ?_
        exact wpS_pure ⟨hG3.set _,.inl ⟨_,_,rfl,I6.firstB T ha5 e6⟩⟩
       refine bn (by simpa using e6) ?_
       by_cases e7:u=0
       ·refine bE (by simpa using e7) ?_
        exact wpS_pure ⟨hG3.set _,.inl ⟨_,_,rfl,I6.doneB e7⟩⟩
       refine bn (by simpa using e7) ?_
       have hj7:1 < u:=by lia
       have zj7:u<=b.size:=by lia
       have hp7:t+u+1<=na+nb:=by lia
       have J6:=I6
       have jb7:=hb7
       generalize out5.push (kyd b (mb - 1))++(b.extract u (mb - 1)).reverse=out7 at J6 ⊢
       generalize mb - 1 - u=bc7
       generalize u=u7 at jb7 J6 hj7 zj7 hp7 ⊢
       revert jb7 J6 hj7 zj7 hp7
       revert bc7 out7 u7
       exact tail.out
      case hn=>
       intro hk20 tail
       refine bn hk20 ?_
       have e0:u=mb - 1:=by lia
       subst e0
       have e9:out5.push (kyd b (mb - 1))++(b.extract (mb - 1) (mb - 1)).reverse=out5.push (kyd b (mb - 1)):=by apply Array.toList_inj.mp;simp
       rw [e9] at I6
       exact tail.out _ _ (mb - 1) hb7 I6 (by lia) (by lia) (by lia)
      case g=>
       clear I6 hb7 hk1
       intro out7 bc7 u hb7 I6 hj7 zj7 hp7
       refine wpS_bind (bF (br (by lia)) ?_)
       have I7:=I6.a1' T ha5 za5 (by lia) zj7 (hb7 _ (by lia))
       by_cases e7:t - 1=0
       ·refine bE (by simpa using e7) ?_
        exact wpS_pure ⟨hG3.set _,.inl ⟨_,_,rfl,I7.doneA e7⟩⟩
       refine bn (by simpa using e7) ?_
       split
       ·exact wpS_pure ⟨hG3.set _,.inr ⟨_,_,_,_,_,_,rfl,I7,by lia,hj7,by lia,zj7,by lia⟩⟩
       ·exact wpS_pure ⟨hG3.set _,_,_,_,_,_,_,rfl,I7,by lia,hj7,by lia,zj7,by lia⟩
   ·rintro c st3 ⟨hG3,out3,ja,jb,g3,ac,bc,rfl,I3,ha3,hb3,za3,zb3,hp3⟩
    exact⟨hG3,.inr ⟨_,_,_,_,_,_,rfl,I3,ha3,hb3,za3,zb3,hp3⟩⟩
   ·exact⟨hG,_,_,_,_,_,_,rfl,I2,ha2,hb2,za2,zb2,hp2⟩
   ·rintro c st3 ⟨hG3,⟨r,c',rfl,hr⟩ | ⟨out3,ja,jb,g3,ac,bc,rfl,I3,ha3,hb3,za3,zb3,hp3⟩⟩
    ·exact wpS_pure ⟨_,_,rfl,hr,hG3⟩
    ·refine wpS_bind (wpS_modify (wpS_pure ⟨out3,ja,jb,_,rfl,I3,ha3,hb3,za3,zb3,by lia,hG3.set _⟩))
 ·rintro c st' ⟨out,ia,ib,g,rfl,I,ha,hb,hza,hzb,hp,hG⟩
  exfalso;lia
 ·exact⟨_,_,_,_,rfl,I0,by lia,by lia,by lia,by lia,by lia,.refl⟩
 ·rintro c st' ⟨r,c',rfl,hr,hG⟩
  exact wpS_pure (h r st' hG hr)
end
end L2
namespace L2
open PySem PySem.Spec PyProof.Rows
section
variable {prog:Program}{w:World}{A:Around}{E:Value->Shared->Prop}{s:Shared}{κ:SortKind}{O:KeyOrd}{rk:Keyed->O.α}{S:Keyed->Prop}{st:SortSt}{arr:Array Keyed}{n1 n2:Nat}
theorem sv (sa:Nat):∀ (l:List Keyed) (n:Nat) (arr:Array Keyed),sa+n+l.length<=arr.size->
  ((l.zipIdx n).foldl (λ(a:Array Keyed) x=>match x with | (p,j)=>a.setIfInBounds (sa+j) p) arr).toList=arr.toList.take (sa+n)++l++arr.toList.drop (sa+n+l.length)
 | [],n,arr,h=>by simp
 | p::l,n,arr,h=>by
  rw [List.zipIdx_cons,List.foldl_cons,sv sa l (n+1) _ (by simp only [List.length_cons] at h;simp;lia)]
  have hn:sa+n < arr.toList.length:=by simp only [List.length_cons] at h;simp;lia
  rw [Array.toList_setIfInBounds,<-Nat.add_assoc,List.take_succ_eq_append_getElem (by rw [List.length_set];exact hn),List.getElem_set_self,List.take_set_of_le (Nat.le_refl _),List.drop_set_of_lt (by lia),List.length_cons]
  simp [Nat.add_assoc,Nat.add_comm 1]
theorem eG {a:Array Keyed}{i j k:Nat} (h:k < j - i) (hj:j<=a.size):kyd (a.extract i j) k=kyd a (i+k):=by
 apply dB
 rw [Array.getElem?_extract_of_lt (by lia),Array.getElem?_eq_getElem (by lia)]
theorem nV {a:Array Keyed} (h:Up rk a 0 a.size):a.toList.Pairwise λx y=>O.kle (rk x) (rk y):=by
 rw [List.pairwise_iff_getElem]
 intro i j hi hj hij
 have hi':i < a.size:=by simpa using hi
 have hj':j < a.size:=by simpa using hj
 have q:=h i j (Nat.zero_le _) (by lia) (by lia)
 have e1:=br hi'
 have e2:=br hj'
 rw [Array.getElem?_eq_getElem hi'] at e1
 rw [Array.getElem?_eq_getElem hj'] at e2
 rw [<-Option.some.inj e1,<-Option.some.inj e2] at q
 simpa using q
theorem oG {a:Array Keyed}{i j:Nat} (h:Up rk a i (j - i)) (hj:j<=a.size):Up rk (a.extract i j) 0 (a.extract i j).size:=by
 intro x y _ hxy hy
 have hs:(a.extract i j).size=j - i:=by simp;lia
 rw [eG (by lia) hj,eG (by lia) hj]
 exact h _ _ (by lia) (by lia) (by lia)
theorem kY {a:Array Keyed}{i j:Nat}{x:Keyed} (h:x ∈ (a.extract i j).toList) (hj:j<=a.size):∃ k,i<=k/\k < j/\x=kyd a k:=by
 obtain⟨k,hk,rfl⟩:=sg h
 have hs:(a.extract i j).size=j - i:=by simp;lia
 exact⟨i+k,by lia,by lia,by rw [eG (by lia) hj]⟩
theorem zn {a:Array Keyed}{i j k:Nat} (h1:i<=j) (h2:j<=k) (h3:k<=a.size):a.toList=a.toList.take i++(a.extract i j).toList++(a.extract j k).toList++a.toList.drop k:=by
 have e1:(a.extract i j).toList=(a.toList.drop i).take (j - i):=by rw [Array.toList_extract,List.extract_eq_take_drop]
 have e2:(a.extract j k).toList=(a.toList.drop j).take (k - j):=by rw [Array.toList_extract,List.extract_eq_take_drop]
 rw [e1,e2]
 have c1:a.toList.take i++(a.toList.drop i).take (j - i)=a.toList.take j:=by
  rw [<-List.take_add,show i+(j - i)=j by lia]
 have c2:a.toList.take j++(a.toList.drop j).take (k - j)=a.toList.take k:=by
  rw [<-List.take_add,show j+(k - j)=k by lia]
 rw [c1,c2,List.take_append_drop]
set_option maxHeartbeats 2000000 in
theorem yk (hC:Cm prog w A s κ O rk S) {Q:Bool->SortSt->Prop}{p q:Nat} (hk:kindOf st=κ) (hf:failedOf st=none) (hp:pendingOf st=#[(0,n1,p),(n1,n2,q)]) (hS:∀ x ∈ (arrOf st).toList,S x) (hz:(arrOf st).size=n1+n2) (h1:0 < n1) (h2:0 < n2)
  (u1:Up rk (arrOf st) 0 n1) (u2:Up rk (arrOf st) n1 n2)
  (h:∀ st',(arrOf st').toList.Perm (arrOf st).toList->(arrOf st').toList.Pairwise (λx y=>O.kle (rk x) (rk y))->failedOf st'=none->pendingOf st'=#[(0,n1+n2,p)]->Q true st'):wpS (model prog w) A E s (yN 0) Q st:=by
 have hSi:∀ i,i < n1+n2->S (kyd (arrOf st) i):=λi hi=>by
  have hi':i < (arrOf st).size:=by lia
  refine hS _ ?_
  have e:=br hi'
  rw [Array.getElem?_eq_getElem hi'] at e
  rw [<-Option.some.inj e];exact Array.getElem_mem_toList hi'
 refine wpS_bind (wpS_get ?_)
 have e1:(pendingOf st)[0]?=some (0,n1,p):=by rw [hp];rfl
 have e2:(pendingOf st)[0+1]?=some (n1,n2,q):=by rw [hp];rfl
 rw [e1,e2]
 refine wpS_bind ?_
 have hset:∀ (x:SortSt) (Q':PUnit->SortSt->Prop) (st0:SortSt),Q' ⟨⟩ x->wpS (model prog w) A E s (set x:StateT SortSt Sem PUnit) Q' st0:=λx Q' st0 hq=>by
  unfold wpS;exact wpAny_pure ⟨rfl,hq⟩
 refine hset _ _ _ ?_
 have e3:((pendingOf st).setIfInBounds 0 (0,n1+n2,p)).eraseIdxIfInBounds (0+1)=#[(0,n1+n2,p)]:=by
  rw [hp];apply Array.toList_inj.mp;simp [Array.eraseIdxIfInBounds]
 rw [e3]
 clear e1 e2 e3 hp
 delta arrOf kindOf failedOf gallopOf at *
 obtain⟨kd,arr,pn,gl,fl⟩:=st
 dsimp only at hk hf hS hz u1 u2 h hSi
 dsimp -zeta only
 have h:∀ st',(arrOf st').toList.Perm arr.toList->(arrOf st').toList.Pairwise (λx y=>O.kle (rk x) (rk y))->failedOf st'=none->pendingOf st'=#[(0,n1+n2,p)]->Q true st':=h
 have k2:kindOf (SortSt.mk' kd arr #[(0,n1+n2,p)] gl fl)=κ:=hk
 have a2:arrOf (SortSt.mk' kd arr #[(0,n1+n2,p)] gl fl)=arr:=rfl
 have f2:failedOf (SortSt.mk' kd arr #[(0,n1+n2,p)] gl fl)=none:=hf
 have p2:pendingOf (SortSt.mk' kd arr #[(0,n1+n2,p)] gl fl)=#[(0,n1+n2,p)]:=rfl
 have whole:O.kle (rk (kyd arr (n1 - 1))) (rk (kyd arr n1))->arr.toList.Pairwise λx y=>O.kle (rk x) (rk y):=λhm=>nV λi j _ hij hj=>by
  by_cases c1:j < n1
  ·exact u1 i j (Nat.zero_le _) hij (by lia)
  ·by_cases c2:n1<=i
   ·exact u2 i j c2 hij (by lia)
   ·exact KeyOrd.kle_trans (KeyOrd.kle_trans (u1 i (n1 - 1) (Nat.zero_le _) (by lia) (by lia)) hm) (u2 n1 j (Nat.le_refl _) (by lia) (by lia))
 have ok:arr.toList.Pairwise (λx y=>O.kle (rk x) (rk y))->Q true (SortSt.mk' kd arr #[(0,n1+n2,p)] gl fl):=λhw=>h (SortSt.mk' kd arr #[(0,n1+n2,p)] gl fl) (by rw [a2]) (by rw [a2];exact hw) f2 p2
 refine wpS_bind (bF (br (by lia)) (wpS_bind (eM hC k2 (hSi _ (by lia)) (by lia) (λi hi=>hSi _ (by lia)) (by lia) (λi j hij hj hb=>?_) λk hk1 hk2 hk3=>?_)))
 ·simp only [bey,Bool.false_eq_true,if_false,Bool.not_eq_true'] at hb ⊢
  exact KeyOrd.kle_trans (O:=O) (u1 (0+i) (0+j) (Nat.zero_le _) (by lia) (by lia)) hb
 simp only [bey,Bool.false_eq_true,if_false,Bool.not_eq_true',Bool.not_eq_false',Nat.zero_add] at hk2 hk3
 dsimp only
 by_cases c1:n1 - k=0
 ·refine bE (by simpa using c1) ?_
  exact wpS_pure (ok (whole (hk2 (n1 - 1) (by lia))))
 refine bn (by simpa using c1) ?_
 rw [show 0+k+(n1 - k) - 1=n1 - 1 by lia,Nat.zero_add]
 refine wpS_bind (bF (br (by lia)) (wpS_bind (eM hC k2 (hSi _ (by lia)) (by lia) (λi hi=>hSi _ (by lia)) (by lia) (λi j hij hj hb=>?_) λnb hb1 hb2 hb3=>?_)))
 ·simp only [bey,if_true] at hb ⊢
  exact KeyOrd.klt_of_kle_of_klt (O:=O) (u2 (n1+i) (n1+j) (by lia) (by lia) (by lia)) hb
 simp only [bey,if_true] at hb2 hb3
 dsimp only
 by_cases c2:nb=0
 ·refine bE (by simpa using c2) ?_
  exact wpS_pure (ok (whole (hb3 0 (by lia) (by lia))))
 refine bn (by simpa using c2) ?_
 have sx:(arr.extract k n1).size=n1 - k:=by simp;lia
 have sy:(arr.extract n1 (n1+nb)).size=nb:=by simp;lia
 have T:Two O rk S (arr.extract k n1) (arr.extract n1 (n1+nb)):=by
  refine⟨λi hi=>?_,λi hi=>?_,oG (λi j a b c=>u1 i j (Nat.zero_le _) b (by lia)) (by lia),oG (λi j a b c=>u2 i j a b (by lia)) (by lia),by lia,by lia,?_,λi hi=>?_⟩
  ·rw [eG (by lia) (by lia)];exact hSi _ (by lia)
  ·rw [eG (by lia) (by lia)];exact hSi _ (by lia)
  ·rw [eG (by lia) (by lia),eG (by lia) (by lia)];exact hk3 _ (by lia) (by lia)
  ·rw [eG (by lia) (by lia),eG (by lia) (by lia),sx,show k+(n1 - k - 1)=n1 - 1 by lia];exact hb2 i (by lia)
 have fin:∀ (r:Array Keyed) st',Gs (SortSt.mk' kd arr #[(0,n1+n2,p)] gl fl) st'->r.toList=mrg O rk (arr.extract k n1).toList (arr.extract n1 (n1+nb)).toList->
   Q true (SortSt.mk' (kindOf st') ((r.toList.zipIdx).foldl (λ(a:Array Keyed) x=>match x with | (p,j)=>a.setIfInBounds (k+j) p) (arrOf st')) (pendingOf st') (gallopOf st') (failedOf st')):=by
  rintro r st' ⟨g,rfl⟩ hr
  have hl:r.toList.length=n1 - k+nb:=by rw [hr,(lS _ _).length_eq,List.length_append,Array.length_toList,Array.length_toList,sx,sy]
  have e5:=sv k r.toList 0 arr (by lia)
  rw [Nat.add_zero,hl,show k+(n1 - k+nb)=n1+nb by lia,hr] at e5
  have e6:=zn (a:=arr) (i:=k) (j:=n1) (k:=n1+nb) (by lia) (by lia) (by lia)
  refine h _ ?_ ?_ f2 p2
  ·show (List.foldl _ (arrOf (SortSt.mk' kd arr #[(0,n1+n2,p)] gl fl)) _).toList.Perm _
   rw [a2,hr,e5]
   conv=>rhs;rw [e6]
   exact ((lS _ _).append_left _ |>.append_right _).trans (by rw [List.append_assoc,List.append_assoc,List.append_assoc,List.append_assoc])
  ·show (List.foldl _ (arrOf (SortSt.mk' kd arr #[(0,n1+n2,p)] gl fl)) _).toList.Pairwise _
   rw [a2,hr,e5]
   have m1:∀ x ∈ arr.toList.take k,∃ i,i < k/\x=kyd arr i:=λx hx=>by
    rw [<-ik] at hx
    obtain⟨i,_,hi,e⟩:=kY hx (by lia)
    exact⟨i,hi,e⟩
   have m2:∀ x ∈ arr.toList.drop (n1+nb),∃ i,n1+nb<=i/\i < arr.size/\x=kyd arr i:=λx hx=>by
    rw [<-fH] at hx
    obtain⟨i,h1,h2,e⟩:=kY hx (Nat.le_refl _)
    exact⟨i,h1,h2,e⟩
   have m3:∀ x ∈ mrg O rk (arr.extract k n1).toList (arr.extract n1 (n1+nb)).toList,∃ i,k<=i/\i < n1+nb/\x=kyd arr i:=λx hx=>by
    rcases List.mem_append.mp ((lS _ _).mem_iff.mp hx) with hx | hx
    ·obtain⟨i,h1,h2,e⟩:=kY hx (by lia);exact⟨i,h1,by lia,e⟩
    ·obtain⟨i,h1,h2,e⟩:=kY hx (by lia);exact⟨i,by lia,h2,e⟩
   have lowHi:∀ i j,i < k->n1<=j->j < n1+n2->O.kle (rk (kyd arr i)) (rk (kyd arr j)):=λi j hi h3 h4=>KeyOrd.kle_trans (hk2 i hi) (u2 n1 j (Nat.le_refl _) h3 h4)
   have hiHi:∀ i j,i < n1->n1+nb<=j->j < n1+n2->O.kle (rk (kyd arr i)) (rk (kyd arr j)):=λi j hi h3 h4=>by
    have:=hb3 (j - n1) (by lia) (by lia)
    rw [show n1+(j - n1)=j by lia] at this
    exact KeyOrd.kle_trans (u1 i (n1 - 1) (Nat.zero_le _) (by lia) (by lia)) this
   refine List.pairwise_append.mpr ⟨List.pairwise_append.mpr ⟨?_,zr (nV T.ua) (nV T.ub),?_⟩,?_,?_⟩
   ·rw [<-ik]
    exact nV (oG (λi j a b c=>u1 i j (Nat.zero_le _) b (by lia)) (by lia))
   ·intro x hx y hy
    obtain⟨i,hi,rfl⟩:=m1 x hx
    obtain⟨j,j1,j2,rfl⟩:=m3 y hy
    by_cases c:j < n1
    ·exact u1 i j (Nat.zero_le _) (by lia) (by lia)
    ·exact lowHi i j hi (by lia) (by lia)
   ·rw [<-fH]
    exact nV (oG (λi j a b c=>u2 i j (by lia) b (by lia)) (Nat.le_refl _))
   ·intro x hx y hy
    obtain⟨j,j1,j2,rfl⟩:=m2 y hy
    have hx':∃ i,i < n1+nb/\x=kyd arr i:=by
     rcases List.mem_append.mp hx with hx | hx
     ·obtain⟨i,hi,e⟩:=m1 x hx;exact⟨i,by lia,e⟩
     ·obtain⟨i,_,hi,e⟩:=m3 x hx;exact⟨i,hi,e⟩
    obtain⟨i,hi,rfl⟩:=hx'
    by_cases c:i < n1
    ·exact hiHi i j c j1 (by lia)
    ·exact u2 i j (by lia) (by lia) (by lia)
 have isn:∀ st',Gs (SortSt.mk' kd arr #[(0,n1+n2,p)] gl fl) st'->failedOf st'=none:=by rintro st' ⟨g,rfl⟩;exact f2
 split
 ·refine wpS_bind (xC hC k2 T λr st' hG hr=>?_)
  refine wpS_bind (wpS_modify (wpS_bind (wpS_get (wpS_pure ?_))))
  have:=fin r st' hG hr
  have e:=isn st' hG
  have e':(failedOf st').isNone=true:=by rw [e];rfl
  rw [<-e'] at this
  exact this
 ·refine wpS_bind (xD hC k2 T λr st' hG hr=>?_)
  refine wpS_bind (wpS_modify (wpS_bind (wpS_get (wpS_pure ?_))))
  have:=fin r st' hG hr
  have e:=isn st' hG
  have e':(failedOf st').isNone=true:=by rw [e];rfl
  rw [<-e'] at this
  exact this
end
end L2
namespace L2
open PySem PySem.Spec PyProof.Rows
section
variable {prog:Program}{w:World}{A:Around}{E:Value->Shared->Prop}{s:Shared}{κ:SortKind}{O:KeyOrd}{rk:Keyed->O.α}{S:Keyed->Prop}{st:SortSt}{a0:Array Keyed}
structure Ak (κ:SortKind) (O:KeyOrd) (rk:Keyed->O.α) (a0:Array Keyed) (n1:Nat) (st:SortSt):Prop where
 perm:(arrOf st).Perm a0
 kind:kindOf st=κ
 fail:failedOf st=none
 pend:pendingOf st=#[(0,n1,0)]
 up:Up rk (arrOf st) 0 n1
structure xN (κ:SortKind) (O:KeyOrd) (rk:Keyed->O.α) (a0:Array Keyed) (st:SortSt):Prop where
 perm:(arrOf st).Perm a0
 kind:kindOf st=κ
 fail:failedOf st=none
 ex:∃ n1 n2 p,0 < n1/\0 < n2/\n1+n2=a0.size/\pendingOf st=#[(0,n1,p),(n1,n2,0)]/\Up rk (arrOf st) 0 n1/\Up rk (arrOf st) n1 n2
theorem AH {n:Nat} (h2:2<=n) (h64:n<=64):(n < 64/\minRun' n n 0=n)\/n=64/\minRun' n n 0=32:=by
 by_cases h:n=64
 ·subst h;exact .inr ⟨rfl,rfl⟩
 ·obtain⟨f,rfl⟩:∃ f,n=f+1:=⟨n - 1,by lia⟩
  exact .inl ⟨by lia,by rw [minRun'_succ,if_pos (by lia)]⟩
set_option maxHeartbeats 2000000 in
theorem xv (hC:Cm prog w A s κ O rk S) {Q:Unit->SortSt->Prop} (hk:kindOf st=κ) (hf:failedOf st=none) (hp:pendingOf st=#[]) (ha:arrOf st=a0) (hS:∀ x ∈ a0.toList,S x) (h2:2<=a0.size) (h64:a0.size<=64)
  (h:∀ st',(arrOf st').toList.Perm a0.toList->(arrOf st').toList.Pairwise (λx y=>O.kle (rk x) (rk y))->failedOf st'=none->Q () st'):wpS (model prog w) A E s sortRuns' Q st:=by
 obtain⟨mr,hm0,hmr⟩:∃ mr,(sortPriv% PySem.Builtin.minRun) a0.size a0.size 0=mr/\((a0.size < 64/\mr=a0.size)\/a0.size=64/\mr=32):=⟨_,rfl,AH h2 h64⟩
 refine wpS_bind (wpS_get ?_)
 have hz:(arrOf st).size=a0.size:=by rw [ha]
 dsimp only
 rw [hz,hm0]
 refine wpS_bind (wpS_mono (wpS_forRange (I:=λx c st'=>(x=0/\c=(none,0)/\SB κ a0 0 #[] (gallopOf st) st')\/(∃ n1,c=(none,n1)/\Ak κ O rk a0 n1 st'/\1<=x/\(n1=a0.size\/x=1/\32<=n1/\n1 < 64/\a0.size=64))\/(c=(none,a0.size)/\xN κ O rk a0 st'/\1<=x))
  (Q:=λc st'=>c.1=none/\(Ak κ O rk a0 a0.size st'\/xN κ O rk a0 st')) ?_ ?_ ?_) ?_)
 ·rintro x c st' _ hx H
  rcases H with⟨rfl,rfl,hB⟩ | ⟨n1,rfl,hR,hx1,hor⟩ | ⟨rfl,hR,hx1⟩
  ·dsimp only
   refine bn (by lia) ?_
   refine wpS_bind (sN hC hS hB (by lia) (by lia) λm st2 hB2 m1 m2 u=>?_)
   have put:∀ n st3,SB κ a0 0 #[] (gallopOf st) st3->Up rk (arrOf st3) 0 n->mr<=n->n<=a0.size->
     Ak κ O rk a0 n (SortSt.mk' (kindOf st3) (arrOf st3) ((pendingOf st3).push (0,n,0)) (gallopOf st3) (failedOf st3))/\(n=a0.size\/0+1=1/\32<=n/\n < 64/\a0.size=64):=λn st3 hB3 u3 h1 h2=>
    ⟨⟨hB3.perm,hB3.kind,hB3.fail,by show (pendingOf st3).push _=_;rw [hB3.pend];rfl,u3⟩,by lia⟩
   dsimp only
   by_cases hlt:m < mr
   ·refine bE hlt ?_
    refine wpS_bind (gG (wpS_bind (pX hC hS hB2 m1 (by lia) (by lia) u λst3 hB3 u3=>?_)))
    refine bn (by simp) ?_
    have hP:=put _ st3 hB3 u3 (by lia) (by lia)
    refine wpS_bind (wpS_get ?_)
    have hb:(pendingOf st3).back?=none:=by rw [hB3.pend];rfl
    rw [hb]
    exact wpS_bind (wpS_modify (wpS_pure (.inr (.inl ⟨_,by rw [Nat.zero_add],hP.1,by lia,hP.2⟩))))
   ·refine bn hlt ?_
    have hP:=put m st2 hB2 u (by lia) (by lia)
    refine wpS_bind (wpS_get ?_)
    have hb:(pendingOf st2).back?=none:=by rw [hB2.pend];rfl
    rw [hb]
    exact wpS_bind (wpS_modify (wpS_pure (.inr (.inl ⟨_,by rw [Nat.zero_add],hP.1,by lia,hP.2⟩))))
  ·dsimp only
   by_cases hge:n1>=a0.size
   ·refine bE hge ?_
    have e:n1=a0.size:=by lia
    subst e
    exact wpS_pure ⟨rfl,.inl hR⟩
   refine bn hge ?_
   have hsz:(arrOf st').size=a0.size:=hR.perm.size_eq
   have hS':∀ x ∈ (arrOf st').toList,S x:=λx hx=>hS x ((Array.perm_iff_toList_perm.mp hR.perm).mem_iff.mp hx)
   have hB:SB κ (arrOf st') n1 #[(0,n1,0)] (gallopOf st') st':=⟨Array.Perm.refl _,λ_ _=>rfl,hR.kind,hR.fail,hR.pend,rfl⟩
   have hn:32<=n1/\n1 < 64/\a0.size=64/\mr=32:=by lia
   refine wpS_bind (sN hC hS' hB (by lia) (by lia) λm st2 hB2 m1 m2 u=>?_)
   have put:∀ n pw st3,n=a0.size - n1->SB κ (arrOf st') n1 #[(0,n1,0)] (gallopOf st') st3->Up rk (arrOf st3) n1 n->
     xN κ O rk a0 (SortSt.mk' (kindOf st3) (arrOf st3) (((pendingOf st3).modify ((pendingOf st3).size - 1) λx=>(x.1,x.2.1,pw)).push (n1,n,0)) (gallopOf st3) (failedOf st3)):=λn pw st3 hn3 hB3 u3=>
    ⟨hB3.perm.trans hR.perm,hB3.kind,hB3.fail,n1,n,pw,by lia,by lia,by lia,by show (Array.modify (pendingOf st3) _ _).push _=_;rw [hB3.pend];simp,λi j a b c=>by
     show O.kle (rk (kyd (arrOf st3) i)) (rk (kyd (arrOf st3) j))
     rw [dB (hB3.pre i (by lia)),dB (hB3.pre j (by lia))]
     exact hR.up i j a b c,u3⟩
   have inner:∀ st3,SB κ (arrOf st') n1 #[(0,n1,0)] (gallopOf st') st3->∀ (f:Nat->Option Unit×Unit->StateT SortSt Sem (ForInStep (Option Unit×Unit))) (Q':Option Unit×Unit->SortSt->Prop),
     (∀ x,∀ Q'':ForInStep (Option Unit×Unit)->SortSt->Prop,Q'' (.done (none,())) st3->wpS (model prog w) A E s (f x (none,())) Q'' st3)->Q' (none,()) st3->wpS (model prog w) A E s (forIn [0:a0.size] (none,()) f) Q' st3:=λst3 hB3 f Q' hf hq=>
    wpS_forRange (I:=λ_ c st4=>c=(none,())/\st4=st3) (λi c st4 _ _ hI=>by
     obtain⟨rfl,rfl⟩:=hI
     exact hf i _ hq) (λc st4 hI=>by obtain⟨rfl,rfl⟩:=hI;exact hq) ⟨rfl,rfl⟩
   dsimp only
   by_cases hlt:m < mr
   case' pos=>
    refine bE hlt ?_
    refine wpS_bind (gG (wpS_bind (pX hC hS' hB2 m1 (by lia) (by lia) u λst3 hB3 u3=>?_)))
    refine bn (by simp) ?_
    have e9:min (a0.size - n1) mr=a0.size - n1:=by lia
    rw [e9] at u3 ⊢
   case' neg=>
    refine bn hlt ?_
    have e9:m=a0.size - n1:=by lia
    subst e9
    have hB3:=hB2
    have u3:=u
    revert hB3 u3
    clear u hB2
    generalize st2=st3
    intro hB3 u3
   all_goals
    refine wpS_bind (wpS_get ?_)
    have hb:(pendingOf st3).back?=some (0,n1,0):=by rw [hB3.pend];rfl
    rw [hb]
    refine wpS_bind (inner st3 hB3 _ _ (λx Q'' hq=>?_) ?_)
    ·refine wpS_bind (wpS_get ?_)
     have hb2:(if (pendingOf st3).size > 1 then (pendingOf st3)[(pendingOf st3).size - 2]? else none)=none:=by rw [hB3.pend];rfl
     rw [hb2]
     exact wpS_pure hq
    ·refine wpS_bind (wpS_modify (wpS_bind (wpS_modify (wpS_pure (.inr (.inr ⟨?_,put _ _ st3 rfl hB3 u3,by lia⟩))))))
     rw [show n1+(a0.size - n1)=a0.size by lia]
  ·dsimp only
   refine bE (Nat.le_refl _) ?_
   exact wpS_pure ⟨rfl,.inr hR⟩
 ·rintro c st' (⟨hx,_⟩ | ⟨n1,rfl,hR,hx1,hor⟩ | ⟨rfl,hR,hx1⟩)
  ·lia
  ·have e:n1=a0.size:=by lia
   subst e
   exact⟨rfl,.inl hR⟩
  ·exact⟨rfl,.inr hR⟩
 ·exact .inl ⟨rfl,rfl,by rw [ha],λ_ _=>by rw [ha],hk,hf,hp,rfl⟩
 ·rintro⟨c1,c2⟩ st' ⟨rfl,hR⟩
  dsimp only
  refine wpS_bind (wpS_mono (wpS_forRange (I:=λy c st2=>c=(none,())/\((y=0/\xN κ O rk a0 st2)\/((pendingOf st2).size=1/\(arrOf st2).toList.Perm a0.toList/\(arrOf st2).toList.Pairwise (λx y=>O.kle (rk x) (rk y))/\failedOf st2=none)))
   (Q:=λc st2=>c=(none,())/\(arrOf st2).toList.Perm a0.toList/\(arrOf st2).toList.Pairwise (λx y=>O.kle (rk x) (rk y))/\failedOf st2=none) ?_ ?_ ?_) ?_)
  ·rintro y c st2 _ hy ⟨rfl,⟨rfl,hR2⟩ | ⟨h1,h2',h3,h4⟩⟩
   ·refine wpS_bind (wpS_get ?_)
    obtain⟨n1,n2,p,z1,z2,z3,z4,u1,u2⟩:=hR2.ex
    have hsz:(arrOf st2).size=a0.size:=hR2.perm.size_eq
    have z5:(sortPriv% PySem.Builtin.SortState.pending) st2=#[(0,n1,p),(n1,n2,0)]:=z4
    rw [z5]
    refine wpS_bind (m:=yN 0) (yk hC hR2.kind hR2.fail z4 (λx hx=>hS x ((Array.perm_iff_toList_perm.mp hR2.perm).mem_iff.mp hx)) (by lia) z1 z2 u1 u2 λst3 a1 a2 a3 a4=>?_)
    refine bn (by simp) ?_
    exact wpS_pure ⟨rfl,.inr ⟨by rw [a4];rfl,a1.trans (Array.perm_iff_toList_perm.mp hR2.perm),a2,a3⟩⟩
   ·refine wpS_bind (wpS_get ?_)
    have h1':(pendingOf st2).size<=1:=by lia
    refine bE h1' ?_
    exact wpS_pure ⟨rfl,h2',h3,h4⟩
  ·rintro c st2 ⟨rfl,⟨hy,_⟩ | ⟨h1,h2',h3,h4⟩⟩
   ·lia
   ·exact⟨rfl,h2',h3,h4⟩
  ·refine⟨rfl,?_⟩
   rcases hR with hR | hR
   ·have hsz:(arrOf st').size=a0.size:=hR.perm.size_eq
    exact .inr ⟨by rw [hR.pend];rfl,Array.perm_iff_toList_perm.mp hR.perm,nV (by rw [hsz];exact hR.up),hR.fail⟩
   ·exact .inl ⟨rfl,hR⟩
  ·rintro c st2 ⟨rfl,h2',h3,h4⟩
   exact wpS_pure (h st2 h2' h3 h4)
end
end L2
namespace L2
open PySem PySem.Spec PyProof.Rows PySem.SeqAt
open MeetsSeq MeetsSeq2 MeetsSeq3 SeqRoads2
open AutoSeq1 (wpAny_loadPart')
noncomputable def mU (A:Around) (s:Shared) (y x:Value) (b:Bool):Prop:=∀ (prog:Program) (w:World) (E:Value->Shared->Prop) (Q:Value->Shared->Prop),Q (.bool b) s->wpAny (model prog w) A (richCompare .Lt y x) Q E s
noncomputable def mn (e l:Nat->Bool) (fin:Bool):Nat->Nat->Bool
 | 0,_=>fin
 | k+1,i=>if e i=true then mn e l fin k (i+1) else l i
theorem lz (p q:Addr) (us vs:Array Value) (n n2:Nat) (dd dd2:Option Addr) (sl sl2:Array (Option Value)) (e l:Nat->Bool) :
  Meets (Builtin.«tuple.__lt__» ⟨[.ref p,.ref q],[]⟩)
   (λA R s=>(s.heap.get? p=some ⟨.type "tuple",dd,.seq us n,sl⟩/\s.heap.get? q=some ⟨.type "tuple",dd2,.seq vs n2,sl2⟩)/\
     (∀ j (h1:j < us.size) (h2:j < vs.size),EqAt A.in1 s us[j] vs[j] (e j)/\(e j=false->mU A.in1 s us[j] vs[j] (l j)))/\
     R (.ok (.ret (.bool (mn e l (decide (us.size < vs.size)) (min us.size vs.size) 0)))) s):=
 .of_wp λprog w A R s h=>by
  obtain⟨hp,g,d,tk,os⟩:=s
  obtain⟨⟨h1,h2⟩,he,h⟩:=h
  have f2:=AutoSeq1.sub_tuple_tuple
  have hZ:(us.toList.zip vs.toList).length=min us.size vs.size:=by simp
  wp_walk using wpAny_loadPart' h1,wpAny_loadPart' h2,wpAny_forIn_list _ (λrest b s'=>b.1=none/\s'=⟨hp,g,d,tk,os⟩/\∃ i,i<=min us.size vs.size/\rest=(us.toList.zip vs.toList).drop i/\
   R (.ok (.ret (.bool (mn e l (decide (us.size < vs.size)) (min us.size vs.size - i) i)))) ⟨hp,g,d,tk,os⟩) _
  case turn=>
   rintro⟨y,x⟩ rest b s' ⟨hb',rfl,i,hi,hz,hR⟩
   have hlt:i < (us.toList.zip vs.toList).length:=by
    rcases Nat.lt_or_ge i (us.toList.zip vs.toList).length with h' | h'
    ·exact h'
    ·rw [List.drop_of_length_le h'] at hz;cases hz
   rw [hZ] at hlt
   have g1:i < us.size:=by lia
   have g2:i < vs.size:=by lia
   rw [List.drop_eq_getElem_cons (by rw [hZ];exact hlt)] at hz
   injection hz with hyx hrest
   have hy:y=us[i]:=by have:=congrArg Prod.fst hyx;simpa using this
   have hx:x=vs[i]:=by have:=congrArg Prod.snd hyx;simpa using this
   subst hy hx
   obtain⟨k,hk⟩:∃ k,min us.size vs.size - i=k+1:=⟨min us.size vs.size - i - 1,by lia⟩
   rw [hk] at hR
   have hR':R (.ok (.ret (.bool (if e i=true then mn e l (decide (us.size < vs.size)) k (i+1) else l i)))) ⟨hp,g,d,tk,os⟩:=hR
   refine wpAny_bind ((he i g1 g2).1 prog w _ _ ?_)
   cases hy:e i with
   | true=>
    rw [hy,if_pos rfl] at hR'
    wp_walk
    exact⟨rfl,rfl,i+1,by lia,hrest,by rw [show min us.size vs.size - (i+1)=k by lia];exact hR'⟩
   | false=>
    rw [hy,if_neg (by simp)] at hR'
    simp only [Bool.not_false,if_true]
    refine wpAny_bind (wpAny_rule ?_)
    refine wpAny_bind ((he i g1 g2).2 hy prog w _ _ ?_)
    wp_walk
    exact⟨_,rfl,hR'⟩
  case fin=>
   rintro⟨b1,b2⟩ s' ⟨hb',rfl,i,hi,hz,hR⟩
   simp only at hb'
   subst hb'
   have hge:min us.size vs.size<=i:=by
    rcases Nat.lt_or_ge i (us.toList.zip vs.toList).length with h' | h'
    ·rw [List.drop_eq_getElem_cons h'] at hz;cases hz
    ·rw [hZ] at h';exact h'
   rw [show min us.size vs.size - i=0 by lia] at hR
   wp_walk
   exact⟨_,rfl,by simpa [Builtin.Tuple.tupleCompareSizes,mn] using hR⟩
  case h=>exact⟨rfl,rfl,0,Nat.zero_le _,rfl,h⟩
section
variable {A:Around}{s:Shared}{p q:Addr}{us vs:Array Value}{e l:Nat->Bool}
theorem mU.tuples (hl:s.heap.IsTuple p us) (hb:s.heap.IsTuple q vs) (hu:A.units < cLine) (he:∀ j (h1:j < us.size) (h2:j < vs.size),EqAt A.in1 s us[j] vs[j] (e j)/\(e j=false->mU A.in1 s us[j] vs[j] (l j))) :
  mU A s (.ref p) (.ref q) (mn e l (decide (us.size < vs.size)) (min us.size vs.size) 0):=λprog w E Q h=>by
 obtain⟨⟨cls,dd,data,sl⟩,ho,hc,n,hd⟩:=id hl
 obtain⟨⟨cls2,dd2,data2,sl2⟩,ho2,hc2,n2,hd2⟩:=id hb
 simp only at hc hd hc2 hd2
 subst hc hd hc2 hd2
 exact richCompare_meets_room (op:=.Lt) ⟨_,ho,rfl⟩ ⟨_,ho2,rfl⟩ PySem.F.slot_tuple_lt PySem.F.entry_tuple_lt (PySem.F.args_tuple_lt_2 _ _) (lz p q us vs n n2 dd dd2 sl sl2 e l)
  ⟨⟨ho,ho2⟩,he,(λx=>nomatch x),h⟩ hu
end
end L2
namespace L2
open PySem PySem.Spec PyProof.Rows PySem.SeqAt PySem.W
noncomputable def b9:List Int->List Int->Bool
 | [],[]=>false
 | [],_::_=>true
 | _::_,[]=>false
 | a::as,b::bs=>if a=b then b9 as bs else decide (a < b)
theorem qf:∀ a,b9 a a=false
 | []=>rfl
 | a::as=>by unfold b9;rw [if_pos rfl];exact qf as
theorem ie:∀ a b,b9 a b=false->b9 b a=false->a=b
 | [],[],_,_=>rfl
 | [],_::_,h,_=>by cases h
 | _::_,[],_,h=>by cases h
 | a::as,b::bs,h,h'=>by
  unfold b9 at h h'
  by_cases e:a=b
  ·subst e
   rw [if_pos rfl] at h h'
   rw [ie as bs h h']
  ·rw [if_neg e] at h
   rw [if_neg (Ne.symm e)] at h'
   rw [decide_eq_false_iff_not] at h h'
   lia
theorem kS:∀ a b c,b9 a b=true->b9 b c=true->b9 a c=true
 | [],[],_,h,_=>by cases h
 | [],_::_,[],_,h=>by cases h
 | [],_::_,_::_,_,_=>rfl
 | _::_,[],_,h,_=>by cases h
 | _::_,_::_,[],_,h=>by cases h
 | a::as,b::bs,c::cs,h,h'=>by
  unfold b9 at h h' ⊢
  by_cases e:a=b
  ·subst e
   rw [if_pos rfl] at h
   by_cases e2:a=c
   ·subst e2;rw [if_pos rfl] at h' ⊢;exact kS as bs cs h h'
   ·rw [if_neg e2] at h' ⊢;exact h'
  ·rw [if_neg e,decide_eq_true_iff] at h
   by_cases e2:b=c
   ·subst e2;rw [if_neg e,decide_eq_true_iff];exact h
   ·rw [if_neg e2,decide_eq_true_iff] at h'
    rw [if_neg (by lia),decide_eq_true_iff];lia
theorem wQ:∀ a b c,b9 a c=true->b9 a b=true\/b9 b c=true
 | a,b,c,h=>by
  by_cases h1:b9 a b=true
  ·exact .inl h1
  ·rw [Bool.not_eq_true] at h1
   by_cases h2:b9 b a=true
   ·exact .inr (kS b a c h2 h)
   ·rw [Bool.not_eq_true] at h2
    rw [ie a b h1 h2] at h;exact .inr h
noncomputable def OI:KeyOrd:=⟨List Int,b9,qf,kS,wQ,ie⟩
noncomputable def TuI (h:Heap) (v:Value) (l:List Int):Prop:=∃ a its,v=.ref a/\h.IsTuple a its/\IntsAre its.toList l
noncomputable def cJ:Value->Int
 | .int n _=>n
 | _=>0
noncomputable def tuI (h:Heap):Value->List Int
 | .ref a=>match h.get? a with
  | some o=>match o.data with
   | .seq its _=>its.toList.map cJ
   | _=>[]
  | none=>[]
 | _=>[]
theorem ln:∀ {us:List Value}{l:List Int},IntsAre us l->us.map cJ=l
 | _,_,.nil=>rfl
 | _,_,.cons n t h=>by rw [List.map_cons,ln h];rfl
theorem dC:∀ {us:List Value}{l:List Int},IntsAre us l->us.length=l.length
 | _,_,.nil=>rfl
 | _,_,.cons n t h=>by rw [List.length_cons,List.length_cons,dC h]
theorem gA:∀ {us:List Value}{l:List Int},IntsAre us l->∀ (j:Nat) (h:j < us.length),∃ t,us[j]=.int (l.getD j 0) t
 | _,_,.nil,j,h=>absurd h (Nat.not_lt_zero j)
 | _,_,.cons n t hh,0,h=>⟨t,rfl⟩
 | _,_,.cons n t hh,j+1,h=>by
  obtain⟨t',e⟩:=gA hh j (Nat.lt_of_succ_lt_succ h)
  exact⟨t',by simpa using e⟩
theorem TuI.is {h:Heap}{v:Value}{l:List Int} (t:TuI h v l):tuI h v=l:=by
 obtain⟨a,its,rfl,⟨o,ho,hc,n,hd⟩,hi⟩:=t
 simp only [tuI,ho,hd]
 exact ln hi
theorem TuI.fit {h h':Heap}{v:Value}{l:List Int} (t:TuI h v l) (hk:∀ b o,h.get? b=some o->h'.get? b=some o):TuI h' v l:=by
 obtain⟨a,its,rfl,⟨o,ho,r⟩,hi⟩:=t
 exact⟨a,its,rfl,⟨o,hk _ _ ho,r⟩,hi⟩
theorem mG:∀ (l m:List Int) (i:Nat) (e f:Nat->Bool),(∀ j,j < l.length->j < m.length->e (i+j)=decide (l.getD j 0=m.getD j 0)/\f (i+j)=decide (l.getD j 0 < m.getD j 0))->
  mn e f (decide (l.length < m.length)) (min l.length m.length) i=b9 l m
 | [],[],i,e,f,_=>by simp [mn,b9]
 | [],b::m,i,e,f,_=>by simp [mn,b9]
 | a::l,[],i,e,f,_=>by simp [mn,b9]
 | a::l,b::m,i,e,f,h=>by
  have h0:=h 0 (by simp) (by simp)
  rw [List.length_cons,List.length_cons,show min (l.length+1) (m.length+1)=min l.length m.length+1 by lia]
  have e1:decide (l.length+1 < m.length+1)=decide (l.length < m.length):=by rw [Bool.eq_iff_iff];simp
  rw [e1]
  show (if e i=true then mn e f (decide (l.length < m.length)) (min l.length m.length) (i+1) else f i)=if a=b then b9 l m else decide (a < b)
  rw [Nat.add_zero] at h0
  rw [h0.1,h0.2]
  by_cases q:a=b
  ·subst q
   simp only [List.getD_cons_zero,decide_true,if_true]
   exact mG l m (i+1) e f λj h1 h2=>by
    have:=h (j+1) (by simpa using h1) (by simpa using h2)
    rw [show i+1+j=i+(j+1) by lia]
    simpa using this
  ·simp [q]
section
variable {prog:Program}{w:World}{A:Around}{E:Value->Shared->Prop}{s:Shared}{x y:Value}{l m:List Int}
theorem mU.ints {a b:Int}{t u:Tok}:mU A s (.int a t) (.int b u) (decide (a < b)):=λprog w E Q h=>PyProof.Rows.lt_int h
theorem EqAt.ints {a b:Int}{t u:Tok}:EqAt A s (.int a t) (.int b u) (decide (a=b)):=by
 have:=rg (A:=A) (s:=s) (y:=.int a) (x:=.int b) (u:=.int a t) (v:=.int b u) ⟨t,rfl⟩ ⟨u,rfl⟩ rfl rfl
 have e:eqV (.int a) (.int b)=decide (a=b):=by simp [eqV,Bool.beq_eq_decide_eq]
 rw [e] at this;exact this
theorem TuI.lt (tx:TuI s.heap x l) (ty:TuI s.heap y m) (hu:A.units < cLine):mU A s x y (b9 l m):=by
 obtain⟨a,us,rfl,h1,i1⟩:=tx
 obtain⟨b,vs,rfl,h2,i2⟩:=ty
 have e1:us.size=l.length:=by rw [<-Array.length_toList];exact dC i1
 have e2:vs.size=m.length:=by rw [<-Array.length_toList];exact dC i2
 have z:=mU.tuples (A:=A) (e:=λj=>decide (l.getD j 0=m.getD j 0)) (l:=λj=>decide (l.getD j 0 < m.getD j 0)) h1 h2 hu λj g1 g2=>by
  obtain⟨t,q1⟩:=gA i1 j (by simpa using g1)
  obtain⟨t',q2⟩:=gA i2 j (by simpa using g2)
  rw [Array.getElem_toList] at q1 q2
  rw [q1,q2]
  exact⟨EqAt.ints,λ_=>mU.ints⟩
 rw [e1,e2,mG l m 0 _ _ λj h1 h2=>by rw [Nat.zero_add];exact⟨rfl,rfl⟩] at z
 exact z
theorem TuI.one (tx:TuI s.heap x l) (ty:TuI s.heap y m) (hu:A.units < cLine) {Q:Bool->Shared->Prop} (h:Q (b9 l m) s) (b:Bool):wpAny (model prog w) A (oneLt' b x y) Q E s:=by
 cases b with
 | false=>exact kat_one _ _ (tx.lt ty hu _ _ _ _ h)
 | true=>
  rw [oneLt'_eq]
  simp only [if_true]
  refine wpAny_bind (wpAny_cRoomFor hu ?_)
  obtain⟨a,us,rfl,h1,i1⟩:=id tx
  obtain⟨c,vs,rfl,h2,i2⟩:=id ty
  obtain⟨⟨cls,dd,data,sl⟩,ho,hc,n,hd⟩:=id h1
  obtain⟨⟨cls2,dd2,data2,sl2⟩,ho2,hc2,n2,hd2⟩:=id h2
  simp only at hc hd hc2 hd2
  subst hc hd hc2 hd2
  have e1:us.size=l.length:=by rw [<-Array.length_toList];exact dC i1
  have e2:vs.size=m.length:=by rw [<-Array.length_toList];exact dC i2
  refine wpAny_bind (wpAny_callSpecialIfBound?_slot (T:="tuple") ⟨_,ho,rfl⟩ PySem.F.slot_tuple_lt (call_meets PySem.F.slot_tuple_lt ⟨_,ho,rfl⟩ PySem.F.entry_tuple_lt (PySem.F.args_tuple_lt_2 _ _)
   (lz a c us vs n n2 dd dd2 sl sl2 (λj=>decide (l.getD j 0=m.getD j 0)) λj=>decide (l.getD j 0 < m.getD j 0)) ⟨⟨ho,ho2⟩,λj g1 g2=>?_,?_⟩))
  ·obtain⟨t,q1⟩:=gA i1 j (by simpa using g1)
   obtain⟨t',q2⟩:=gA i2 j (by simpa using g2)
   rw [Array.getElem_toList] at q1 q2
   rw [q1,q2]
   exact⟨EqAt.ints,λ_=>mU.ints⟩
  ·rw [e1,e2,mG l m 0 _ _ λj h1 h2=>by rw [Nat.zero_add];exact⟨rfl,rfl⟩]
   exact wpAny_truthy_bool h
theorem vL {Q:Bool->Shared->Prop}{fin:Bool}:∀ {us vs:List Value}{l m:List Int} (i:Nat),IntsAre us l->IntsAre vs m->(fin=decide (l.length < m.length))->Q (b9 l m) s->KatLex prog w A true fin Q (us.zip vs) i s
 | _,_,_,_,i,.nil,.nil,hf,h=>kat_nil (by rw [hf];exact h)
 | _,_,_,_,i,.nil,.cons n t r,hf,h=>kat_nil (by rw [hf];simpa [b9] using h)
 | _,_,_,_,i,.cons n t r,.nil,hf,h=>kat_nil (by rw [hf];simpa [b9] using h)
 | _,_,_,_,i,.cons (vs:=us) (ns:=l) a t r,.cons (vs:=vs) (ns:=m) b u r',hf,h=>by
  rw [List.zip_cons_cons]
  refine kat_cons (EqAt.ints prog w _ _ ?_)
  unfold b9 at h
  by_cases e:a=b
  ·subst e
   rw [if_pos rfl] at h
   rw [decide_eq_true rfl]
   exact kat_yes (vL (i+1) r r' (by rw [hf,Bool.eq_iff_iff];simp) h)
  ·rw [if_neg e] at h
   rw [decide_eq_false e]
   refine kat_no ?_
   cases (true && i==0) with
   | true=>exact oneLt_int h
   | false=>exact kat_one _ _ (PyProof.Rows.lt_int h)
theorem TuI.tups (tx:TuI s.heap x l) (ty:TuI s.heap y m) {Q:Bool->Shared->Prop} (h:Q (b9 l m) s):wpAny (model prog w) A (keyLt' (tuples' true) x y) Q E s:=by
 obtain⟨a,us,rfl,⟨o,ho,hc,n,hd⟩,i1⟩:=tx
 obtain⟨c,vs,rfl,⟨o2,ho2,hc2,n2,hd2⟩,i2⟩:=ty
 have e1:us.size=l.length:=by rw [<-Array.length_toList];exact dC i1
 have e2:vs.size=m.length:=by rw [<-Array.length_toList];exact dC i2
 exact kat_lt ho hd ho2 hd2 (vL 0 i1 i2 (by rw [e1,e2]) h)
end
end L2
namespace L2
open PySem PySem.Spec PyProof.Rows PySem.SeqAt PySem.W
section
variable {prog:Program}{w:World}{A:Around}{E:Value->Shared->Prop}{s:Shared}{O:KeyOrd}{rk:Keyed->O.α}{S:Keyed->Prop}{vs:List Value}
theorem pK:∀ (vs:List Value),vs.zip vs=vs.map λv=>(v,v)
 | []=>rfl
 | v::vs=>by rw [List.zip_cons_cons,pK vs];rfl
theorem zG {α β:Type}{f:α->β}{R:β->β->Prop}:∀ {vs:List α},vs.toArray.size < 2->(vs.map f).Pairwise R
 | [],_=>List.Pairwise.nil
 | [v],_=>List.pairwise_singleton _ _
 | _::_::_,h=>absurd h (by simp)
set_option maxHeartbeats 1000000 in
theorem nt {a:Addr}{n:Nat}{P:PySem.Fin->Shared->Prop} (ho:s.heap.get? a=some (seqObj "list" vs.toArray n)) (h64:vs.length<=64)
  (hyp:∀ h',(∀ b o,b≠a->s.heap.get? b=some o->h'.get? b=some o)->∃ κ,(2<=vs.length->∀ (Q':SortKind->Shared->Prop) E',Q' κ { s with heap:=h' }->wpAny (model prog w) A (keyKind' vs.toArray) Q' E' { s with heap:=h' })/\Cm prog w A { s with heap:=h' } κ O rk S)
  (hS:∀ v ∈ vs,S (v,v))
  (h:∀ out:List Value,out.Perm vs->out.Pairwise (λx y=>O.kle (rk (x,x)) (rk (y,y)))->P (.done (.ret .none)) { s with heap:=sortedHeap s.heap a vs out.toArray }) :
  wpAny (model prog w) A (Builtin.«list.sort» ⟨[.ref a],[]⟩) P E s:=by
 rw [list_sort_plain]
 have hlt:a < s.heap.objs.size:=Heap.lt_size ho
 have hsz:vs.toArray.size=vs.length:=by simp
 refine wpAny_bind (listItems_at ho rfl ?_)
 refine wpAny_bind (listUpdate_at ho rfl ?_ (by rw [hsz,sizeLine_eq];lia))
 obtain⟨e1,ho1⟩:∃ e1,(s.heap.update a (Obj.mapSeq λ_=>#[])).get? a=some (seqObj "list" #[] e1):=⟨_,get?_update_seq ho (λ_=>#[])⟩
 refine wpAny_bind (seqEpoch_at ho1 rfl ?_)
 refine wpAny_bind (wpAny_newTuple ?_ (by rw [sizeLine_eq];show vs.toArray.toList.length<=_;simp;lia))
 refine wpAny_bind (wpAny_newList ?_)
 refine wpAny_holding ?_
 have z1:(s.heap.update a (Obj.mapSeq λ_=>(#[]:Array Value))).objs.size=s.heap.objs.size:=Heap.size_update ..
 have keepN:∀ b o,b < s.heap.objs.size->(s.heap.update a (Obj.mapSeq λ_=>(#[]:Array Value))).get? b=some o->
   (((s.heap.update a (Obj.mapSeq λ_=>#[])).push (seqObj "tuple" vs.toArray 0)).push (seqObj "list" #[] 0)).get? b=some o:=λb o hb q=>by
  rw [Heap.get?_push_ne _ _ _ (Nat.ne_of_lt (by rw [size_push',z1];exact Nat.lt_succ_of_lt hb)),Heap.get?_push_ne _ _ _ (Nat.ne_of_lt (by rw [z1];exact hb))]
  exact q
 have ho6:=keepN a _ hlt ho1
 obtain⟨κ,hkk,hC⟩:=hyp (((s.heap.update a (Obj.mapSeq λ_=>#[])).push (seqObj "tuple" vs.toArray 0)).push (seqObj "list" #[] 0)) λb o hb q=>
  keepN b o (Heap.lt_size q) (by rw [Heap.get?_update_ne _ _ _ _ hb];exact q)
 show wpAny (model prog w) A _ P E { s with heap:=((s.heap.update a (Obj.mapSeq λ_=>#[])).push (seqObj "tuple" vs.toArray 0)).push (seqObj "list" #[] 0) }
 have pt:(vs.toArray.zip vs.toArray).toList=vs.map λv=>(v,v):=by rw [<-pK];simp
 have fin:∀ st':SortSt,(arrOf st').toList.Perm (vs.map λv=>(v,v))->(arrOf st').toList.Pairwise (λx y=>O.kle (rk x) (rk y))->∃ out:List Value,out.length=vs.length/\(arrOf st').map (·.2)=out.toArray/\P (.done (.ret .none)) { s with heap:=sortedHeap s.heap a vs out.toArray }:=λst' h1 h2=>by
  refine⟨(arrOf st').toList.map (·.2),by rw [List.length_map,h1.length_eq,List.length_map],by apply Array.toList_inj.mp;simp,h _ ?_ ?_⟩
  ·have:=h1.map (·.2)
   rw [List.map_map] at this
   have e:(vs.map ((λx=>x.2) ∘ λv=>((v,v):Keyed)))=vs:=by rw [show ((λx:Keyed=>x.2) ∘ λv=>((v,v):Keyed))=id from rfl,List.map_id]
   rw [e] at this;exact this
  ·rw [List.pairwise_map]
   refine h2.imp_of_mem λ{x y} hx hy q=>?_
   have dx:x=(x.2,x.2):=by obtain⟨v,_,rfl⟩:=List.mem_map.mp (h1.mem_iff.mp hx);rfl
   have dy:y=(y.2,y.2):=by obtain⟨v,_,rfl⟩:=List.mem_map.mp (h1.mem_iff.mp hy);rfl
   rw [<-dx,<-dy];exact q
 dsimp only
 by_cases h2:vs.toArray.size < 2
 ·rw [if_pos h2,if_pos h2]
  refine wpAny_bind (wpAny_pure ?_)
  rw [StateT.run_pure]
  refine wpAny_bind (wpAny_pure ?_)
  dsimp only
  obtain⟨out,q0,q1,q2⟩:=fin (SortSt.mk' general' (vs.toArray.zip vs.toArray) #[] 7 none) (by rw [pt]) (by rw [pt];exact zG h2)
  refine wpAny_bind (seqEpoch_at ho6 rfl ?_)
  rw [q1]
  refine wpAny_bind (listUpdate_at ho6 rfl ?_ (hsz2:=by show out.length<=_;rw [q0,sizeLine_eq];lia))
  simp only [bne_self_eq_false,Bool.false_eq_true,if_false]
  exact wpAny_pure q2
 ·rw [if_neg h2,if_neg h2]
  refine wpAny_bind (hkk (by lia) _ _ ?_)
  refine wpAny_bind (wpAny_mono (xv hC (st:=SortSt.mk' κ (vs.toArray.zip vs.toArray) #[] 7 none) (a0:=vs.toArray.zip vs.toArray) (Q:=λ_ st'=>(arrOf st').toList.Perm (vs.map λv=>(v,v))/\(arrOf st').toList.Pairwise (λx y=>O.kle (rk x) (rk y))/\failedOf st'=none)
   rfl rfl rfl rfl (λx hx=>?_) (by simp;lia) (by simp;lia) λst' a1 a2 a3=>⟨by rw [<-pt];exact a1,a2,a3⟩) ?_ λ_ _ e=>e)
  ·rw [pt] at hx
   obtain⟨v,hv,rfl⟩:=List.mem_map.mp hx
   exact hS v hv
  rintro⟨⟨⟩,st'⟩ s' ⟨rfl,a1,a2,a3⟩
  dsimp only
  obtain⟨out,q0,q1,q2⟩:=fin st' a1 a2
  refine wpAny_bind (seqEpoch_at ho6 rfl ?_)
  rw [q1]
  refine wpAny_bind (listUpdate_at ho6 rfl ?_ (hsz2:=by show out.length<=_;rw [q0,sizeLine_eq];lia))
  rw [a3]
  simp only [bne_self_eq_false,Bool.false_eq_true,if_false]
  exact wpAny_pure q2
theorem lw {l:Addr}{Q:Value->Shared->Prop} (hl:s.heap.IsList l vs.toArray) (h64:vs.length<=64)
  (hyp:∀ h',(∀ b o,s.heap.get? b=some o->h'.get? b=some o)->∃ κ,(2<=vs.length->∀ (Q':SortKind->Shared->Prop) E',Q' κ { s with heap:=h' }->wpAny (model prog w) A.in1.in1 (keyKind' vs.toArray) Q' E' { s with heap:=h' })/\Cm prog w A.in1.in1 { s with heap:=h' } κ O rk S)
  (hS:∀ v ∈ vs,S (v,v))
  (h:∀ out:List Value,out.Perm vs->out.Pairwise (λx y=>O.kle (rk (x,x)) (rk (y,y)))->Q (.ref (s.heap.objs.size+1)) { s with heap:=sortedAll s.heap vs out.toArray }) :
  wpAny (model prog w) A (call (.builtin "sorted") [.ref l]) Q E s:=by
 refine Calls.call_function_entry kind_sorted plain_sorted entry_sorted (args_sorted1 _) ?_
 unfold Builtin.«sorted»
 refine wpAny_bind (m:=checkCount "sorted" 1 1 _) (wpAny_pure ?_)
 refine wpAny_bind (collect_list hl ?_ (by rw [sizeLine_eq];lia))
 refine wpAny_bind (wpAny_newList ?_ (by rw [sizeLine_eq];lia))
 have hz:((s.heap.push (seqObj "list" #[] 0)).update s.heap.objs.size (Obj.mapSeq (·++vs.toArray))).objs.size=s.heap.objs.size+1:=by rw [Heap.size_update,size_push']
 generalize hh:((s.heap.push (seqObj "list" #[] 0)).update s.heap.objs.size (Obj.mapSeq (·++vs.toArray)))=hB at hz ⊢
 have hoL:(hB.push (seqObj "list" vs.toArray 0)).get? (s.heap.objs.size+1)=some (seqObj "list" vs.toArray 0):=by
  rw [<-hz];exact Heap.get?_push_size _ rfl
 have keep:∀ b o,s.heap.get? b=some o->b≠s.heap.objs.size+1/\(hB.push (seqObj "list" vs.toArray 0)).get? b=some o:=λb o q=>by
  have hlt:b < s.heap.objs.size:=Heap.lt_size q
  refine⟨Nat.ne_of_lt (Nat.lt_succ_of_lt hlt),?_⟩
  rw [Heap.get?_push_ne _ _ _ (Nat.ne_of_lt (by rw [hz];exact Nat.lt_succ_of_lt hlt)),<-hh,Heap.get?_update_ne _ _ _ _ (Nat.ne_of_lt hlt),Heap.get?_push_ne _ _ _ (Nat.ne_of_lt hlt)]
  exact q
 show wpAny _ _ _ _ _ { s with heap:=hB.push (seqObj "list" vs.toArray 0) }
 rw [hz]
 refine wpAny_bind (wpAny_holding (wpAny_call_entry slot_list_sort ⟨_,hoL,rfl⟩ entry_list_sort (nt (s:={ s with heap:=hB.push (seqObj "list" vs.toArray 0) }) hoL h64 (λh' hk=>hyp h' λb o q=>hk b o (keep b o q).1 (keep b o q).2) hS λout a1 a2=>⟨_,rfl,?_⟩) (args_list_sort _)))
 refine wpAny_pure ⟨_,rfl,?_⟩
 have:=h out a1 a2
 unfold sortedAll at this
 rw [hh] at this
 exact this
end
end L2
namespace L2
open PySem PySem.Spec PyProof.Rows PySem.SeqAt PySem.W
noncomputable def jF (h:Heap):Value->Option Value
 | .ref a=>match h.get? a with
  | some o=>match o.data with
   | .seq its _=>its[0]?
   | _=>none
  | none=>none
 | _=>none
theorem TuI.fst {h:Heap}{v:Value}{l:List Int} (t:TuI h v l):jF h v=none\/∃ n t,jF h v=some (.int n t):=by
 obtain⟨a,its,rfl,⟨o,ho,hc,n,hd⟩,hi⟩:=t
 simp only [jF,ho,hd]
 by_cases hz:0 < its.size
 ·obtain⟨t,e⟩:=gA hi 0 (by simpa using hz)
  exact .inr ⟨_,t,by rw [Array.getElem?_eq_getElem hz];rw [Array.getElem_toList] at e;rw [e]⟩
 ·exact .inl (Array.getElem?_eq_none (by lia))
section
variable {prog:Program}{w:World}{A:Around}{E:Value->Shared->Prop}{s:Shared}
theorem sh {v:Value}{l:List Int} (t:TuI s.heap v l) {Q:Value->Shared->Prop} (h:Q (.type "tuple") s):wpAny (model prog w) A (typeOf v) Q E s:=by
 obtain⟨a,its,rfl,⟨o,ho,hc,n,hd⟩,hi⟩:=t
 refine Looks.here (show Looks (model prog w) s.heap (typeOf (.ref a)) o.cls from (Looks.ld ho).andThen .now) ?_
 rw [hc];exact h
theorem tW {v:Value}{l:List Int} (t:TuI s.heap v l) {Q:Option Value->Shared->Prop} (h:Q (jF s.heap v) s):wpAny (model prog w) A (firstOfTuple' v) Q E s:=by
 rw [kas_first_eq]
 refine wpAny_bind (sh t ?_)
 obtain⟨a,its,rfl,⟨o,ho,hc,n,hd⟩,hi⟩:=t
 rw [if_neg (by simp)]
 simp only [jF,ho,hd] at h
 exact wpAny_bind (listItems_at ho hd (wpAny_pure h))
theorem gF:∀ {vs:List Value}{Q:List (Option Value)->Shared->Prop},(∀ v ∈ vs,∃ l,TuI s.heap v l)->Q (vs.map (jF s.heap)) s->wpAny (model prog w) A (vs.mapM firstOfTuple') Q E s
 | [],_,_,h=>by rw [List.mapM_nil];exact wpAny_pure h
 | v::vs,Q,t,h=>by
  rw [List.mapM_cons]
  obtain⟨l,tv⟩:=t v List.mem_cons_self
  refine wpAny_bind (tW tv (wpAny_bind (gF (Q:=λbs s'=>wpAny (model prog w) A (pure (jF s.heap v::bs)) Q E s') (λu hu=>t u (List.mem_cons_of_mem _ hu)) (wpAny_pure h))))
theorem re {x y:Value}{l m:List Int} (hx:TuI s.heap x l) (hy:TuI s.heap y m) {Q:Bool->Shared->Prop} (h:Q (OI.blt (tuI s.heap x) (tuI s.heap y)) s):Q (b9 l m) s:=by
 have h':Q (b9 (tuI s.heap x) (tuI s.heap y)) s:=h
 rw [hx.is,hy.is] at h';exact h'
theorem qB {vs:List Value} (t:∀ v ∈ vs,∃ l,TuI s.heap v l) (hu:A.units < cLine):∃ κ,(2<=vs.length->∀ (Q':SortKind->Shared->Prop) E',Q' κ s->wpAny (model prog w) A (keyKind' vs.toArray) Q' E' s)/\
  Cm prog w A s κ OI (λp=>tuI s.heap p.1) (λp=>∃ l,TuI s.heap p.1 l):=by
 by_cases c1:(vs.map (jF s.heap)).toArray.all (·.isSome)=true
 ·refine⟨tuples' true,λh2 Q' E' hq=>?_,λx y ⟨l,hx⟩ ⟨m,hy⟩ Q E h=>hx.tups hy (re hx hy h)⟩
  rw [keyKind'_eq,List.mapM_toArray,map_eq_pure_bind]
  refine wpAny_bind (wpAny_bind (gF t (wpAny_pure ?_)))
  rw [if_pos c1]
  refine wpAny_bind (wpAny_rule ?_)
  have hf:∀ v ∈ (vs.map (jF s.heap)).filterMap id,∃ n t,v=.int n t:=λv hv=>by
   obtain⟨o,ho,e⟩:=List.mem_filterMap.mp hv
   obtain⟨u,hu,rfl⟩:=List.mem_map.mp ho
   obtain⟨l,tu⟩:=t u hu
   rcases tu.fst with q | ⟨n,t',q⟩
   ·rw [q] at e;cases e
   ·rw [q] at e;exact⟨n,t',(Option.some.inj e).symm⟩
  have hl:∃ f fr,(vs.map (jF s.heap)).filterMap id=f::fr:=by
   match vs,h2,c1 with
   | v::vs,_,c1=>
    simp only [List.map_cons,List.all_toArray,List.all_cons,Bool.and_eq_true] at c1
    obtain⟨u,hu⟩:=Option.isSome_iff_exists.mp c1.1
    exact⟨u,(vs.map (jF s.heap)).filterMap id,by rw [List.map_cons,List.filterMap_cons,hu];rfl⟩
  obtain⟨f,fr,e⟩:=hl
  have e2:(vs.map (jF s.heap)).toArray.filterMap id=(f::fr).toArray:=by rw [<-e];simp
  rw [e2,oneTypeOnly'_eq,List.mapM_toArray,map_eq_pure_bind]
  refine wpAny_bind (wpAny_bind (wpAny_bind (kas_mapM (r:=.type "int") _ (λv hv Q'' hq'=>?_) (wpAny_pure ?_))))
  ·rw [<-e] at hv
   obtain⟨n,t',rfl⟩:=hf v hv
   exact wpAny_pure hq'
  ·have h0:(List.map (λ_=>Value.type "int") (f::fr)).toArray[0]?=some (.type "int"):=by simp
   rw [h0]
   have hall:((List.map (λ_=>Value.type "int") (f::fr)).toArray.all λx=>x==.type "int")=true:=by
    simp only [List.all_toArray,List.all_map,List.all_eq_true];intro _ _;rfl
   simp only [hall,if_true]
   exact wpAny_pure (wpAny_pure hq)
 ·by_cases c2:((vs.map (jF s.heap)).toArray[0]?.bind id).isSome=true
  ·refine⟨general',λh2 Q' E' hq=>?_,λx y ⟨l,hx⟩ ⟨m,hy⟩ Q E h=>hx.one hy hu (re hx hy h) false⟩
   rw [keyKind'_eq,List.mapM_toArray,map_eq_pure_bind]
   refine wpAny_bind (wpAny_bind (gF t (wpAny_pure ?_)))
   rw [if_neg c1,if_pos c2]
   exact wpAny_pure hq
  ·refine⟨oneType',λh2 Q' E' hq=>?_,λx y ⟨l,hx⟩ ⟨m,hy⟩ Q E h=>hx.one hy hu (re hx hy h) true⟩
   rw [keyKind'_eq,List.mapM_toArray,map_eq_pure_bind]
   refine wpAny_bind (wpAny_bind (gF t (wpAny_pure ?_)))
   rw [if_neg c1,if_neg c2,oneTypeOnly'_eq,List.mapM_toArray,map_eq_pure_bind]
   refine wpAny_bind (wpAny_bind (wpAny_bind (kas_mapM (r:=.type "tuple") _ (λv hv Q'' hq'=>?_) (wpAny_pure ?_))))
   ·obtain⟨l,tv⟩:=t v hv
    exact sh tv hq'
   ·obtain⟨v,vs,rfl⟩:∃ v r,vs=v::r:=by
     match vs,h2 with
     | v::r,_=>exact⟨v,r,rfl⟩
    have h0:(List.map (λ_=>Value.type "tuple") (v::vs)).toArray[0]?=some (.type "tuple"):=by simp
    rw [h0]
    have hall:((List.map (λ_=>Value.type "tuple") (v::vs)).toArray.all λx=>x==.type "tuple")=true:=by
     simp only [List.all_toArray,List.all_map,List.all_eq_true];intro _ _;rfl
    simp only [hall,if_true]
    exact wpAny_pure (wpAny_pure hq)
theorem wq {vs:List Value}{ns:List Int} (t:IntsAre vs ns):(2<=vs.length->∀ (Q':SortKind->Shared->Prop) E',Q' oneType' s->wpAny (model prog w) A (keyKind' vs.toArray) Q' E' s)/\
  Cm prog w A s oneType' OI (λp=>[cJ p.1]) (λp=>∃ n t,p.1=.int n t):=by
 refine⟨λh2 Q' E' hq=>?_,λx y ⟨n,t,hx⟩ ⟨m,u,hy⟩ Q E h=>?_⟩
 ·match vs,h2,t with
  | v1::v2::r,_,t=>rw [keyKind_ints t];exact wpAny_pure hq
 ·rw [keyLt'_oneType,hx,hy]
  refine oneLt_int ?_
  have e:OI.blt [cJ x.1] [cJ y.1]=decide (n < m):=by
   rw [hx,hy]
   show (if n=m then b9 [] [] else decide (n < m))=_
   by_cases q:n=m
   ·subst q;simp [b9]
   ·rw [if_neg q]
  rw [e] at h;exact h
end
noncomputable def rQ (x:List Int):List (List Int)->List (List Int)
 | []=>[x]
 | y::ys=>if b9 y x=true then y::rQ x ys else x::y::ys
noncomputable def bv:List (List Int)->List (List Int)
 | []=>[]
 | x::xs=>rQ x (bv xs)
theorem j8 (x:List Int):∀ ys,(rQ x ys).Perm (x::ys)
 | []=>List.Perm.refl _
 | y::ys=>by
  unfold rQ
  split
  ·exact (List.Perm.cons y (j8 x ys)).trans (List.Perm.swap x y ys)
  ·exact List.Perm.refl _
theorem bf:∀ xs,(bv xs).Perm xs
 | []=>List.Perm.refl _
 | x::xs=>(j8 x _).trans (List.Perm.cons x (bf xs))
noncomputable def leL (a b:List Int):Prop:=b9 b a=false
theorem tY {a b c:List Int} (h:leL a b) (h':leL b c):leL a c:=KeyOrd.kle_trans (O:=OI) h h'
theorem wz {a b:List Int} (h:leL a b) (h':leL b a):a=b:=ie a b h' h
theorem ku (x:List Int):∀ {ys:List (List Int)},ys.Pairwise leL->(rQ x ys).Pairwise leL
 | [],_=>by simp [rQ]
 | y::ys,h=>by
  unfold rQ
  split
  ·rename_i hxy
   refine List.pairwise_cons.mpr ⟨λz hz=>?_,ku x (List.pairwise_cons.mp h).2⟩
   rcases List.mem_cons.mp ((j8 x ys).mem_iff.mp hz) with rfl | hz
   ·exact KeyOrd.klt_asymm (O:=OI) hxy
   ·exact (List.pairwise_cons.mp h).1 z hz
  ·rename_i hxy
   rw [Bool.not_eq_true] at hxy
   refine List.pairwise_cons.mpr ⟨λz hz=>?_,h⟩
   rcases List.mem_cons.mp hz with rfl | hz
   ·exact hxy
   ·exact tY hxy ((List.pairwise_cons.mp h).1 z hz)
theorem cO:∀ xs,(bv xs).Pairwise leL
 | []=>List.Pairwise.nil
 | x::xs=>ku x (cO xs)
theorem gw {xs ys:List (List Int)} (p:xs.Perm ys) (h1:xs.Pairwise leL) (h2:ys.Pairwise leL):xs=ys:=
 List.Perm.eq_of_pairwise (λa b _ _ h1 h2=>wz h1 h2) h1 h2 p
end L2
namespace L2
open PySem PySem.Spec PyProof.Rows PySem.SeqAt PySem.W
noncomputable def j9:List D->Option (List (List Int))
 | []=>some []
 | .tup l::ds=>(aQ l).bind λns=>(j9 ds).map λr=>ns::r
 | _=>none
noncomputable def ai (l:List Int):D:=.tup (l.map D.int)
theorem kf:∀ {ds:List D}{ls:List (List Int)},j9 ds=some ls->ds=ls.map ai
 | [],_,h=>by cases h;rfl
 | .tup l::ds,_,h=>by
  simp only [j9,Option.bind_eq_some_iff,Option.map_eq_some_iff] at h
  obtain⟨ns,e1,r,e2,rfl⟩:=h
  rw [kf e2,cE e1];rfl
 | .non::_,_,h=>by cases h
 | .bl _::_,_,h=>by cases h
 | .int _::_,_,h=>by cases h
 | .str _::_,_,h=>by cases h
 | .ty _::_,_,h=>by cases h
 | .dct::_,_,h=>by cases h
 | .scr _::_,_,h=>by cases h
 | .lst _::_,_,h=>by cases h
theorem mv:∀ (ls:List (List Int)),j9 (ls.map ai)=some ls
 | []=>rfl
 | l::ls=>by
  have:aQ (l.map D.int)=some l:=by
   induction l with
   | nil=>rfl
   | cons a l ih=>simp [aQ,ih]
  simp only [List.map_cons,ai,j9,this,Option.bind_some]
  rw [show List.map ai ls=List.map ai ls from rfl,mv ls];rfl
noncomputable def ky (ds:List D):Option (List D):=match aQ ds with
 | some ns=>some ((lX ns).map D.int)
 | none=>(j9 ds).map λls=>(bv ls).map ai
noncomputable def h9 (st:Sto):List W->Option (List D)
 | [w]=>(lsD st w).bind λds=>if ds.length<=64 then ky ds else none
 | _=>none
section
variable {K:PySem.W.Frag}{X:Cx}{pins:List (Addr×Obj)}{σ:St}{H:Hp}{s:Shared}{φ:List Addr}
noncomputable def toV:Value->V
 | .ref a=>.ref a
 | _=>.non
theorem xz {l:List Int}{v:V}{u:Value} (I:Inv X pins σ H s) (r:Rl X.K H φ (ai l) v) (q:aW v u):TuI s.heap u l/\v=toV u/\aW (toV u) u:=by
 obtain⟨a,vs,rfl,h1,h2⟩:=r
 obtain⟨its,rv,p,_⟩:=I.tuple (SqT.of h1)
 have e:=h2.ints
 subst e
 have e:u=.ref a:=q
 subst e
 exact⟨⟨a,its.toArray,rfl,p,by simpa using eO rv⟩,rfl,rfl⟩
theorem mw (I:Inv X pins σ H s):∀ {ls:List (List Int)}{vs:List V}{us:List Value},Rls X.K H φ (ls.map ai) vs->aT vs us->
  us.map (tuI s.heap)=ls/\∀ u ∈ us,TuI s.heap u (tuI s.heap u)/\Rl X.K H φ (ai (tuI s.heap u)) (toV u)/\aW (toV u) u
 | [],_,us,h,q=>by cases h;cases q;exact⟨rfl,λu hu=>by cases hu⟩
 | l::ls,_,us,h,q=>by
  obtain⟨v,r,rfl,h1,h2⟩:=h
  cases q with
  | cons q1 q2=>
   rename_i u us
   obtain⟨t,e,e'⟩:=xz I h1 q1
   obtain⟨i1,i2⟩:=mw I h2 q2
   refine⟨by rw [List.map_cons,i1,t.is],λx hx=>?_⟩
   rcases List.mem_cons.mp hx with rfl | hx
   ·rw [t.is,<-e];exact⟨t,h1,q1⟩
   ·exact i2 x hx
theorem lD:∀ {us:List Value},(∀ u ∈ us,TuI s.heap u (tuI s.heap u)/\Rl K H φ (ai (tuI s.heap u)) (toV u)/\aW (toV u) u)->Rls K H φ (us.map λu=>ai (tuI s.heap u)) (us.map toV)/\aT (us.map toV) us
 | [],_=>⟨rfl,.nil⟩
 | u::us,h=>by
  have h1:=h u List.mem_cons_self
  have h2:=lD λx hx=>h x (List.mem_cons_of_mem _ hx)
  exact⟨⟨_,_,rfl,h1.2.1,h2.1⟩,.cons h1.2.2 h2.2⟩
theorem lG:∀ {us:List Value}{l:List Int},IntsAre us l->∀ u ∈ us,∃ n t,u=.int n t
 | _,_,.nil,u,hu=>by cases hu
 | _,_,.cons n t h,u,hu=>by
  rcases List.mem_cons.mp hu with rfl | hu
  ·exact⟨n,t,rfl⟩
  ·exact lG h u hu
theorem nX:∀ {us:List Value},(∀ u ∈ us,∃ n t,u=.int n t)->IntsAre us (us.map cJ)
 | [],_=>.nil
 | u::us,h=>by
  obtain⟨n,t,rfl⟩:=h u List.mem_cons_self
  exact .cons n t (nX λx hx=>h x (List.mem_cons_of_mem _ hx))
theorem pF {k:Nat} (hr:bo k X.A) (hK:X.K=K:=by rfl):yx K X (.builtin "sorted") h9:=by
 subst hK
 refine⟨λst ws d h=>?_⟩
 unfold h9 at h
 split at h
 next w=>
  simp only [Option.bind_eq_some_iff] at h
  obtain⟨ds,e1,h⟩:=h
  split at h
  ·rename_i hl
   intro pins s σ H xs us Q I rv q
   obtain⟨φ,S,⟨v,r,rfl,r1,rfl⟩,q⟩:=q
   obtain⟨a,vs,rfl,h1,h2⟩:=jS S r1 e1
   obtain⟨u,rfl,ru⟩:=ij rv
   cases ru
   obtain⟨its,rv',pl,hz⟩:=I.list (.inl h1)
   have hlen:its.length<=64:=by
    have:=rv'.length
    have:=h2.length
    lia
   have hun:X.A.in1.in1.units < cLine:=by
    have:=hr.un
    show X.A.units+1+1 < cLine
    lia
   have hn:H (s.heap.objs.size+1)=none:=I.hok.fresh (Nat.le_succ _)
   have lay:∀ (out:List Value) (vs':List V),aT vs' out->out.length<=64->Inv X pins σ (upd H (s.heap.objs.size+1) (.lst vs')) { s with heap:=sortedAll s.heap its out.toArray }:=λout vs' hv ho=>by
    obtain⟨ep,he⟩:=sortedAll_at s.heap its out.toArray
    refine I.laid (t':=s.toks) (a:=s.heap.objs.size+1) (o:=.lst vs') (λb o q=>sortedAll_old q) (Nat.le_succ _) ⟨?_,out,ep,hv,by simpa [seqObj] using he⟩
    rw [hv.length];exact kX (by lia)
   unfold ky at h
   cases hi:aQ ds with
   | some ns=>
    rw [hi] at h
    cases h
    cases cE hi
    cases h2.ints
    have hI:=eO rv'
    refine lw (O:=OI) (rk:=λp=>[cJ p.1]) (S:=λp=>∃ n t,p.1=.int n t) pl.isList hlen (λh' _=>⟨oneType',wq (s:={ s with heap:=h' }) hI⟩) (λv hv=>lG hI v hv) λout a1 a2=>?_
    have ho:∀ u ∈ out,∃ n t,u=.int n t:=λu hu=>lG hI u (a1.mem_iff.mp hu)
    have hp:(out.map cJ).Perm ns:=by
     have:=a1.map cJ
     rw [ln hI] at this;exact this
    have hs:(out.map cJ).Pairwise (·<=·):=by
     rw [List.pairwise_map]
     refine a2.imp λ{x y} q=>?_
     have q':b9 [cJ y] [cJ x]=false:=q
     by_cases e:cJ y=cJ x
     ·lia
     ·have:b9 [cJ y] [cJ x]=decide (cJ y < cJ x):=by show (if _ then _ else _)=_;rw [if_neg e]
      rw [this,decide_eq_false_iff_not] at q';lia
    have e:out.map cJ=lX ns:=qK (hp.trans (kg ns).symm) hs (iL ns)
    have hv:=jk (nX ho)
    rw [e] at hv
    exact⟨.ref _,_,lay out _ hv (by rw [a1.length_eq];exact hlen),rfl,q _ _ H (bK.refl H) hn (Rls.of_ints _)⟩
   | none=>
    rw [hi] at h
    obtain⟨ls,hls,rfl⟩:=Option.map_eq_some_iff.mp h
    cases kf hls
    obtain⟨m1,m2⟩:=mw I h2 rv'
    refine lw (O:=OI) (rk:=λp=>tuI s.heap p.1) (S:=λp=>∃ l,TuI s.heap p.1 l) pl.isList hlen (λh' hk=>?_) (λv hv=>⟨_,(m2 v hv).1⟩) λout a1 a2=>?_
    ·obtain⟨κ,k1,k2⟩:=qB (prog:=X.prog) (w:=X.w) (s:={ s with heap:=h' }) (vs:=its) (λv hv=>⟨_,(m2 v hv).1.fit hk⟩) hun
     refine⟨κ,k1,λx y ⟨l,hx⟩ ⟨m,hy⟩ Q E hq=>k2 x y ⟨l,hx.fit hk⟩ ⟨m,hy.fit hk⟩ Q E ?_⟩
     have hx':=hx.fit hk
     have hy':=hy.fit hk
     have hq':Q (b9 (tuI s.heap x.1) (tuI s.heap y.1)) { s with heap:=h' }:=hq
     show Q (b9 (tuI h' x.1) (tuI h' y.1)) { s with heap:=h' }
     rw [hx'.is,hy'.is]
     rw [hx.is,hy.is] at hq'
     exact hq'
    ·have ho:=λu hu=>m2 u (a1.mem_iff.mp hu)
     obtain⟨b1,b2⟩:=lD (K:=X.K) (H:=H) (φ:=φ) ho
     have hp:(out.map (tuI s.heap)).Perm ls:=by
      have:=a1.map (tuI s.heap)
      rw [m1] at this;exact this
     have hs:(out.map (tuI s.heap)).Pairwise leL:=by
      rw [List.pairwise_map]
      exact a2.imp λ{x y} q=>q
     have e:out.map (tuI s.heap)=bv ls:=gw (hp.trans (bf ls).symm) hs (cO ls)
     have e2:(out.map λu=>ai (tuI s.heap u))=(bv ls).map ai:=by rw [<-e,List.map_map];rfl
     rw [e2] at b1
     exact⟨.ref _,_,lay out _ b2 (by rw [a1.length_eq];exact hlen),rfl,q _ _ H (bK.refl H) hn b1⟩
  ·cases h
 next=>cases h
end
end L2
namespace L2
open PySem PySem.Spec PyProof.Rows
open PySem.AutoSeq1 (wpAny_loadPart')
noncomputable def SIt (k:Bool) (h:Heap) (it l:Addr) (i:Nat):Prop:=match k with
 | true=>h.IsTupleIter it l i
 | false=>h.IsListIter it l i
noncomputable def SIs (k:Bool) (h:Heap) (l:Addr) (xs:Array Value):Prop:=match k with
 | true=>h.IsTuple l xs
 | false=>h.IsList l xs
theorem SIt.to {k:Bool}{h h':Heap}{it l:Addr}{i:Nat} (a:SIt k h it l i) (f:∀ o,h.get? it=some o->h'.get? it=some o):SIt k h' it l i:=by
 cases k with
 | true=>exact Heap.IsTupleIter.at a f
 | false=>exact Heap.IsListIter.at a f
theorem SIs.to {k:Bool}{h h':Heap}{l:Addr}{xs:Array Value} (a:SIs k h l xs) (f:∀ o,h.get? l=some o->h'.get? l=some o):SIs k h' l xs:=by
 cases k with
 | true=>obtain⟨o,e,r⟩:=a;exact⟨o,f o e,r⟩
 | false=>exact Heap.IsList.at a f
theorem SIt.live {k:Bool}{h:Heap}{it l:Addr}{i:Nat} (a:SIt k h it l i):∃ o vs,h.get? it=some o/\o.data=.fields vs:=by
 cases k with
 | true=>obtain⟨o,e,_,d⟩:=a;exact⟨o,_,e,d⟩
 | false=>obtain⟨o,e,_,d⟩:=a;exact⟨o,_,e,d⟩
section
variable {prog:Program}{w:World}{A:Around}{E:Value->Shared->Prop}{s:Shared}{k k2:Bool}
theorem oZ {it l:Addr}{i:Nat}{xs:Array Value}{x:Value}{Q:Value->Shared->Prop} (hit:SIt k s.heap it l i) (hl:SIs k s.heap l xs) (hx:xs[i]?=some x)
  (hQ:∀ h',SIt k h' it l (i+1)->Heap.SameBut it s.heap h'->Q x { s with heap:=h' }):wpAny (model prog w) A (Builtin.SmallTypes.nextOf (.ref it)) Q E s:=by
 cases k with
 | true=>exact fE hit hl hx hQ
 | false=>exact wpAny_nextOf_list_item hit hl hx hQ
theorem uV {it l:Addr}{i:Nat}{xs:Array Value}{Q:Value->Shared->Prop} (hh:A.handled=none) (hit:SIt k s.heap it l i) (hl:SIs k s.heap l xs) (hx:xs[i]?=none)
  (hE:∀ h' e,Heap.ExtBut it s.heap h'->(∃ o,h'.get? e=some o/\o.cls=.type "StopIteration")->E (.ref e) { s with heap:=h' }):wpAny (model prog w) A (Builtin.SmallTypes.nextOf (.ref it)) Q E s:=by
 cases k with
 | true=>exact gn hh hit hl hx hE
 | false=>exact wpAny_nextOf_list_end hh hit hl hx hE
variable {z TI TO i1 i2 l1 l2:Addr}{n:Nat}{xs ys:Array Value}{a b:Value}
structure ZSt (k k2:Bool) (z TI TO i1 i2 l1 l2:Addr) (f0:Value) (n:Nat) (h:Heap):Prop where
 z:IsZip h z TI TO f0
 ti:IsPair h TI (.ref i1) (.ref i2)
 to:∃ a b,IsPair h TO a b
 t1:SIt k h i1 l1 n
 t2:SIt k2 h i2 l2 n
set_option maxHeartbeats 1000000 in
theorem wC {x y:Value}{Q:Option Value->Shared->Prop} (D:ZipApart z TI TO i1 i2 l1 l2) (hs:ZSt k k2 z TI TO i1 i2 l1 l2 .none n s.heap) (hl1:SIs k s.heap l1 xs) (hl2:SIs k2 s.heap l2 ys) (hx:xs[n]?=some x) (hy:ys[n]?=some y)
  (hQ:∀ h',ZSt k k2 z TI TO i1 i2 l1 l2 (rawInt s.heap.objs.size) (n+1) h'->IsPair h' s.heap.objs.size x y->h'.objs.size=s.heap.objs.size+1->
    (∀ c o,c≠z->c≠TO->c≠i1->c≠i2->s.heap.get? c=some o->h'.get? c=some o)->Q (some (.ref s.heap.objs.size)) { s with heap:=h' }) :
  wpAny (model prog w) A (pyNext (.ref z)) Q E s:=by
 obtain⟨hz,hTI,⟨a,b,hTO⟩,h1,h2⟩:=hs
 have hT:s.TypeIs (.ref z) "zip":=⟨_,hz,rfl⟩
 unfold pyNext
 refine wpAny_bind (wpAny_attempt (wpAny_callSpecial?_slot (name:=Str.ofString "__next__") hT F.slot_zip_next (wpAny_call_entry F.slot_zip_next hT F.entry_zip_next ?_ (F.args_zip_next_1 _))))
 show wpAny _ _ (field (.ref z) 2 >>= _) _ _ _
 refine wpAny_bind (wpAny_field hz rfl (x:=.bool false) rfl ?_)
 show wpAny _ _ (field (.ref z) 3 >>= _) _ _ _
 refine wpAny_bind (wpAny_field hz rfl (x:=.ref TI) rfl (wpAny_bind (wpAny_seqItems hTI rfl ?_)))
 show wpAny _ _ (Builtin.SmallTypes.ownedTupleIsFree (.ref z) >>= _) _ _ _
 refine wpAny_bind ?_
 unfold Builtin.SmallTypes.ownedTupleIsFree
 refine wpAny_bind (wpAny_field hz rfl (x:=.none) rfl (wpAny_pure ?_))
 simp only [if_true]
 refine wpAny_bind (wpAny_rule (wpAny_bind (wpAny_field hz rfl (x:=.ref TO) rfl ?_)))
 refine wpAny_bind (wpAny_setField_rec hz (by simp) λg1 hz1 s1=>?_)
 replace hz1:IsZip g1 z TI TO .ellipsis:=hz1
 refine wpAny_bind ?_
 simp only [List.zipIdx_cons,List.zipIdx_nil,List.forIn_cons,List.forIn_nil]
 have e1:=s1.extBut
 refine wpAny_bind (wpAny_bind (wpAny_onRaise ?_))
 show wpAny _ _ (Builtin.SmallTypes.nextOf (.ref i1) >>= _) _ _ _
 refine wpAny_bind (oZ (h1.to λo q=>e1 _ o D.i1z q) (hl1.to λo q=>e1 _ o D.l1z q) hx λg2 h12 s2=>wpAny_pure ?_)
 have e2:=s2.extBut
 have hTO2:IsPair g2 TO a b:=e2 _ _ D.TOi1 (e1 _ _ D.TOz hTO)
 refine wpAny_bind (wpAny_seqItems hTO2 rfl (wpAny_bind (wpAny_updateSeq_pair hTO2 λg3 hTO3 s3=>?_)))
 replace hTO3:IsPair g3 TO x b:=hTO3
 have e3:=s3.extBut
 refine wpAny_bind (wpAny_letGo (wpAny_pure ?_))
 refine wpAny_bind (wpAny_bind (wpAny_onRaise ?_))
 show wpAny _ _ (Builtin.SmallTypes.nextOf (.ref i2) >>= _) _ _ _
 refine wpAny_bind (oZ (h2.to λo q=>e3 _ o D.TOi2.symm (e2 _ o D.i12.symm (e1 _ o D.i2z q))) (hl2.to λo q=>e3 _ o D.l2TO (e2 _ o D.l2i1 (e1 _ o D.l2z q))) hy λg4 h24 s4=>wpAny_pure ?_)
 have e4:=s4.extBut
 have hTO4:IsPair g4 TO x b:=e4 _ _ D.TOi2 hTO3
 refine wpAny_bind (wpAny_seqItems hTO4 rfl (wpAny_bind (wpAny_updateSeq_pair hTO4 λg5 hTO5 s5=>?_)))
 replace hTO5:IsPair g5 TO x y:=hTO5
 have e5:=s5.extBut
 refine wpAny_bind (wpAny_letGo (wpAny_pure (wpAny_pure ?_)))
 refine wpAny_bind (wpAny_seqItems hTO5 rfl (wpAny_bind (wpAny_newTuple ?_)))
 have hsz:g5.objs.size=s.heap.objs.size:=by rw [s5.1,s4.1,s3.1,s2.1,s1.1]
 have hz5:IsZip g5 z TI TO .ellipsis:=e5 _ _ D.TOz.symm (e4 _ _ D.i2z.symm (e3 _ _ D.TOz.symm (e2 _ _ D.i1z.symm hz1)))
 have kp:∀ c o,c≠z->c≠TO->c≠i1->c≠i2->s.heap.get? c=some o->g5.get? c=some o:=λc o c1 c2 c3 c4 e=>e5 _ _ c2 (e4 _ _ c4 (e3 _ _ c2 (e2 _ _ c3 (e1 _ _ c1 e))))
 have h15:SIt k g5 i1 l1 (n+1):=h12.to λo q=>e5 _ o D.TOi1.symm (e4 _ o D.i12 (e3 _ o D.TOi1.symm q))
 have h25:SIt k2 g5 i2 l2 (n+1):=h24.to λo q=>e5 _ o D.TOi2.symm q
 have hzlt:z < g5.objs.size:=Heap.lt_size hz5
 show wpAny _ _ (Builtin.SmallTypes.ownedTupleHandOut (.ref z) (.ref g5.objs.size) >>= _) _ _ _
 refine wpAny_bind ?_
 unfold Builtin.SmallTypes.ownedTupleHandOut
 have hz6:IsZip (g5.push { cls:=.type "tuple",data:=.seq #[x,y] }) z TI TO .ellipsis:=Heap.get?_push_of_some _ hz5
 refine wpAny_bind (wpAny_setField_rec hz6 (by simp) λg7 hz7 s7=>?_)
 replace hz7:IsZip g7 z TI TO (rawInt g5.objs.size):=hz7
 refine wpAny_setField_rec hz7 (by simp) λg8 hz8 s8=>?_
 replace hz8:IsZip g8 z TI TO (rawInt g5.objs.size):=hz8
 have up:∀ c o,c≠z->g5.get? c=some o->g8.get? c=some o:=λc o c1 e=>s8.extBut _ _ c1 (s7.extBut _ _ c1 (Heap.get?_push_of_some _ e))
 have hT8:IsPair g8 g5.objs.size x y:=s8.extBut _ _ (Nat.ne_of_gt hzlt) (s7.extBut _ _ (Nat.ne_of_gt hzlt) (Heap.get?_push_size _ rfl))
 have hz9:g8.objs.size=g5.objs.size+1:=by rw [s8.1,s7.1,Heap.size_push]
 rw [hsz] at hz8 hT8 hz9
 refine wpAny_pure ⟨_,rfl,wpAny_pure ?_⟩
 show Q (some (.ref g5.objs.size)) _
 rw [hsz]
 exact hQ g8 ⟨hz8,up _ _ D.TIz (kp _ _ D.TIz D.TITO D.TIi1 D.TIi2 hTI),⟨_,_,up _ _ D.TOz hTO5⟩,h15.to λo q=>up _ o D.i1z q,h25.to λo q=>up _ o D.i2z q⟩ hT8 hz9 λc o c1 c2 c3 c4 e=>up c o c1 (kp c o c1 c2 c3 c4 e)
set_option maxHeartbeats 1000000 in
theorem yf {Q:Option Value->Shared->Prop} (hh:A.in1.handled=none) (D:ZipApart z TI TO i1 i2 l1 l2) (hs:ZSt k k2 z TI TO i1 i2 l1 l2 .none n s.heap) (hl1:SIs k s.heap l1 xs) (hl2:SIs k2 s.heap l2 ys) (hend:xs[n]?=none\/ys[n]?=none)
  (hQ:∀ h',(∀ c o,c≠z->c≠TO->c≠i1->c≠i2->s.heap.get? c=some o->h'.get? c=some o)->Q none { s with heap:=h' }):wpAny (model prog w) A (pyNext (.ref z)) Q E s:=by
 obtain⟨hz,hTI,⟨a,b,hTO⟩,h1,h2⟩:=hs
 have hT:s.TypeIs (.ref z) "zip":=⟨_,hz,rfl⟩
 have fin:∀ (h':Heap) (e:Addr),(∀ c o,c≠z->c≠TO->c≠i1->c≠i2->s.heap.get? c=some o->h'.get? c=some o)->(∃ o,h'.get? e=some o/\o.cls=.type "StopIteration")->
   wpAny (model prog w) A (do if (<-isInstance (.ref e) (.type "StopIteration")) then pure none else throw (.ref e)) Q E { s with heap:=h' }:=λh' e hk ⟨o,ho,hc⟩=>
  wpAny_bind (wpAny_isInstance (T:="StopIteration") (b:=true) ⟨o,ho,hc⟩ isSubtype_stop (wpAny_pure (hQ _ hk)))
 unfold pyNext
 refine wpAny_bind (wpAny_attempt (wpAny_callSpecial?_slot (name:=Str.ofString "__next__") hT F.slot_zip_next (wpAny_call_entry F.slot_zip_next hT F.entry_zip_next ?_ (F.args_zip_next_1 _))))
 show wpAny _ _ (field (.ref z) 2 >>= _) _ _ _
 refine wpAny_bind (wpAny_field hz rfl (x:=.bool false) rfl ?_)
 show wpAny _ _ (field (.ref z) 3 >>= _) _ _ _
 refine wpAny_bind (wpAny_field hz rfl (x:=.ref TI) rfl (wpAny_bind (wpAny_seqItems hTI rfl ?_)))
 show wpAny _ _ (Builtin.SmallTypes.ownedTupleIsFree (.ref z) >>= _) _ _ _
 refine wpAny_bind ?_
 unfold Builtin.SmallTypes.ownedTupleIsFree
 refine wpAny_bind (wpAny_field hz rfl (x:=.none) rfl (wpAny_pure ?_))
 simp only [if_true]
 refine wpAny_bind (wpAny_rule (wpAny_bind (wpAny_field hz rfl (x:=.ref TO) rfl ?_)))
 refine wpAny_bind (wpAny_setField_rec hz (by simp) λg1 hz1 s1=>?_)
 replace hz1:IsZip g1 z TI TO .ellipsis:=hz1
 refine wpAny_bind ?_
 simp only [List.zipIdx_cons,List.zipIdx_nil,List.forIn_cons,List.forIn_nil]
 have e1:=s1.extBut
 refine wpAny_bind (wpAny_bind (wpAny_onRaise ?_))
 show wpAny _ _ (Builtin.SmallTypes.nextOf (.ref i1) >>= _) _ _ _
 cases hx:xs[n]? with
 | none=>
  refine wpAny_bind (uV hh (h1.to λo q=>e1 _ o D.i1z q) (hl1.to λo q=>e1 _ o D.l1z q) hx λg2 e s2 he=>?_)
  obtain⟨oe,hoe,hce⟩:=he
  have hz2:IsZip g2 z TI TO .ellipsis:=s2 _ _ D.i1z.symm hz1
  have hez:e≠z:=λx=>by subst x;rw [hz2] at hoe;cases hoe;simp at hce
  exact wpAny_setField_rec hz2 (by simp) λg3 _ s3=>fin g3 e (λc o c1 _ c3 _ x=>s3.extBut _ _ c1 (s2 _ _ c3 (e1 _ _ c1 x))) ⟨oe,s3.extBut _ _ hez hoe,hce⟩
 | some x=>
  have hy:ys[n]?=none:=by rcases hend with h | h;rw [hx] at h;cases h;exact h
  refine wpAny_bind (oZ (h1.to λo q=>e1 _ o D.i1z q) (hl1.to λo q=>e1 _ o D.l1z q) hx λg2 h12 s2=>wpAny_pure ?_)
  have e2:=s2.extBut
  have hTO2:IsPair g2 TO a b:=e2 _ _ D.TOi1 (e1 _ _ D.TOz hTO)
  refine wpAny_bind (wpAny_seqItems hTO2 rfl (wpAny_bind (wpAny_updateSeq_pair hTO2 λg3 hTO3 s3=>?_)))
  have e3:=s3.extBut
  refine wpAny_bind (wpAny_letGo (wpAny_pure ?_))
  refine wpAny_bind (wpAny_bind (wpAny_onRaise ?_))
  show wpAny _ _ (Builtin.SmallTypes.nextOf (.ref i2) >>= _) _ _ _
  refine wpAny_bind (uV hh (h2.to λo q=>e3 _ o D.TOi2.symm (e2 _ o D.i12.symm (e1 _ o D.i2z q))) (hl2.to λo q=>e3 _ o D.l2TO (e2 _ o D.l2i1 (e1 _ o D.l2z q))) hy λg4 e s4 he=>?_)
  obtain⟨oe,hoe,hce⟩:=he
  have hz4:IsZip g4 z TI TO .ellipsis:=s4 _ _ D.i2z.symm (e3 _ _ D.TOz.symm (e2 _ _ D.i1z.symm hz1))
  have hez:e≠z:=λx=>by subst x;rw [hz4] at hoe;cases hoe;simp at hce
  exact wpAny_setField_rec hz4 (by simp) λg5 _ s5=>fin g5 e (λc o c1 c2 c3 c4 x=>s5.extBut _ _ c1 (s4 _ _ c4 (e3 _ _ c2 (e2 _ _ c3 (e1 _ _ c1 x))))) ⟨oe,s5.extBut _ _ hez hoe,hce⟩
end
end L2
namespace L2
open PySem PySem.Spec PyProof.Rows
open PySem.AutoSeq1 (wpAny_loadPart')
noncomputable def AZ (k:Bool):Value:=if k=true then .type "tuple_iterator" else .type "list_iterator"
noncomputable def lL (k:Bool) (l:Addr):Obj:={ cls:=AZ k,data:=.fields #[.ref l,.int 0 0] }
abbrev zH1 (k:Bool) (h:Heap) (l1:Addr):Heap:=h.push (lL k l1)
abbrev zH2 (k k2:Bool) (h:Heap) (l1 l2:Addr):Heap:=(zH1 k h l1).push (lL k2 l2)
abbrev zH3 (k k2:Bool) (h:Heap) (l1 l2:Addr):Heap:=(zH2 k k2 h l1 l2).push { cls:=.type "tuple",data:=.seq #[.ref h.objs.size,.ref (zH1 k h l1).objs.size] }
abbrev zH4 (k k2:Bool) (h:Heap) (l1 l2:Addr):Heap:=(zH3 k k2 h l1 l2).push { cls:=.type "tuple",data:=.seq #[.none,.none] }
abbrev zH5 (k k2:Bool) (h:Heap) (l1 l2:Addr):Heap:=(zH4 k k2 h l1 l2).push { cls:=.type "zip",data:=.fields #[.none,.bool false,.bool false,.ref (zH2 k k2 h l1 l2).objs.size,.ref (zH3 k k2 h l1 l2).objs.size] }
section
variable {prog:Program}{w:World}{A:Around}{E:Value->Shared->Prop}{s:Shared}{k k2:Bool}
theorem qZ {l:Addr}{xs:Array Value}{Q:Value->Shared->Prop} (hl:SIs k s.heap l xs) (h:Q (.ref s.heap.objs.size) { s with heap:=s.heap.push (lL k l) }):wpAny (model prog w) A (pyIter (.ref l)) Q E s:=by
 cases k with
 | true=>exact wpAny_pyIter_tuple hl h
 | false=>exact wpAny_pyIter_list hl h
theorem nj (l1 l2:Addr) (xs ys:Array Value) (k k2:Bool) :
  Meets (Builtin.«zip.__new__» ⟨[.type "zip",.ref l1,.ref l2],[]⟩) (λ_ R s=>SIs k s.heap l1 xs/\SIs k2 s.heap l2 ys/\R (.ok (.ret (.ref (zH4 k k2 s.heap l1 l2).objs.size))) { s with heap:=zH5 k k2 s.heap l1 l2 }):=
 .of_wp λprog w A R s h=>by
  obtain⟨hp,g,d,tk,os⟩:=s
  obtain⟨hl1,hl2,h⟩:=h
  have hsub:=sub_zip
  have hL1:SIs k (Shared.heap ⟨hp,g,d,tk,os⟩) l1 xs:=hl1
  have hL2:SIs k2 (Shared.heap ⟨hp.push (lL k l1),g,d,tk,os⟩) l2 ys:=hl2.to λo q=>Heap.get?_push_of_some _ q
  wp_walk using qZ hL1,qZ hL2
  exact⟨_,rfl,h⟩
theorem qx (k:Bool) {h:Heap}{it l:Addr} (e:h.get? it=some (lL k l)):SIt k h it l 0:=by
 cases k with
 | true=>exact⟨_,e,rfl,rfl⟩
 | false=>exact⟨_,e,rfl,rfl⟩
theorem ot {l1 l2:Addr}{xs ys:Array Value}{Q:Value->Shared->Prop} (hl1:SIs k s.heap l1 xs) (hl2:SIs k2 s.heap l2 ys)
  (h:∀ h',ZSt k k2 (s.heap.objs.size+4) (s.heap.objs.size+2) (s.heap.objs.size+3) s.heap.objs.size (s.heap.objs.size+1) l1 l2 .none 0 h'->
    (∀ c o,s.heap.get? c=some o->h'.get? c=some o)->Q (.ref (s.heap.objs.size+4)) { s with heap:=h' }) :
  wpAny (model prog w) A (call (.type "zip") [.ref l1,.ref l2]) Q E s:=by
 refine callType_new F.called_zip (by decide) (F.typeCall_zip_2 _ _) (F.newCall_zip_2 _ _) (λobj=>F.args_object_init_3 obj _ _) F.entry_zip_new (nj l1 l2 xs ys k k2) ⟨hl1,hl2,?_⟩
 have z1:(zH1 k s.heap l1).objs.size=s.heap.objs.size+1:=Heap.size_push ..
 have z2:(zH2 k k2 s.heap l1 l2).objs.size=s.heap.objs.size+2:=by rw [Heap.size_push,z1]
 have z3:(zH3 k k2 s.heap l1 l2).objs.size=s.heap.objs.size+3:=by rw [Heap.size_push,z2]
 have z4:(zH4 k k2 s.heap l1 l2).objs.size=s.heap.objs.size+4:=by rw [Heap.size_push,z3]
 have up:∀ {h:Heap}{o':Obj}{c:Addr}{o:Obj},h.get? c=some o->(h.push o').get? c=some o:=λe=>Heap.get?_push_of_some _ e
 have g5:(zH5 k k2 s.heap l1 l2).get? (zH4 k k2 s.heap l1 l2).objs.size=some _:=Heap.get?_push_size _ rfl
 have g4:(zH5 k k2 s.heap l1 l2).get? (zH3 k k2 s.heap l1 l2).objs.size=some _:=up (Heap.get?_push_size _ rfl)
 have g3:(zH5 k k2 s.heap l1 l2).get? (zH2 k k2 s.heap l1 l2).objs.size=some _:=up (up (Heap.get?_push_size _ rfl))
 have g2:(zH5 k k2 s.heap l1 l2).get? (zH1 k s.heap l1).objs.size=some (lL k2 l2):=up (up (up (Heap.get?_push_size _ rfl)))
 have g1:(zH5 k k2 s.heap l1 l2).get? s.heap.objs.size=some (lL k l1):=up (up (up (up (Heap.get?_push_size _ rfl))))
 show _/\_
 rw [z2,z3,z4] at g5
 rw [z1,z2] at g3
 rw [z3] at g4
 rw [z1] at g2
 rw [z4]
 exact⟨⟨_,g5,rfl⟩,h _ ⟨g5,g3,⟨_,_,g4⟩,qx k g1,qx k2 g2⟩ λc o x=>up (up (up (up (up x))))⟩
end
noncomputable def SqK (k:Bool) (K:PySem.W.Frag) (H:Hp) (a:Addr) (xs:List V):Prop:=match k with
 | true=>SqT K H a xs
 | false=>SqL K H a xs
noncomputable def Itz (S1 S2:Hp->List V->Prop):It:=
 ⟨λi H=>∃ xs ys x y,S1 H xs/\S2 H ys/\xs[i]?=some x/\ys[i]?=some y,λi H x H'=>∃ T v u,(∀ xs,S1 H xs->xs[i]?=some v)/\(∀ ys,S2 H ys->ys[i]?=some u)/\H T=none/\x=.ref T/\H'=upd H T (.tup [v,u]),
  λi H=>∃ xs ys,S1 H xs/\S2 H ys/\(xs[i]?=none\/ys[i]?=none)⟩
theorem Inv.seqK {X:Cx}{pins:List (Addr×Obj)}{σ:St}{H:Hp}{s:Shared}{k:Bool}{a:Addr}{xs:List V} (I:Inv X pins σ H s) (h:SqK k X.K H a xs):∃ its:List Value,aT xs its/\SIs k s.heap a its.toArray:=by
 cases k with
 | true=>obtain⟨its,r,p,_⟩:=I.tuple h;exact⟨its,r,p⟩
 | false=>obtain⟨its,r,p,_⟩:=I.list h;exact⟨its,r,p.isList⟩
theorem Inv.seqK_inj {X:Cx}{pins:List (Addr×Obj)}{σ:St}{H:Hp}{s:Shared}{k:Bool}{a:Addr}{xs ys:List V} (I:Inv X pins σ H s) (h:SqK k X.K H a xs) (h':SqK k X.K H a ys):xs=ys:=by
 cases k with
 | true=>exact I.tuple_inj h h'
 | false=>exact I.list_inj h h'
theorem wb {P:Program}{w:World}{K:PySem.W.Frag}{elts:List Expr}{kk:Nat}{pos:Pos}{k k2:Bool}{z TI TO i1 i2 l1 l2:Addr} (D:ZipApart z TI TO i1 i2 l1 l2) :
  rA P w K (.Tuple elts kk pos) (Itz (λH xs=>SqK k K H l1 xs) λH xs=>SqK k2 K H l2 xs) [z,TI,TO,i1,i2] z (λi h=>ZSt k k2 z TI TO i1 i2 l1 l2 .none i h) where
 mem:=by simp
 obj:=λi h st b hb=>by
  simp only [List.mem_cons,List.not_mem_nil,or_false] at hb
  rcases hb with rfl | rfl | rfl | rfl | rfl
  ·exact⟨_,st.z,λv z=>by cases z⟩
  ·exact⟨_,st.ti,λv z=>by cases z⟩
  ·obtain⟨a,b,e⟩:=st.to;exact⟨_,e,λv z=>by cases z⟩
  ·obtain⟨o,vs,e,d⟩:=st.t1.live;exact⟨o,e,λv z=>by rw [d] at z;cases z⟩
  ·obtain⟨o,vs,e,d⟩:=st.t2.live;exact⟨o,e,λv z=>by rw [d] at z;cases z⟩
 keep:=λi h h' st kp=>by
  obtain⟨a,b,e⟩:=st.to
  exact⟨kp z (by simp) _ st.z,kp TI (by simp) _ st.ti,⟨a,b,kp TO (by simp) _ e⟩,st.t1.to λo q=>kp i1 (by simp) o q,st.t2.to λo q=>kp i2 (by simp) o q⟩
 item:=by
  intro X hP hw hK hc i pins s σ H E I hf st hg
  subst hP hw hK
  obtain⟨xs,ys,x,y,hq1,hq2,hx,hy⟩:=hg
  obtain⟨us,rv1,p1⟩:=I.seqK hq1
  obtain⟨vs,rv2,p2⟩:=I.seqK hq2
  obtain⟨u,hu,ru⟩:=rv1.get hx
  obtain⟨v,hv,rv⟩:=rv2.get hy
  refine wC D st p1 p2 (x:=u) (y:=v) (by simpa using hu) (by simpa using hv) λh1 st1 hT hsz kp=>⟨_,rfl,?_⟩
  refine wpAny_letOwnedTupleGo_zip st1.z λh2 hz2 s2=>?_
  have e2:=s2.extBut
  obtain⟨c1,c2,hto⟩:=st1.to
  have nz:∀ b ∈ [z,TI,TO,i1,i2],b≠s.heap.objs.size:=λb hb e=>by
   obtain⟨o,ho,_⟩:=(show ∃ o,s.heap.get? b=some o/\True by
    simp only [List.mem_cons,List.not_mem_nil,or_false] at hb
    obtain⟨a',b',e'⟩:=st.to
    obtain⟨o1,_,q1,_⟩:=st.t1.live
    obtain⟨o2,_,q2,_⟩:=st.t2.live
    rcases hb with rfl | rfl | rfl | rfl | rfl
    ·exact⟨_,st.z,trivial⟩
    ·exact⟨_,st.ti,trivial⟩
    ·exact⟨_,e',trivial⟩
    ·exact⟨_,q1,trivial⟩
    ·exact⟨_,q2,trivial⟩)
   have:=Heap.lt_size ho
   rw [e] at this
   exact Nat.lt_irrefl _ this
  have hT2:dE h2 s.heap.objs.size #[u,v]:=⟨_,e2 _ _ (Ne.symm (nz z (by simp))) hT,rfl,⟨_,rfl⟩,rfl⟩
  refine⟨.ref s.heap.objs.size,upd H s.heap.objs.size (.tup [x,y]),?_,rfl,⟨s.heap.objs.size,x,y,λzs hz=>by rw [I.seqK_inj hz hq1];exact hx,λzs hz=>by rw [I.seqK_inj hz hq2];exact hy,I.hok.fresh (Nat.le_refl _),rfl,rfl⟩,?_,λb hb=>?_⟩
  ·have I2:Inv X pins σ (upd H s.heap.objs.size (.tup [x,y])) { s with heap:=h2,toks:=s.toks }:=I.turnsT (fp:=[z,TI,TO,i1,i2]) (h':=h2) (t':=s.toks) (its:=#[u,v]) hf (λb o hb q=>by
    simp only [List.mem_cons,List.not_mem_nil,or_false,not_or] at hb
    exact e2 b o hb.1 (kp b o hb.1 hb.2.2.1 hb.2.2.2.1 hb.2.2.2.2 q)) (Nat.le_refl _) hT2 (.cons ru (.cons rv .nil)) (by show 2<=sizeLine;decide)
   exact I2
  ·exact⟨hz2,e2 _ _ D.TIz st1.ti,⟨c1,c2,e2 _ _ D.TOz hto⟩,st1.t1.to λo q=>e2 _ o D.i1z q,st1.t2.to λo q=>e2 _ o D.i2z q⟩
  ·rw [aD (nz b hb)];exact (hf b hb).1
 done:=by
  intro X hP hw hK hc i pins s σ H E I hf st hg
  subst hP hw hK
  obtain⟨xs,ys,hq1,hq2,hend⟩:=hg
  obtain⟨us,rv1,p1⟩:=I.seqK hq1
  obtain⟨vs,rv2,p2⟩:=I.seqK hq2
  have hl1:=rv1.length
  have hl2:=rv2.length
  refine yf (I.ok.hd hc) D st p1 p2 (by
   rcases hend with h | h
   ·left;rw [List.getElem?_eq_none_iff] at h;simp;lia
   ·right;rw [List.getElem?_eq_none_iff] at h;simp;lia) λh' kp=>⟨rfl,I.turns (t':=s.toks) (fp:=[z,TI,TO,i1,i2]) hf λb o hb q=>?_⟩
  simp only [List.mem_cons,List.not_mem_nil,or_false,not_or] at hb
  exact kp b o hb.1 hb.2.2.1 hb.2.2.2.1 hb.2.2.2.2 q
 self:=λ_ _ _ _ _ st h=>wpAny_pyIter_zip st.z h
noncomputable def BU (K:PySem.W.Frag) (k k2:Bool) (ta:TA):L2.TI:=λσ H R=>ta σ H λvs H1=>∃ a b,vs=[.ref a,.ref b]/\(∃ xs,SqK k K H1 a xs)/\(∃ xs,SqK k2 K H1 b xs)/\R (Itz (λH xs=>SqK k K H a xs) λH xs=>SqK k2 K H b xs) H1
theorem zJ {X:Cx}{elts:List Expr}{kk:Nat}{tpos:Pos}{a b:Expr}{ta:TA}{p pos:Pos}{k k2:Bool} (hg:Gl X "zip") (hm:X.mg "zip" = none) (ha:PA X [a,b] ta) (hs:starEach [a,b] X.env=[(false,eval a X.env),(false,eval b X.env)]:=by rfl) (hs2:starEach [b] X.env=[(false,eval b X.env)]:=by rfl) :
  PI X (.Tuple elts kk tpos) (.Call (.Name "zip" p) [a,b] [] pos) (BU X.K k k2 ta):=by
 intro pins s σ H R I h
 refine Call_ (h8 I hg hm boot_zip (PyProof.Rows.callWith_type1 (thn (ha pos pins s σ H _ I h) λus s1 ⟨vs,H1,I1,r1,q1⟩=>?_) (by rw [hs,hs2]) (by rw [hs2];rfl)))
 obtain⟨l,m,e,⟨xs,hq⟩,⟨ys,hq2⟩,q⟩:=q1
 subst e
 cases r1 with
 | cons r rr=>
  cases rr with
  | cons r' rr=>
   cases rr
   cases r
   cases r'
   obtain⟨us,rv1,p1⟩:=I1.seqK hq
   obtain⟨vs,rv2,p2⟩:=I1.seqK hq2
   have lt:∀ {k:Bool}{l:Addr}{us:Array Value},SIs k s1.heap l us->l < s1.heap.objs.size:=λ{k l us} hl=>by
    cases k with
    | true=>obtain⟨_,he,_⟩:=hl;exact Heap.lt_size he
    | false=>obtain⟨_,he,_⟩:=hl;exact Heap.lt_size he
   refine ot p1 p2 λh' hst hk=>wpAny_pyIter_zip hst.z ?_
   refine⟨_,[s1.heap.objs.size+4,s1.heap.objs.size+2,s1.heap.objs.size+3,s1.heap.objs.size,s1.heap.objs.size+1],_,_,H1,rfl,I1.kept (t':=s1.toks) hk,wb (zipApart_new (lt p1) (lt p2)),hst,λb hb=>?_,q⟩
   have hb':s1.heap.objs.size<=b:=by
    simp only [List.mem_cons,List.not_mem_nil,or_false] at hb
    rcases hb with rfl | rfl | rfl | rfl | rfl
    ·exact Nat.le_add_right _ 4
    ·exact Nat.le_add_right _ 2
    ·exact Nat.le_add_right _ 3
    ·exact Nat.le_refl _
    ·exact Nat.le_add_right _ 1
   exact I1.fpOk hb' (I1.hok.fresh hb')
noncomputable def fT:List D->List D->List D
 | d::ds,e::es=>.tup [d,e]::fT ds es
 | _,_=>[]
noncomputable def wZ:W->Option (Bool×List D)
 | .d (.tup ds)=>some (true,ds)
 | .d (.lst ds)=>some (false,ds)
 | _=>none
noncomputable def kl (af:Af):Lf
 | env,st=>(af env st).bind λr=>match r.1 with
  | [x,y]=>(wZ x).bind λa=>(wZ y).map λb=>(fT a.2 b.2,r.2)
  | _=>none
theorem pU:∀ (ds es:List D) (i:Nat),(fT ds es)[i]?=(ds[i]?).bind λd=>(es[i]?).map λe=>D.tup [d,e]
 | [],es,i=>by simp [fT]
 | d::ds,[],i=>by cases i<;>simp [fT]
 | d::ds,e::es,0=>by simp [fT]
 | d::ds,e::es,i+1=>by simpa [fT] using pU ds es i
theorem pr:∀ (ds es:List D),(fT ds es).length=min ds.length es.length
 | [],es=>by simp [fT]
 | d::ds,[]=>by simp [fT]
 | d::ds,e::es=>by simp [fT,pr ds es]
section
variable {K:PySem.W.Frag}{X:Cx}{a b:Expr}{pos:Pos}{af:Af}
theorem sf {st:Sto}{H:Hp}{φ:List Addr}{w:W}{v:V}{p:Bool×List D} (r:Rw K H φ w v) (e:wZ w=some p) (S:Sr K H φ st):∃ a vs,v=.ref a/\SqK p.1 K H a vs/\(∀ H' φ',Fw φ φ' H H'->SqK p.1 K H' a vs)/\Rls K H φ p.2 vs:=by
 cases w with
 | h n=>cases e
 | d x=>
  cases x with
  | tup ds=>
   cases e
   obtain⟨a,us,rfl,hq,hr⟩:=r
   exact⟨a,us,rfl,(SqT.of hq),λH' φ' f=>(SqT.of hq).fw S f,hr⟩
  | lst ds=>
   cases e
   obtain⟨a,us,rfl,h0,hq,hr⟩:=r
   exact⟨a,us,rfl,.inl hq,λH' φ' f=>.inl (hq.fw f h0),hr⟩
  | _=>cases e
theorem zC {S1 S2:Hp->List V->Prop}{ds es:List D}{vs us:List V}{φ:List Addr}{H:Hp} (h1:∀ H' φ',Fw φ φ' H H'->S1 H' vs) (h2:∀ H' φ',Fw φ φ' H H'->S2 H' us) (r1:∀ H' φ',Fw φ φ' H H'->Rls K H' φ' ds vs) (r2:∀ H' φ',Fw φ φ' H H'->Rls K H' φ' es us) :
  Yl K φ H (Itz S1 S2) (fT ds es):=by
 intro H2 φ2 st2 i f2 s2
 have q1:=h1 H2 φ2 f2
 have q2:=h2 H2 φ2 f2
 have w1:=r1 H2 φ2 f2
 have w2:=r2 H2 φ2 f2
 refine⟨λd hd=>?_,λhi=>⟨vs,us,q1,q2,?_⟩⟩
 ·rw [pU,Option.bind_eq_some_iff] at hd
  obtain⟨d1,hd1,hd⟩:=hd
  obtain⟨d2,hd2,rfl⟩:=Option.map_eq_some_iff.mp hd
  obtain⟨v,ev,rv⟩:=w1.get hd1
  obtain⟨u,eu,ru⟩:=w2.get hd2
  refine⟨⟨vs,us,v,u,q1,q2,ev,eu⟩,λx H' y=>?_⟩
  obtain⟨T,v',u',y1,y2,hT,rfl,rfl⟩:=y
  have z1:=y1 vs q1
  have z2:=y2 us q2
  rw [ev] at z1
  rw [eu] at z2
  cases z1
  cases z2
  exact⟨bK.new hT _,T,_,rfl,aX,_,_,rfl,rv.fw s2 (Fw.new hT),_,_,rfl,ru.fw s2 (Fw.new hT),rfl⟩
 ·rw [pr] at hi
  have l1:=w1.length
  have l2:=w2.length
  rw [List.getElem?_eq_none_iff,List.getElem?_eq_none_iff]
  lia
theorem vW {elts:List Expr}{k:Nat}{tpos p:Pos} (hg:Gl X "zip") (hm:X.mg "zip" = none) (ha:IA K X [a,b] af) (hs:aR a=true:=by rfl) (hs2:aR b=true:=by rfl) (hK:X.K=K:=by rfl) :
  II K X (.Tuple elts k tpos) (.Call (.Name "zip" p) [a,b] [] pos) (kl af):=by
 subst hK
 refine⟨λenv st r hr=>?_⟩
 simp only [kl,Option.bind_eq_some_iff] at hr
 obtain⟨⟨ws,s1⟩,hy,hr⟩:=hr
 dsimp only at hr
 split at hr
 next x y=>
  simp only [Option.bind_eq_some_iff,Option.map_eq_some_iff] at hr
  obtain⟨p1,hp1,p2,hp2,rfl⟩:=hr
  refine (zJ (k:=p1.1) (k2:=p2.1) hg hm (ha.run _ _ _ hy) (u8 hs hs2) (io hs2)).imp ?_
  rintro σ H R ⟨φ,hE,hS,q⟩
  refine⟨φ,hE,hS,λvs H1 φ1 f1 s1 w1=>?_⟩
  obtain⟨v,r,rfl,rx,v2,r',rfl,ry,rfl⟩:=w1
  obtain⟨a,us,rfl,hq,hq',hr⟩:=sf rx hp1 s1
  obtain⟨b,us2,rfl,hq2,hq2',hr2⟩:=sf ry hp2 s1
  exact⟨a,b,rfl,⟨us,hq⟩,⟨us2,hq2⟩,q _ H1 φ1 f1 s1 (zC hq' hq2' (λH' φ' f=>hr.fw s1 f) λH' φ' f=>hr2.fw s1 f)⟩
 next=>cases hr
end
end L2
namespace L2
open PySem PySem.Spec PyProof.Rows
noncomputable def hV:List Int->Int->Int
 | [],m=>m
 | n::ns,m=>hV ns (if n > m then n else m)
section
variable {prog:Program}{w:World}{A:Around}{s:Shared}{I l S:Addr}{items:Array Value}{ns:List Int}{kw:List (Str×Value)}{R:Result->Shared->Prop}
theorem qd (h:IntsAre items.toList ns) {j:Nat}{n:Int} (hn:ns[j]?=some n):∃ t,items[j]?=some (.int n t):=by
 have hj:j < items.toList.length:=by rw [dC h];exact (List.getElem?_eq_some_iff.mp hn).1
 obtain⟨t,e⟩:=gA h j hj
 refine⟨t,?_⟩
 have hj':j < items.size:=by simpa using hj
 rw [Array.getElem?_eq_getElem hj']
 rw [Array.getElem_toList] at e
 rw [e,List.getD_eq_getElem?_getD,hn];rfl
theorem pM (h:IntsAre items.toList ns) {j:Nat} (hn:ns[j]?=none):items[j]?=none:=by
 rw [List.getElem?_eq_none_iff] at hn
 have:=dC h
 rw [Array.getElem?_eq_none_iff]
 rw [Array.length_toList] at this
 lia
theorem zL (hh:A.handled=none) (hi:IntsAre items.toList ns) (hSI:S≠I) (hlI:l≠I) (hlS:l≠S):∀ (rest:List Int) (j:Nat) (s:Shared) (m:Int) (t:Tok) (c:Nat),ns.drop j=rest->s.heap.IsListIter I l j->s.heap.IsList l items->
  s.heap.get? S=some { cls:=.type "list",dict:=none,data:=.seq #[.int m t,.int m t] c,slots:=#[] }->
  (∀ t' h',(∀ b o,b≠I->b≠S->s.heap.get? b=some o->h'.get? b=some o)->R (.ok (.ret (.int (hV rest m) t'))) { s with heap:=h' })->codeAny (model prog w) A (.builtin "max.loop" ⟨[.ref I,.none,.ref S],kw⟩) R s:=by
 have hname:(toString "max"++toString ".loop" : String) = "max.loop":=by decide
 intro rest
 induction rest with
 | nil=>
  intro j s m t c hd hit hl hS hR
  have hn:ns[j]?=none:=by
   rw [List.getElem?_eq_none_iff]
   have:=congrArg List.length hd
   simp at this;lia
  refine codeAny_builtin F.entry_max_loop ?_
  rw [Around.under_plainId F.plain_max_loop _]
  show wpAny _ A.in1 (seqItems? (.ref S) >>= _) _ _ s
  refine wpAny_bind (wpAny_seqItems hS rfl ?_)
  show wpAny _ A.in1 (tryCatch (pyNext (.ref I)) _ >>= _) _ _ s
  refine wpAny_bind (wpAny_tryCatch (wpAny_pyNext_list_end hh hit hl (pM hi hn) λh1 e1=>?_))
  show wpAny _ A.in1 (updateSeq S (λ_=>#[]) >>= _) _ _ _
  refine wpAny_bind (wpAny_updateSeq (e1 _ _ hSI hS) rfl (wpAny_bind (wpAny_letGo (wpAny_pure ?_))))
  exact hR t _ λb o hb1 hb2 q=>(Heap.get?_update_other _ _ (Ne.symm hb2)).trans (e1 _ _ hb1 q)
 | cons n rest ih=>
  intro j s m t c hd hit hl hS hR
  have hn:ns[j]?=some n:=by
   have:=congrArg (λl=>l[0]?) hd
   simpa using this
  have hd':ns.drop (j+1)=rest:=by
   have:=congrArg (List.drop 1) hd
   simpa [List.drop_drop,Nat.add_comm] using this
  obtain⟨tn,hx⟩:=qd hi hn
  refine codeAny_builtin F.entry_max_loop ?_
  rw [Around.under_plainId F.plain_max_loop _]
  show wpAny _ A.in1 (seqItems? (.ref S) >>= _) _ _ s
  refine wpAny_bind (wpAny_seqItems hS rfl ?_)
  show wpAny _ A.in1 (tryCatch (pyNext (.ref I)) _ >>= _) _ _ s
  refine wpAny_bind (wpAny_tryCatch (wpAny_pyNext_list_item hit hl hx λh1 hit1 s1=>?_))
  have e1:=s1.extBut
  have hS1:=e1 _ _ hSI hS
  show wpAny _ A.in1 (tryCatch (holding [.int n tn,.int n tn] (richCompare .Gt (.int n tn) (.int m t) >>= _)) _ >>= _) _ _ _
  refine wpAny_bind (wpAny_tryCatch (wpAny_holding (wpAny_bind (PyProof.Rows.gt_int ?_))))
  refine wpAny_bind (wpAny_holding (wpAny_truthy_bool ?_))
  refine wpAny_bind (wpAny_letGo (wpAny_pure ?_))
  by_cases hb:n > m
  ·have hb':decide (n > m)=true:=by simp [hb]
   rw [hb']
   simp only [if_true]
   refine wpAny_bind (wpAny_updateSeq hS1 rfl (wpAny_bind (wpAny_letGo ?_)))
   rw [hname]
   refine wpAny_pure ⟨plainId_quiet F.plain_max_loop _,ih (j+1) _ n tn _ hd' (hit1.at λo q=>(Heap.get?_update_other _ _ hSI).trans q) (Heap.IsList.at hl λo q=>(Heap.get?_update_other _ _ (Ne.symm hlS)).trans (e1 _ _ hlI q)) (Heap.get?_update_self _ hS1 rfl) λt' h' k=>?_⟩
   have:=hR t' h' λb o hb1 hb2 q=>k b o hb1 hb2 ((Heap.get?_update_other _ _ (Ne.symm hb2)).trans (e1 _ _ hb1 q))
   rw [hV,if_pos hb] at this
   exact this
  ·have hb':decide (n > m)=false:=by simp [hb]
   rw [hb']
   simp only [Bool.false_eq_true,if_false]
   refine wpAny_bind (wpAny_letGo ?_)
   rw [hname]
   refine wpAny_pure ⟨plainId_quiet F.plain_max_loop _,ih (j+1) _ m t c hd' hit1 (Heap.IsList.at hl λo q=>e1 _ _ hlI q) hS1 λt' h' k=>?_⟩
   have:=hR t' h' λb o hb1 hb2 q=>k b o hb1 hb2 (e1 _ _ hb1 q)
   rw [hV,if_neg hb] at this
   exact this
variable {E:Value->Shared->Prop}
theorem jy {id:String}{b:Builtin}{args:List Value}{kw:List (Str×Value)}{Q:Value->Shared->Prop} (hk:builtinKind id=none) (hp:plainId id=true) (hb:entryFor table id=some b) (ha:argsOk id ⟨args,kw⟩)
  (hc:wpAny (model prog w) A.in1 (b ⟨args,kw⟩) (λfin s'=>match fin with
    | .done f=>(match (Except.ok f:Result) with | .ok (.ret v)=>Q v s' | .ok _=>False | .error e=>E e s')
    | .again c'=>c'.quiet=true/\codeAny (model prog w) A c' (λr s'=>match r with | .ok (.ret v)=>Q v s' | .ok _=>False | .error e=>E e s') s') E s) :
  wpAny (model prog w) A (call (.builtin id) args kw) Q E s:=by
 refine wpAny_call (codeAny_call_builtin hp hb ?_)
 simp only [checkBuiltinCall,hk]
 cases hsig:Manifest.signature? id with
 | none=>exact wpAny_pure hc
 | some sig=>
  have h2:Bind.checkArgs id sig ⟨args,kw⟩=pure ():=by simpa only [argsOk,hsig] using ha
  show wpAny _ A.in1 (Bind.checkArgs id sig ⟨args,kw⟩) _ _ s
  rw [h2];exact wpAny_pure hc
theorem t8 (a v:Value):argsOk "max" ⟨[a],[(Str.ofString "default",v)]⟩:=by unfold argsOk;kernel_rfl
noncomputable def sZ (ns:List Int) (d:Option Int):Option Int:=match ns with
 | n::r=>some (hV r n)
 | []=>d
theorem tX (hh:A.handled=none) (hi:IntsAre items.toList ns) (hSI:S≠I) (hlI:l≠I) (hlS:l≠S) {c:Nat} (hit:s.heap.IsListIter I l 0) (hl:s.heap.IsList l items) (hS:s.heap.get? S=some { cls:=.type "list",dict:=none,data:=.seq #[] c,slots:=#[] })
  (hR:∀ v h',(∀ b o,b≠I->b≠S->s.heap.get? b=some o->h'.get? b=some o)->(∀ n r,ns=n::r->∃ t,v=.int (hV r n) t)->(ns=[]->∃ k,kw=[(k,v)])->R (.ok (.ret v)) { s with heap:=h' })
  (h0:ns=[]->∃ k v,kw=[(k,v)]):codeAny (model prog w) A (.builtin "max.loop" ⟨[.ref I,.none,.ref S],kw⟩) R s:=by
 have hname:(toString "max"++toString ".loop" : String) = "max.loop":=by decide
 refine codeAny_builtin F.entry_max_loop ?_
 rw [Around.under_plainId F.plain_max_loop _]
 show wpAny _ A.in1 (seqItems? (.ref S) >>= _) _ _ s
 refine wpAny_bind (wpAny_seqItems hS rfl ?_)
 show wpAny _ A.in1 (tryCatch (pyNext (.ref I)) _ >>= _) _ _ s
 cases hn:ns with
 | nil=>
  obtain⟨k,v,rfl⟩:=h0 hn
  refine wpAny_bind (wpAny_tryCatch (wpAny_pyNext_list_end hh hit hl (pM hi (j:=0) (by rw [hn];rfl)) λh1 e1=>?_))
  refine wpAny_bind (wpAny_rule (wpAny_pure ?_))
  exact hR v _ (λb o hb1 _ q=>e1 _ _ hb1 q) (λn r e=>by rw [hn] at e;cases e) λ_=>⟨k,rfl⟩
 | cons n rest=>
  obtain⟨tn,hx⟩:=qd hi (j:=0) (n:=n) (by rw [hn];rfl)
  refine wpAny_bind (wpAny_tryCatch (wpAny_pyNext_list_item hit hl hx λh1 hit1 s1=>?_))
  have e1:=s1.extBut
  have hS1:=e1 _ _ hSI hS
  show wpAny _ A.in1 (updateSeq S (λ_=>#[.int n tn,.int n tn]) >>= _) _ _ _
  refine wpAny_bind (wpAny_updateSeq hS1 rfl ?_)
  rw [hname]
  refine wpAny_pure ⟨plainId_quiet F.plain_max_loop _,zL hh hi hSI hlI hlS rest 1 _ n tn _ (by rw [hn];rfl) (hit1.at λo q=>(Heap.get?_update_other _ _ hSI).trans q) (Heap.IsList.at hl λo q=>(Heap.get?_update_other _ _ (Ne.symm hlS)).trans (e1 _ _ hlI q)) (Heap.get?_update_self _ hS1 rfl) λt' h' k=>?_⟩
  exact hR _ h' (λb o hb1 hb2 q=>k b o hb1 hb2 ((Heap.get?_update_other _ _ (Ne.symm hb2)).trans (e1 _ _ hb1 q))) (λn' r' e=>by rw [hn] at e;cases e;exact⟨t',rfl⟩) λe=>by rw [hn] at e;cases e
theorem oq {Q:Value->Shared->Prop} (hh:A.handled=none) (hi:IntsAre items.toList ns) (hl:s.heap.IsList l items) (hk:kw=[]\/∃ v,kw=[(Str.ofString "default",v)]) (h0:ns=[]->kw≠[])
  (h:∀ v h',(∀ b o,s.heap.get? b=some o->h'.get? b=some o)->(∀ n r,ns=n::r->∃ t,v=.int (hV r n) t)->(ns=[]->∃ k,kw=[(k,v)])->Q v { s with heap:=h' }) :
  wpAny (model prog w) A (call (.builtin "max") [.ref l] kw) Q E s:=by
 have hname:(toString "max"++toString ".loop" : String) = "max.loop":=by decide
 have hlt:l < s.heap.objs.size:=by obtain⟨_,e,_⟩:=hl;exact Heap.lt_size e
 have hsz:(s.heap.push { cls:=.type "list_iterator",data:=.fields #[.ref l,.int 0 0] }).objs.size=s.heap.objs.size+1:=Heap.size_push ..
 have fin:∀ dd:List Value,kw=dd.map (λd=>((Str.ofString "default",d):Str×Value))->wpAny (model prog w) A.in1 (do
   let it <-pyIter (.ref l)
   let b <-newList []
   PySem.again (.builtin "max.loop" ⟨[it,.none,b],dd.map λd=>(Str.ofString "default",d)⟩)) (λfin s'=>match fin with
   | .done f=>(match (Except.ok f:Result) with | .ok (.ret v)=>Q v s' | .ok _=>False | .error e=>E e s')
   | .again c'=>c'.quiet=true/\codeAny (model prog w) A c' (λr s'=>match r with | .ok (.ret v)=>Q v s' | .ok _=>False | .error e=>E e s') s') E s:=λdd hdd=>by
  refine wpAny_bind (wpAny_pyIter_list hl (wpAny_bind (wpAny_newObj_type ?_)))
  refine wpAny_pure ⟨plainId_quiet F.plain_max_loop _,?_⟩
  rw [<-hdd]
  refine tX (S:=(s.heap.push { cls:=.type "list_iterator",data:=.fields #[.ref l,.int 0 0] }).objs.size) (I:=s.heap.objs.size) (l:=l) hh hi (by rw [hsz];exact Nat.succ_ne_self _) (Nat.ne_of_lt hlt) (by rw [hsz];exact Nat.ne_of_lt (Nat.lt_succ_of_lt hlt))
   ⟨_,Heap.get?_push_of_some _ (Heap.get?_push_size _ rfl),rfl,rfl⟩ (Heap.IsList.at hl λo q=>Heap.get?_push_of_some _ (Heap.get?_push_of_some _ q)) (Heap.get?_push_size _ rfl) (λv h' k h1 h2=>?_) (λe=>?_)
  ·refine h v h' (λb o q=>?_) h1 h2
   have hb:=Heap.lt_size q
   exact k b o (Nat.ne_of_lt hb) (by rw [hsz];exact Nat.ne_of_lt (Nat.lt_succ_of_lt hb)) (Heap.get?_push_of_some _ (Heap.get?_push_of_some _ q))
  ·rcases hk with hk | ⟨v,hk⟩
   ·exact absurd hk (h0 e)
   ·exact⟨_,v,hk⟩
 rcases hk with rfl | ⟨v,rfl⟩
 ·refine jy F.kind_max F.plain_max F.entry_max (F.args_max1 _) ?_
  show wpAny _ A.in1 (Builtin.Builtins.bindParams "max" ["key","default"] 0 ⟨[],[]⟩ >>= _) _ _ s
  refine wpAny_bind (wpAny_of_eq (show Builtin.Builtins.bindParams "max" ["key","default"] 0 ⟨[],[]⟩=pure [none,none] from rfl) ?_)
  refine wpAny_bind (wpAny_pure ?_)
  have:=fin [] rfl
  rw [<-hname] at this
  exact this
 ·refine jy F.kind_max F.plain_max F.entry_max (t8 _ _) ?_
  show wpAny _ A.in1 (Builtin.Builtins.bindParams "max" ["key","default"] 0 ⟨[],[(Str.ofString "default",v)]⟩ >>= _) _ _ s
  refine wpAny_bind (wpAny_of_eq (show Builtin.Builtins.bindParams "max" ["key","default"] 0 ⟨[],[(Str.ofString "default",v)]⟩=pure [none,some v] from by kernel_rfl) ?_)
  refine wpAny_bind (wpAny_pure ?_)
  have:=fin [v] rfl
  rw [<-hname] at this
  exact this
end
end L2
namespace L2
open PySem PySem.Spec PyProof.Rows
section
variable {K:PySem.W.Frag}{X:Cx}{e a b:Expr}{es:List Expr}{pos:Pos}{f fa fb:Ef}{af:Af}
noncomputable def lsI (st:Sto) (w:W):Option (List Int):=(lsD st w).bind aQ
theorem nv (hc:X.calm=true) {kw:List (Str×Value)}{d:Option V}{ns:List Int}{pins:List (Addr×Obj)}{σ:St}{H:Hp}{s:Shared}{ad:Addr}{Q:VK}{E:XK}{r:Int} (I:Inv X pins σ H s) (hl:Rd H ad (.lst (ns.map V.int)))
  (hk:(kw=[]/\ns≠[])\/∃ c t,kw=[(Str.ofString "default",.int c t)]/\(ns=[]->r=c)) (hr:∀ n q,ns=n::q->r=hV q n) (q:Q (.int r) H) :
  wpAny (model X.prog X.w) X.A (call (.builtin "max") [.ref ad] kw) (EP X pins σ Q) X.xe s:=by
 obtain⟨its,rv,pl,hz⟩:=I.list (.inl hl)
 refine oq (items:=its.toArray) (ns:=ns) (I.ok.hd hc) (by simpa using eO rv) pl.isList ?_ ?_ λv h' kp h1 h2=>?_
 ·rcases hk with hk | ⟨c,t,hk,_⟩
  ·exact .inl hk.1
  ·exact .inr ⟨_,hk⟩
 ·intro e z
  rcases hk with hk | ⟨c,t,hk,_⟩
  ·exact hk.2 e
  ·rw [hk] at z;cases z
 ·have hv:∃ t,v=.int r t:=by
   cases hn:ns with
   | nil=>
    obtain⟨k,hk2⟩:=h2 hn
    rcases hk with hk | ⟨c,t,hk,hc'⟩
    ·exact absurd hn hk.2
    ·rw [hk] at hk2
     cases hk2
     rw [hc' hn];exact⟨t,rfl⟩
   | cons n q=>
    rw [hr n q hn]
    exact h1 n q hn
  exact⟨.int r,H,I.kept kp,hv,q⟩
noncomputable def dMx (st:Sto):List W->Option D
 | [.d (.int i),.d (.int j)]=>some (.int (if j > i then j else i))
 | [w]=>(lsI st w).bind λns=>(sZ ns none).map D.int
 | _=>none
theorem sJ {st:Sto}{H:Hp}{φ:List Addr}{w:W}{v:V}{ns:List Int} (S:Sr K H φ st) (r:Rw K H φ w v) (h:lsI st w=some ns):∃ ad,v=.ref ad/\Rd H ad (.lst (ns.map V.int)):=by
 obtain⟨ds,e1,e2⟩:=Option.bind_eq_some_iff.mp h
 obtain⟨ad,vs,rfl,h1,h2⟩:=jS S r e1
 cases cE e2
 cases h2.ints
 exact⟨ad,rfl,h1⟩
theorem Bv (hc:X.calm=true:=by rfl):iK K X (.builtin "max") dMx:=by
 refine⟨λst ws d h=>?_⟩
 have one:∀ w,((lsI st w).bind λns=>(sZ ns none).map D.int)=some d->dk X (.builtin "max") (rCD K st [w] d):=λw h=>by
  obtain⟨ns,e1,h⟩:=Option.bind_eq_some_iff.mp h
  obtain⟨r,e2,rfl⟩:=Option.map_eq_some_iff.mp h
  intro pins s σ H xs us Q I rv q
  obtain⟨φ,S,⟨v,rr,rfl,r1,rfl⟩,q⟩:=q
  obtain⟨ad,rfl,hl⟩:=sJ S r1 e1
  obtain⟨u,rfl,ru⟩:=ij rv
  cases ru
  refine nv (E:=λ_ _ _=>False) (d:=none) hc I hl (.inl ⟨rfl,λe=>by rw [e] at e2;cases e2⟩) (λn q hn=>by rw [hn] at e2;exact (Option.some.inj e2).symm) (q _ H (bK.refl H) rfl)
 match ws,h with
 | [.d (.int i),.d (.int j)],h=>
  cases h
  refine (um hc).imp ?_
  rintro vs H Q ⟨φ,S,⟨v,r,rfl,r1,u,r',rfl,r2,rfl⟩,q⟩
  exact⟨i,j,by rw [show v=.int i from r1,show u=.int j from r2],q _ H (bK.refl H) rfl⟩
 | [w],h=>exact one w (by cases w with | h n=>exact h | d x=>cases x<;>exact h)
noncomputable def mz (a d:Ef):Ef
 | env,st=>(a env st).bind λx=>(d env x.2).bind λy=>(lsI y.2 x.1).bind λns=>match y.1 with
  | .d (.int c)=>(sZ ns (some c)).map λr=>(.d (.int r),y.2)
  | _=>none
theorem wd {p kpos:Pos}{d:Expr}{fd:Ef} (hg:Gl X "max") (hm:X.mg "max" = none) (ha:IE K X a fa) (hd:IE K X d fd) (hs:aR a=true:=by rfl) (hc:X.calm=true:=by rfl) :
  IE K X (.Call (.Name "max" p) [a] [⟨some (Str.ofString "default"),d,kpos⟩] pos) (mz fa fd):=by
 refine⟨λenv st r hr=>?_⟩
 simp only [mz,Option.bind_eq_some_iff] at hr
 obtain⟨⟨x,s1⟩,hx,⟨y,s2⟩,hy,ns,e1,hr⟩:=hr
 cases y with
 | h n=>cases hr
 | d yd=>
  cases yd with
  | int c=>
   obtain⟨rr,e2,rfl⟩:=Option.map_eq_some_iff.mp hr
   have ha':=(aa (es:=[]) ha ag hs).run env st ([x],s1) (by simp only [ae,aj,hx,Option.bind_some,Option.map_some])
   have hd':=yq (nm:=some (Str.ofString "default")) (kpos:=kpos) (kws:=[]) (hd.run env s1 (.d (.int c),s2) hy) y7
   intro pins s σ H Q I h
   obtain⟨φ,hE,hS,q⟩:=h
   refine wpAny_Call_Name_kw (h8 I hg hm PyProof.Rows.boot_max ?_ (by decide) (by decide))
   refine callWith_kw (thn (ha' pos pins s σ H (λvs H1=>∃ φ1,Fw φ φ1 H H1/\Sr K H1 φ1 s1/\Rws K H1 φ1 [x] vs) I ⟨φ,hE,hS,λvs H1 φ1 f1 S1 w1=>⟨φ1,f1,S1,w1⟩⟩) λus t1 z1=>?_) (by rw [ce hs];rfl) (by rw [ce hs];simp [starEach,backTo]) rfl rfl
   obtain⟨vs,H1,I1,r1,φ1,f1,S1,w1⟩:=z1
   refine thn (hd' pos pins t1 σ H1 (λzs H2=>∃ φ2 v,zs=[v]/\Fw φ1 φ2 H1 H2/\Sr K H2 φ2 s2/\Rw K H2 φ2 (.d (.int c)) v) I1 ⟨φ1,hE.fw hS f1,S1,λv H2 φ2 f2 S2 w2=>⟨φ2,v,rfl,f2,S2,w2⟩⟩) λws t2 z2=>?_
   obtain⟨zs,H2,I2,r2,φ2,v,ez,f2,S2,w2⟩:=z2
   subst ez
   obtain⟨v0,rr',rfl,rx,rfl⟩:=w1
   obtain⟨ad,rfl,hl⟩:=sJ S2 (rx.fw S1 f2) e1
   obtain⟨u,rfl,ru⟩:=ij r1
   cases ru
   obtain⟨u2,rfl,ru2⟩:=ij r2
   have w2':v=.int c:=w2
   subst w2'
   obtain⟨t,rfl⟩:=ru2
   refine nv (E:=λ_ _ _=>False) (d:=none) (r:=rr) hc I2 hl (.inr ⟨c,t,rfl,λe=>by rw [e] at e2;exact (Option.some.inj e2).symm⟩) (λn q hn=>by rw [hn] at e2;exact (Option.some.inj e2).symm) ?_
   exact q _ H2 φ2 (f1.trans f2) S2 rfl
  | _=>cases hr
end
end L2
namespace L2
open PySem PySem.Spec PyProof.Rows
section
variable {K:PySem.W.Frag}{X:Cx}
end
end L2
namespace L2
open PySem PySem.Spec PyProof.Rows
section
variable {K:PySem.W.Frag}{X:Cx}{pos:Pos}{a b:Expr}{af:Af}
end
end L2
namespace L2
open PySem PySem.Spec PyProof.Rows
section
variable {K:PySem.W.Frag}{X:Cx}{pos:Pos}{e a b c:Expr}{es:List Expr}{f fa fb:Ef}{af:Af}
end
end L2
namespace L2
open PySem PySem.Spec PyProof.Rows
section
variable {κ:Type} [DecidableEq κ]
noncomputable def gP (kvs:List (κ×V)) (k:κ):Option V:=(kvs.find? λkv=>decide (kv.1=k)).map (·.2)
noncomputable def fA (kvs:List (κ×V)) (k:κ) (v:V):List (κ×V):=
 if (kvs.any λkv=>decide (kv.1=k))=true then kvs.map (λkv=>if kv.1=k then (kv.1,v) else kv) else kvs++[(k,v)]
theorem lJ {p:κ×V}{r:List (κ×V)}{k:κ} (e:p.1=k):gP (p::r) k=some p.2:=by simp [gP,List.find?_cons,e]
theorem lY {p:κ×V}{r:List (κ×V)}{k:κ} (e:¬ p.1=k):gP (p::r) k=gP r k:=by simp [gP,List.find?_cons,e]
theorem pI (k:κ):∀ kvs:List (κ×V),(kvs.any λkv=>decide (kv.1=k))=(gP kvs k).isSome
 | []=>rfl
 | p::r=>by
  rw [List.any_cons]
  by_cases e:p.1=k
  ·simp only [lJ e,decide_eq_true e,Bool.true_or,Option.isSome_some]
  ·rw [lY e,decide_eq_false e,Bool.false_or];exact pI k r
theorem fO (kvs:List (κ×V)) (k:κ) (v:V):(fA kvs k v).length<=kvs.length+1:=by
 unfold fA
 split
 ·rw [List.length_map];lia
 ·rw [List.length_append,List.length_cons,List.length_nil];lia
theorem j5.isSome_eq {o:Option V}{u:Option Value} (r:j5 o u):o.isSome=u.isSome:=by
 cases o with
 | none=>cases u with
  | none=>rfl
  | some _=>exact (show False from r).elim
 | some _=>cases u with
  | none=>exact (show False from r).elim
  | some _=>rfl
theorem j5.getD {o:Option V}{u:Option Value}{d:V}{d':Value} (r:j5 o u) (rd:aW d d'):aW (o.getD d) (u.getD d'):=by
 cases o with
 | none=>cases u with
  | none=>exact rd
  | some _=>exact (show False from r).elim
 | some _=>cases u with
  | none=>exact (show False from r).elim
  | some _=>exact r
theorem KV.val {kvs:List (κ×V)}{vs:List (κ×Value)} (r:KV kvs vs) (k:κ):j5 (gP kvs k) (valueAt vs k):=by
 unfold KV at r
 induction r with
 | nil=>exact True.intro
 | @cons p q ps qs h t ih=>
  obtain⟨h1,h2⟩:=h
  by_cases e:p.1=k
  ·have e':q.1=k:=h1.symm.trans e
   have b:valueAt (q::qs) k=some q.2:=by simp [valueAt,List.find?_cons,e']
   rw [lJ e,b];exact h2
  ·have e':¬ q.1=k:=λz=>e (h1.trans z)
   have b:valueAt (q::qs) k=valueAt qs k:=by simp [valueAt,List.find?_cons,e']
   rw [lY e,b];exact ih
theorem KV.any {kvs:List (κ×V)}{vs:List (κ×Value)} (r:KV kvs vs) (k:κ):(kvs.any λkv=>decide (kv.1=k))=vs.any λkv=>decide (kv.1=k):=by
 unfold KV at r
 induction r with
 | nil=>rfl
 | cons h t ih=>rw [List.any_cons,List.any_cons,ih,h.1]
theorem KV.repl {kvs:List (κ×V)}{vs:List (κ×Value)} (r:KV kvs vs) (k:κ) {y:V}{u:Value} (ry:aW y u) :
  KV (kvs.map λkv=>if kv.1=k then (kv.1,y) else kv) (vs.map λkv=>if kv.1=k then (kv.1,u) else kv):=by
 unfold KV at r ⊢
 induction r with
 | nil=>exact .nil
 | @cons p q ps qs h t ih=>
  rw [List.map_cons,List.map_cons]
  refine .cons ?_ ih
  obtain⟨h1,h2⟩:=h
  by_cases e:p.1=k
  ·rw [if_pos e,if_pos (h1.symm.trans e)];exact⟨h1,ry⟩
  ·rw [if_neg e,if_neg (λz=>e (h1.trans z))];exact⟨h1,h2⟩
theorem KV.put {kvs:List (κ×V)}{vs:List (κ×Value)} (r:KV kvs vs) (k:κ) {y:V}{u:Value} (ry:aW y u):KV (fA kvs k y) (stored vs k u):=by
 unfold fA stored
 rw [r.any k]
 by_cases e:(vs.any λkv=>decide (kv.1=k))=true
 ·rw [if_pos e,if_pos e];exact r.repl k ry
 ·rw [if_neg e,if_neg e];exact Paired.snoc r ⟨rfl,ry⟩
theorem KV.length {kvs:List (κ×V)}{vs:List (κ×Value)} (r:KV kvs vs):kvs.length=vs.length:=Paired.length r
end
theorem tK {P:Program}{w:World}{k:Key}{u:Value} (r:aW (kV k) u):(cz P w).is k u=true:=by
 cases k with
 | inl i=>obtain⟨t,e⟩:=(show ∃ t,u=Value.int i t from r);subst e;exact pH P w i t
 | inr x=>obtain⟨t,e⟩:=(show ∃ t,u=Value.str x t from r);subst e;exact qA P w x t
theorem ny {P:Program}{w:World}:∀ {ks:List Key}{us:List Value},aT (ks.map kV) us->ItemsAre (cz P w) ks us
 | [],_,r=>by rw [List.map_nil] at r;cases r;exact .nil
 | k::ks,_,r=>by
  rw [List.map_cons] at r
  cases r with
  | cons h t=>exact .cons (tK h) (ny t)
abbrev KT (H:Hp):List (List Key×V)->List (List Key×Addr×Value)->Prop:=Paired λp q=>p.1=q.1/\H q.2.1=some (.tup (p.1.map kV))/\aW p.2 q.2.2
theorem KT.val {H:Hp}{kvs:List (List Key×V)}{xs:List (List Key×Addr×Value)} (r:KT H kvs xs) (k:List Key):j5 (gP kvs k) ((atKey xs k).map (·.2)):=by
 induction r with
 | nil=>exact True.intro
 | @cons p q ps qs h t ih=>
  obtain⟨h1,_,h2⟩:=h
  by_cases e:p.1=k
  ·have e':q.1=k:=h1.symm.trans e
   have b:atKey (q::qs) k=some q.2:=by simp [atKey,List.find?_cons,e']
   rw [lJ e,b];exact h2
  ·have e':¬ q.1=k:=λz=>e (h1.trans z)
   have b:atKey (q::qs) k=atKey qs k:=by simp [atKey,List.find?_cons,e']
   rw [lY e,b];exact ih
theorem KT.repl {H:Hp}{kvs:List (List Key×V)}{xs:List (List Key×Addr×Value)} (r:KT H kvs xs) (k:List Key) {y:V}{u:Value} (ry:aW y u) :
  KT H (kvs.map λkv=>if kv.1=k then (kv.1,y) else kv) (xs.map (putAt k u)):=by
 induction r with
 | nil=>exact .nil
 | @cons p q ps qs h t ih=>
  rw [List.map_cons,List.map_cons]
  refine .cons ?_ ih
  obtain⟨h1,h2,h3⟩:=h
  unfold putAt
  by_cases e:p.1=k
  ·rw [if_pos e,if_pos (h1.symm.trans e)];exact⟨h1,h2,ry⟩
  ·rw [if_neg e,if_neg (λz=>e (h1.trans z))];exact⟨h1,h2,h3⟩
theorem KT.put {H:Hp}{kvs:List (List Key×V)}{xs:List (List Key×Addr×Value)} (r:KT H kvs xs) (k:List Key) {b:Addr}{y:V}{u:Value} (hb:H b=some (.tup (k.map kV))) (ry:aW y u) :
  KT H (fA kvs k y) (storedH xs k b u):=by
 have e:(kvs.any λkv=>decide (kv.1=k))=(atKey xs k).isSome:=by
  rw [pI,(r.val k).isSome_eq,Option.isSome_map]
 unfold fA storedH
 rw [e]
 by_cases q:(atKey xs k).isSome=true
 ·rw [if_pos q,if_pos q];exact r.repl k ry
 ·rw [if_neg q,if_neg q];exact Paired.snoc r ⟨rfl,hb,ry⟩
theorem KT.keeps {H H':Hp}{kvs:List (List Key×V)}{xs:List (List Key×Addr×Value)} (r:KT H kvs xs) (ht:∀ b ys,H b=some (.tup ys)->H' b=some (.tup ys)):KT H' kvs xs:=
 Paired.mapP r λ_ _ z=>⟨z.1,ht _ _ z.2.1,z.2.2⟩
section
variable {P:Program}{w:World}{H:Hp}{h:Heap}{a:Addr}
theorem yF {u:HO} (ok:HOk P w H h) (e:Rd H a u):bY P w H h a u:=e.ok ok
theorem p7 {kvs:List (Key×V)} (ok:HOk P w H h) (e:Rd H a (.dK kvs)):kvs.length<=sizeLine/\(a==sysModules)=false/\∃ vs,KV kvs vs/\h.DictOf (cz P w) a vs:=
 show bY P w H h a (.dK kvs) from yF ok e
theorem Bc {kvs:List (Key×V)} (ok:HOk P w H h) (e:H a=some (.dK kvs)):kvs.length<=sizeLine/\(a==sysModules)=false/\∃ vs,KV kvs vs/\h.DictOf (cz P w) a vs:=p7 ok (.inl e)
theorem lq {ks:List Key} (ok:HOk P w H h) (e:H a=some (.tup (ks.map kV))):(tupleKind (cz P w)).is h ks a:=by
 obtain⟨_,its,r,o,h1,h2,⟨n,h3⟩,_⟩:=(show bY P w H h a (.tup (ks.map kV)) from ok a _ e)
 exact⟨o,its.toArray,n,h1,h2,h3,by simpa using ny r⟩
theorem qC {kvs:List (List Key×V)} (ok:HOk P w H h) (e:Rd H a (.dT kvs)):kvs.length<=sizeLine/\(a==sysModules)=false/\
  ∃ xs,KT H kvs xs/\h.DictOfH (tupleKind (cz P w)) a xs:=by
 obtain⟨z,y,xs,r,o,es,ep,h1,h2,h3,h4,h5⟩:=(show bY P w H h a (.dT kvs) from yF ok e)
 refine⟨z,y,xs,r,o,es,ep,h1,h2,h3,h4,λx hx=>?_,h5⟩
 have all:∀ {l:List (List Key×V)}{m:List (List Key×Addr×Value)},KT H l m->∀ x ∈ m,(tupleKind (cz P w)).is h x.1 x.2.1:=by
  intro l m q
  induction q with
  | nil=>intro x hx;exact nomatch hx
  | @cons p q ps qs hq t ih=>
   intro x hx
   rcases List.mem_cons.mp hx with e | hx
   ·subst e
    exact lq ok (by rw [<-hq.1];exact hq.2.1)
   ·exact ih x hx
 exact all r x hx
theorem uL {kvs:List (List Key×V)} (ok:HOk P w H h) (e:H a=some (.dT kvs)):kvs.length<=sizeLine/\(a==sysModules)=false/\
  ∃ xs,KT H kvs xs/\h.DictOfH (tupleKind (cz P w)) a xs:=qC ok (.inl e)
end
noncomputable def ow (H:Hp) (a:Addr) (y:V) (r:Option V):Prop:=
 (∃ kvs k,Rd H a (.dK kvs)/\y=kV k/\r=gP kvs k)\/∃ kvs k b,Rd H a (.dT kvs)/\y=.ref b/\H b=some (.tup (k.map kV))/\r=gP kvs k
noncomputable def ww (H:Hp) (a:Addr) (y v:V) (H':Hp):Prop:=
 (∃ kvs k,H a=some (.dK kvs)/\y=kV k/\kvs.length < sizeLine/\H'=upd H a (.dK (fA kvs k v)))\/
 ∃ kvs k b,H a=some (.dT kvs)/\y=.ref b/\H b=some (.tup (k.map kV))/\kvs.length < sizeLine/\H'=upd H a (.dT (fA kvs k v))
theorem ow.t {H:Hp}{a b:Addr}{kvs:List (List Key×V)}{k:List Key} (e:H a=some (.dT kvs)) (eb:H b=some (.tup (k.map kV))):ow H a (.ref b) (gP kvs k):=.inr ⟨kvs,k,b,.inl e,rfl,eb,rfl⟩
theorem ww.t {H:Hp}{a b:Addr}{kvs:List (List Key×V)}{k:List Key}{v:V} (e:H a=some (.dT kvs)) (eb:H b=some (.tup (k.map kV))) (hl:kvs.length < sizeLine) :
  ww H a (.ref b) v (upd H a (.dT (fA kvs k v))):=.inr ⟨kvs,k,b,e,rfl,eb,hl,rfl⟩
section
variable {X:Cx}{pins:List (Addr×Obj)}{σ:St}{H:Hp}{s:Shared}{a:Addr}{y v:V}{u r:Value}{o:Option V}{A:Around}{E:Value->Shared->Prop}
theorem Inv.big (I:Inv X pins σ H s):sysModules < s.heap.objs.size:=by
 have h:mainGlobals < s.heap.objs.size:=(I.mod.glob.keeps I.bk).lt
 exact Nat.lt_trans (by decide) h
theorem ux {Q:Value->Shared->Prop} (hu:A.units+1 < cLine) (I:Inv X pins σ H s) (g:ow H a y (some v)) (ry:aW y u) (h:∀ w' s',Inv X pins σ H s'->aW v w'->Q w' s') :
  wpAny (model X.prog X.w) A (getItem (.ref a) u) Q E s:=by
 rcases g with⟨kvs,k,e,ey,l⟩ | ⟨kvs,k,b,e,ey,eb,l⟩
 ·subst ey
  obtain⟨z,hd,vs,rel,dd⟩:=p7 I.hok e
  obtain⟨w',hw,rw'⟩:=j5.some_of (v:=v) (o:=valueAt vs k) (by rw [l];exact rel.val k)
  exact wpAny_getItem_of (tK ry) dd.mapOf hw (h w' _ (I.tok _) rw')
 ·subst ey
  cases (show u=Value.ref b from ry)
  obtain⟨z,hd,xs,rel,dd⟩:=qC I.hok e
  obtain⟨w',hw,rw'⟩:=j5.some_of (v:=v) (o:=(atKey xs k).map (·.2)) (by rw [l];exact rel.val k)
  obtain⟨p,hp,hp2⟩:=Option.map_eq_some_iff.mp hw
  refine wpAny_getItem_heap (tupleKind_room_in1 hu) (lq I.hok eb) dd hp ?_
  rw [hp2]
  exact h w' _ (I.tok _) rw'
theorem pk {h':Heap}{t':Nat}{ob:HO} (I:Inv X pins σ H s) (mu:Mut (H a)) (hs:Heap.SameBut a s.heap h') (he:∃ q,h'.get? a=some q) (new:bY X.prog X.w (upd H a ob) h' a ob) :
  Inv X pins σ (upd H a ob) { s with heap:=h',toks:=t' }:=
 I.write (x:=a) (e:=a) mu (.inl rfl) (λb q hb z=>(hs.2 b hb).trans z) he new
theorem zz {P:Program}{w:World}{H':Hp}{h':Heap}{kvs:List (Key×V)}{vs:List (Key×Value)} (z:kvs.length<=sizeLine) (hd:(a==sysModules)=false) (rel:KV kvs vs) (dd:h'.DictOf (cz P w) a vs) :
  bY P w H' h' a (.dK kvs):=⟨z,hd,vs,rel,dd⟩
theorem uy {H':Hp}{Q:Unit->Shared->Prop} (hu:A.units+1 < cLine) (I:Inv X pins σ H s) (g:ww H a y v H') (ry:aW y u) (rv:aW v r) (h:∀ s',Inv X pins σ H' s'->Q () s') :
  wpAny (model X.prog X.w) A (setItem (.ref a) u r) Q E s:=by
 rcases g with⟨kvs,k,e,ey,l,eH⟩ | ⟨kvs,k,b,e,ey,eb,l,eH⟩
 ·subst ey eH
  obtain⟨z,hd,vs,rel,dd⟩:=Bc I.hok e
  have hz:vs.length<=sizeLine:=by rw [<-rel.length];exact z
  have hl:(fA kvs k v).length<=sizeLine:=by have:=fO kvs k v;lia
  refine wpAny_setItem_pairs (hsz:=hz) (tK ry) dd λh' dd' hs=>h _ ?_
  have he:∃ q,h'.get? a=some q:=let ⟨q,_,_,hq,_⟩:=dd';⟨q,hq⟩
  exact pk I (by rw [e];exact True.intro) hs he (zz hl hd (rel.put k rv) dd')
 ·subst ey eH
  cases (show u=Value.ref b from ry)
  obtain⟨z,hd,xs,rel,dd⟩:=uL I.hok e
  have hz:xs.length<=sizeLine:=by rw [<-Paired.length rel];exact z
  have hl:(fA kvs k v).length<=sizeLine:=by have:=fO kvs k v;lia
  refine wpAny_setItem_heap (hsz:=hz) (tupleKind_room_in1 hu) (lq I.hok eb) dd λh' dd' hs=>h _ ?_
  obtain⟨q,es,ep,hq,h2,h3,h4,_,h5⟩:=dd'
  refine pk I (by rw [e];exact True.intro) hs ⟨q,hq⟩ ⟨hl,hd,_,(rel.put k eb rv).keeps λc ys ec=>?_,q,es,ep,hq,h2,h3,h4,h5⟩
  rw [aD (yA ec e (λz=>nomatch z))]
  exact ec
end
section
variable {X:Cx}{pins:List (Addr×Obj)}{σ:St}{H:Hp}{s:Shared}{a:Addr}{kvs:List (Key×V)}{k:Key}{u:Value}{A:Around}{E:Value->Shared->Prop}
end
noncomputable def Az (i:Expr):Prop:=∀ ov iv,subscripted i false ov iv=operate [ov,iv] (getItem ov iv)
theorem yb {prog:Program}{w:World}{A:Around}{E:Value->Shared->Prop}{s:Shared}{env:Env}{value slice:Expr}{pos:Pos}{T id:String}{Q:Value->Shared->Prop}
  (hl:typeLookup (.type T) "__getitem__" = pure (some (.builtin id))) (hs:Az slice)
  (h:wpAny (model prog w) A (eval value env) (λo s₁=>wpAny (model prog w) A (eval slice env) (λi s₂=>s₂.TypeIs o T/\wpAny (model prog w) A (getItem o i) Q E s₂) E s₁) E s) :
  wpAny (model prog w) A (eval (.Subscript value slice pos) env) Q E s:=by
 refine Subscript_ (wpAny_mono h (λo s₁ h₁=>wpAny_mono h₁ (λi s₂ h₂=>?_) λ_ _ x=>x) λ_ _ x=>x)
 obtain⟨hT,h₂⟩:=h₂
 unfold subscriptTail
 refine wpAny_bind ?_
 rw [getitemInPython_of_ne hT.not_modules]
 refine wpAny_bind (wpAny_specialOf hT hl ?_)
 have fin:wpAny (model prog w) A (subscripted slice false o i) (λr s₃=>wpAny (model prog w) A (letTemporaryGo value o r >>= λ_=>pure r) Q E s₃) E s₂:=by
  rw [hs o i]
  exact wpAny_operating (wpAny_mono h₂ (λr s₃ h₃=>wpAny_bind (wpAny_letTemporaryGo (wpAny_pure h₃))) λ_ _ x=>x)
 first
  | exact wpAny_pure (wpAny_bind fin)
  | exact wpAny_bind (wpAny_pure (wpAny_bind fin))
  | exact wpAny_bind fin
theorem qD {X:Cx}{pins:List (Addr×Obj)}{σ:St}{H:Hp}{s:Shared}{a:Addr}{y:V}{o:Option V} (I:Inv X pins σ H s) (g:ow H a y o):s.TypeIs (.ref a) "dict":=by
 rcases g with⟨kvs,k,e,_,_⟩ | ⟨kvs,k,b,e,_,_,_⟩
 ·obtain⟨_,_,vs,_,dd⟩:=p7 I.hok e
  exact dd.typeIs
 ·obtain⟨_,_,xs,_,dd⟩:=qC I.hok e
  exact dd.typeIs
noncomputable def AQ (td ty:TE):TE:=λσ H Q=>td σ H λx H1=>ty σ H1 λy H2=>∃ a v,x=.ref a/\ow H2 a y (some v)/\Q v H2
noncomputable def Bm (td ty tv:TE):TS:=λD σ H=>tv σ H λv H1=>td σ H1 λx H2=>ty σ H2 λy H3=>∃ a H4,x=.ref a/\ww H3 a y v H4/\D.nx σ H4
section
variable {X:Cx}{o i e value:Expr}{pos pos' tpos:Pos}{td ty tv:TE}
theorem yu (hu:X.A.units+1 < cLine) (ho:PE X o td) (hi:PE X i ty) (hs:Az i):PE X (.Subscript o i pos) (AQ td ty):=by
 intro pins s σ H Q I h
 refine yb PySem.F.slot_dict_getitem.lookup hs (thn (ho pins s σ H _ I h) λu s1 ⟨x,H1,I1,rx,q1⟩=>thn (hi pins s1 σ H1 _ I1 q1) λiv s2 ⟨y,H2,I2,ry,a,v,ex,g,q2⟩=>?_)
 subst ex
 obtain rfl:u=Value.ref a:=rx
 exact⟨qD I2 g,ux hu I2 g ry λw' s3 I3 rw'=>⟨v,H2,I3,rw',q2⟩⟩
theorem xQ (hu:X.A.units+1 < cLine) (ho:PE X o td) (hi:PE X i ty) (hv:PE X value tv) (hs:swapsWith value (some (.Subscript o i pos')) pos.line X.env=pure false) :
  PS X (.Assign [.Subscript o i pos'] value pos) (Bm td ty tv):=by
 intro pins s σ H D I h
 refine wpAny_Assign_Subscript (thn (hv pins s σ H _ I h) λr s1 ⟨v,H1,I1,rv,q1⟩=>thn (ho pins s1 σ H1 _ I1 q1) λu s2 ⟨x,H2,I2,rx,q2⟩=>thn (hi pins s2 σ H2 _ I2 q2) λiv s3 ⟨y,H3,I3,ry,a,H4,ex,g,q3⟩=>?_) hs
 subst ex
 obtain rfl:u=Value.ref a:=rx
 exact uy hu I3 g ry rv λs4 I4=>⟨σ,H4,I4,q3⟩
end
theorem qW {P:Program}{w:World}{H:Hp} (h:Heap) (hb:sysModules < h.objs.size):bY P w H (h.push { cls:=.type "dict",data:=.dict #[] }) h.objs.size (.dT []):=
 ⟨Nat.zero_le _,beq_eq_false_iff_ne.mpr (Ne.symm (Nat.ne_of_lt hb)),[],.nil,_,#[],0,Heap.get?_push_size _ rfl,⟨rfl,rfl,rfl⟩,rfl,rfl,List.nodup_nil⟩
noncomputable def Aw:TE:=λ_ H Q=>∀ p,H p=none->Q (.ref p) (upd H p (.dT []))
section
variable {X:Cx}{pos:Pos}
theorem wB:PE X (.Dict [] [] pos) Aw:=λpins s σ H Q I h=>
 wpAny_Dict_empty ⟨.ref s.heap.objs.size,_,I.laid (a:=s.heap.objs.size) (o:=.dT []) (t':=s.toks) (λ_ _ q=>Heap.get?_push_of_some _ q) (Nat.le_refl _) (qW s.heap I.big),rfl,h _ (I.hok.fresh (Nat.le_refl _))⟩
end
structure M2 (X:Cx) (o:Expr) (m:Str) (apos:Pos) (e f:Expr) (cpos:Pos):Prop where
 base:attributeBase o m X.env (eval o X.env)=eval o X.env
 few:((backTo cpos (starEach [e,f] X.env)).all (λx=>!x.1) && (backToKw cpos (keywordEach [] X.env)).all (λx=>x.1.isSome)
  && decide (([e,f]:List Expr).length+([]:List Keyword).length+(if ([]:List Keyword).isEmpty then 0 else 1) < 30))=true
 line:(apos.endLine==cpos.line)=true
 trees:backTo cpos (starEach [e,f] X.env)=[(false,eval e X.env),(false,eval f X.env)]
noncomputable def IsD (H:Hp) (a:Addr):Prop:=(∃ kvs,Rd H a (.dK kvs))\/∃ kvs,Rd H a (.dT kvs)
theorem yR {X:Cx}{pins:List (Addr×Obj)}{σ:St}{H:Hp}{s:Shared}{a:Addr} (I:Inv X pins σ H s) (d:IsD H a) :
  s.TypeIs (.ref a) "dict"/\(∀ b,Value.ref a=.ref b->∃ ob,s.heap.get? b=some ob/\ob.dict=none)/\(a==sysModules)=false:=by
 rcases d with⟨kvs,e⟩ | ⟨kvs,e⟩
 ·obtain⟨_,hd,vs,_,dd⟩:=p7 I.hok e
  refine⟨dd.typeIs,λb q=>?_,hd⟩
  cases q
  obtain⟨ob,_,_,h1,h2,_⟩:=dd
  exact⟨ob,h1,h2.2.1⟩
 ·obtain⟨_,hd,xs,_,dd⟩:=qC I.hok e
  refine⟨dd.typeIs,λb q=>?_,hd⟩
  cases q
  obtain⟨ob,_,_,h1,h2,_⟩:=dd
  exact⟨ob,h1,h2.2.1⟩
section
variable {X:Cx}{pins:List (Addr×Obj)}{σ:St}{H:Hp}{s:Shared}{a:Addr}{y d:V}{u r:Value}{o:Option V}{A:Around}{E:Value->Shared->Prop}
theorem zu {Q:Value->Shared->Prop} (hu:A.units+1 < cLine) (I:Inv X pins σ H s) (g:ow H a y o) (ry:aW y u) (rd:aW d r) (h:∀ w' s',Inv X pins σ H s'->aW (o.getD d) w'->Q w' s') :
  wpAny (model X.prog X.w) A (call (.builtin "dict.get") [.ref a,u,r]) Q E s:=by
 rcases g with⟨kvs,k,e,ey,l⟩ | ⟨kvs,k,b,e,ey,eb,l⟩
 ·subst ey
  obtain⟨z,hd,vs,rel,dd⟩:=p7 I.hok e
  refine call_meetsIn PySem.F.slot_dict_get dd.typeIs PySem.F.entry_dict_get (PySem.F.args_dict_get_3 _ _ _) (meets_dict_get_default (cz X.prog X.w) a (tK ry) hd r) ⟨_,dd.mapOf,h _ _ (I.tok _) ?_⟩
  rw [l]
  exact (rel.val k).getD rd
 ·subst ey
  cases (show u=Value.ref b from ry)
  obtain⟨z,hd,xs,rel,dd⟩:=qC I.hok e
  refine call_meetsIn PySem.F.slot_dict_get dd.typeIs PySem.F.entry_dict_get (PySem.F.args_dict_get_3 _ _ _) (meetsH_dict_get_default (tupleKind (cz X.prog X.w)) a b hd r) ⟨tupleKind_room_in1 hu,k,xs,lq I.hok eb,dd,h _ _ (I.tok _) ?_⟩
  rw [l]
  exact (rel.val k).getD rd
end
noncomputable def Aa (td ty tx:TE):TE:=λσ H Q=>td σ H λx H1=>∃ a,x=.ref a/\IsD H1 a/\ty σ H1 λy H2=>tx σ H2 λz H3=>∃ o,ow H3 a y o/\Q (o.getD z) H3
section
variable {X:Cx}{o e f:Expr}{apos cpos:Pos}{td ty tx:TE}
theorem vt (hu:X.A.units+1 < cLine) (ho:PE X o td) (he:PE X e ty) (hf:PE X f tx) (m:M2 X o "get" apos e f cpos):PE X (.Call (.Attribute o "get" apos) [e,f] [] cpos) (Aa td ty tx):=by
 intro pins s σ H Q I h
 refine wpAny_Call_method m.base m.few m.line PySem.F.plainAttrs_dict PySem.F.slot_dict_get PySem.F.type_dict_get (thn (ho pins s σ H _ I h) λu s1 ⟨x,H1,I1,rx,a,ex,d,q1⟩=>?_)
 subst ex
 obtain rfl:u=Value.ref a:=rx
 obtain⟨t1,t2,_⟩:=yR I1 d
 refine⟨t1,t2,?_⟩
 rw [m.trees]
 refine Calls.callWith_builtin rfl (Calls.evalArgs_plain (Calls.spliced_cons (thn (he pins s1 σ H1 _ I1 q1) λiv s2 ⟨y,H2,I2,ry,q2⟩=>
  Calls.spliced_cons (thn (hf pins s2 σ H2 _ I2 q2) λfv s3 ⟨z,H3,I3,rz,ov,g,q3⟩=>Calls.spliced_nil ?_))))
 exact zu hu I3 g ry rz λw' s4 I4 rw'=>⟨_,H3,I4,rw',q3⟩
end
section
variable {X:Cx}{pins:List (Addr×Obj)}{σ:St}{H:Hp}{s:Shared}{a:Addr}{kvs:List (Key×V)}{A:Around}{E:Value->Shared->Prop}
end
section
variable {X:Cx}{pins:List (Addr×Obj)}{σ:St}{H:Hp}{s:Shared}{a:Addr}{y:V}{u:Value}{A:Around}{E:Value->Shared->Prop}
end
end L2
namespace L2
open PySem PySem.Spec PyProof.Rows
section
variable {prog:Program}{w:World}{A:Around}{E:Value->Shared->Prop}{s:Shared}{κ:Type} [DecidableEq κ] {knd:KeyKind prog w κ}{a:Addr}{kvs:List (κ×Value)}
end
section
variable {X:Cx}{pins:List (Addr×Obj)}{σ:St}{H:Hp}{s:Shared}{a:Addr}{kvs:List (Key×V)}{k:Key}{u r:Value}{A:Around}{E:Value->Shared->Prop}{z:V}
end
section
variable {K:PySem.W.Frag}{X:Cx}{pos:Pos}{e a b o f:Expr}{fe fa fb fo ff:Ef}
end
section
variable {K:PySem.W.Frag}{X:Cx}
end
end L2
namespace L2
open PySem PySem.Spec PyProof.Rows
noncomputable def xU (m:Nat):List Nat:=(List.range 6).filter λk=>m.testBit k
theorem rC {m k:Nat}:k ∈ xU m↔k < 6/\m.testBit k=true:=by
 unfold xU;rw [List.mem_filter,List.mem_range]
theorem zX {k j:Nat}:(1 <<< k).testBit j=decide (k=j):=by rw [Nat.one_shiftLeft,Nat.testBit_two_pow]
section
variable {b:Bool}{t:SetTable}{m d k:Nat}
end
end L2
namespace L2
open PySem PySem.Spec PyProof.Rows
section
variable {prog:Program}{w:World}{A:Around}{E:Value->Shared->Prop}{s:Shared}{a:Addr}{m d k:Nat}
end
end L2
namespace L2
open PySem PySem.Spec PyProof.Rows
section
variable {prog:Program}{w:World}{A:Around}{E:Value->Shared->Prop}{s:Shared}{a it:Addr}{m d ep i:Nat}{f:Nat->Tok}
end
end L2
namespace L2
open PySem PySem.Spec PyProof.Rows
section
variable {prog:Program}{w:World}{A:Around}{E:Value->Shared->Prop}{s:Shared}{a it:Addr}{m d ep i:Nat}{f:Nat->Tok}
end
end L2
namespace L2
open PySem PySem.Spec PyProof.Rows
noncomputable def bO (l:List Int):Nat:=l.foldl (λm k=>m ||| 1 <<< k.toNat) 0
section
variable {prog:Program}{w:World}{A:Around}{E:Value->Shared->Prop}{s:Shared}
end
section
variable {prog:Program}{w:World}{A:Around}{R:Result->Shared->Prop}{I:Addr}{fp wr:List Addr}{G:Array GenState->Array GenState->Prop}{P:Nat->Value->Prop}{St:Nat->Shared->Prop}
end
section
variable {prog:Program}{w:World}{A:Around}{E:Value->Shared->Prop}{s:Shared}
end
end L2
namespace L2
open PySem PySem.Spec PyProof.Rows
section
variable {prog:Program}{w:World}{A:Around}{E:Value->Shared->Prop}{s:Shared}{a r o:Addr}{m m1 m2 d k ep:Nat}{f:Nat->Tok}
noncomputable def kz (l:List Nat):Nat:=l.foldl (λm k=>m ||| 1 <<< k) 0
theorem oQ:∀ (l:List Nat) (m:Nat),l.foldl (λm k=>m ||| 1 <<< k) m=m ||| kz l
 | [],m=>(Nat.or_zero m).symm
 | k::l,m=>by
  unfold kz
  rw [List.foldl_cons,List.foldl_cons,oQ l,oQ l (0 ||| 1 <<< k),Nat.zero_or,Nat.or_assoc]
theorem rc (k:Nat) (l:List Nat):kz (k::l)=1 <<< k ||| kz l:=by
 show (k::l).foldl (λm k=>m ||| 1 <<< k) 0=_
 rw [List.foldl_cons,oQ,Nat.zero_or]
theorem lQ (j:Nat):∀ l:List Nat,(kz l).testBit j=decide (j ∈ l)
 | []=>by simp [kz]
 | k::l=>by
  rw [rc,Nat.testBit_or,zX,lQ j l]
  by_cases e:k=j
  ·subst e;simp
  ·rw [decide_eq_false e,Bool.false_or]
   simp [show ¬ j=k from λz=>e z.symm]
end
end L2
namespace L2
open PySem PySem.Spec PyProof.Rows
section
variable {prog:Program}{w:World}{A:Around}{E:Value->Shared->Prop}{s:Shared}{a b r o:Addr}{m m1 m2 d k ep:Nat}{f:Nat->Tok}
end
end L2
namespace L2
open PySem PySem.Spec PyProof.Rows
section
variable {prog:Program}{w:World}{A:Around}{E:Value->Shared->Prop}{s:Shared}{a b r o:Addr}{m m1 m2 d k ep:Nat}{f:Nat->Tok}
end
end L2
namespace L2
open PySem PySem.Spec PyProof.Rows
section
variable {prog:Program}{w:World}{A:Around}{E:Value->Shared->Prop}{s:Shared}{a:Addr}{m d ep:Nat}{f:Nat->Tok}
end
section
variable {K:PySem.W.Frag}{X:Cx}{pos p:Pos}{e a b:Expr}{fe:Ef}{fa fb:Xf}
end
end L2
namespace L2
open PySem PySem.Spec PyProof.Rows
noncomputable def jA (h:Heap) (d:Addr) (es:Array DictEntry) (ep:Nat):Prop:=∃ o,h.get? d=some o/\o.ExactDict/\o.data=.dict es ep
theorem jA.at' {h h':Heap}{d:Addr}{es:Array DictEntry}{ep:Nat} (x:jA h d es ep) (e:∀ o,h.get? d=some o->h'.get? d=some o):jA h' d es ep:=let ⟨o,ho,r⟩:=x;⟨o,e o ho,r⟩
theorem jA.type {s:Shared}{d:Addr}{es:Array DictEntry}{ep:Nat} (x:jA s.heap d es ep):s.TypeIs (.ref d) "dict":=let ⟨o,ho,hc,_⟩:=x;⟨o,ho,hc.1⟩
theorem jA.lt {h:Heap}{d:Addr}{es:Array DictEntry}{ep:Nat} (x:jA h d es ep):d < h.objs.size:=let ⟨o,ho,_⟩:=x;Heap.lt_size ho
section
variable {prog:Program}{w:World}{A:Around}{E:Value->Shared->Prop}{s:Shared}{d it:Addr}{es:Array DictEntry}{i ep:Nat}
theorem vN {Q:Value->Shared->Prop} (hd:(d==sysModules)=false) (hm:jA s.heap d es ep)
  (hQ:Q (.ref s.heap.objs.size) { s with heap:=s.heap.push { cls:=.type "dict_keyiterator",data:=.fields #[.ref d,.int 0 0,.int es.size 0,.int ep 0] } }) :
  wpAny (model prog w) A (pyIter (.ref d)) Q E s:=by
 have hT:=hm.type
 obtain⟨o,ho,hc,hdat⟩:=id hm
 refine wpAny_pyIter_slot hT PySem.F.slot_dict_iter (wpAny_call_entry PySem.F.slot_dict_iter hT PySem.F.entry_dict_iter ?_ (PySem.F.args_dict_iter_1 _))
 unfold Builtin.«dict.__iter__»
 refine wpAny_bind ?_
 unfold Builtin.Dict.dictSlotNone
 refine wpAny_bind (wpAny_notOrdered_dict hT ?_)
 show wpAny _ _ (pure (Value.ref d)) _ _ s
 refine wpAny_pure ?_
 show wpAny _ _ (Builtin.Dict.showsAll d >>= _) _ _ s
 unfold Builtin.Dict.showsAll
 rw [if_neg (by rw [hd];exact Bool.false_ne_true)]
 refine wpAny_bind (wpAny_pure ?_)
 refine wpAny_bind (wpAny_dictEntries ho hdat ?_)
 refine wpAny_bind (wpAny_dictEpoch ho hdat ?_)
 refine wpAny_bind (wpAny_newObj_type (wpAny_pure ⟨_,rfl,"dict_keyiterator",_,⟨_,Heap.get?_push_size _ rfl,rfl⟩,PySem.F.slot_dict_keyiterator_next.lookup,?_⟩))
 simpa [rawInt] using hQ
theorem v4 {Q:Option Value->Shared->Prop} (hit:s.heap.IsKeyIter it d i es.size ep) (hm:jA s.heap d es ep) (hlt':i < es.size)
  (hQ:∀ h',h'.IsKeyIter it d (i+1) es.size ep->Heap.SameBut it s.heap h'->Q (some es[i].key) { s with heap:=h' }) :
  wpAny (model prog w) A (pyNext (.ref it)) Q E s:=by
 obtain⟨o,ho,hc,hd⟩:=id hit
 obtain⟨od,hod,hcd,hdd⟩:=id hm
 unfold pyNext
 refine wpAny_bind (wpAny_attempt (wpAny_callSpecial?_slot (name:=Str.ofString "__next__") hit.typeIs PySem.F.slot_dict_keyiterator_next
  (wpAny_call_entry PySem.F.slot_dict_keyiterator_next hit.typeIs PySem.F.entry_dict_keyiterator_next ?_ (PySem.F.args_dict_keyiterator_next_1 _))))
 refine wpAny_bind (wpAny_pure ?_)
 refine wpAny_bind ?_
 refine wpAny_bind ?_
 first | refine wpAny_bind (wpAny_typeNameOfWhole_keyiter hit.typeIs (wpAny_pure ?_)) | refine wpAny_bind (wpAny_typeNameOf_keyiter hit.typeIs (wpAny_pure ?_))
 refine wpAny_bind (wpAny_fieldsOf ho hd ?_)
 have hown:Builtin.Dict_items.ownsTuple "dict_keyiterator" = false:=by decide
 simp only [hown,Bool.false_eq_true,if_false]
 show wpAny _ _ (if (Value.ref d==Value.none)=true then _ else _) _ _ s
 rw [if_neg (show ¬ ((Value.ref d==Value.none)=true) from Bool.false_ne_true)]
 refine wpAny_bind (wpAny_pure ?_)
 refine wpAny_bind (wpAny_dictEntries hod hdd ?_)
 rw [if_neg (by simp)]
 refine wpAny_bind (wpAny_pure ?_)
 refine wpAny_bind (wpAny_dictEpoch hod hdd ?_)
 rw [if_neg (by simp)]
 refine wpAny_pure ?_
 simp only [show ¬ ((i:Int) < 0) from by lia,if_false,Int.toNat_natCast,Array.getElem?_eq_getElem hlt']
 refine wpAny_bind ?_
 first | refine wpAny_bind (wpAny_typeNameOfWhole_keyiter hit.typeIs (wpAny_pure ?_)) | refine wpAny_bind (wpAny_typeNameOf_keyiter hit.typeIs (wpAny_pure ?_))
 refine wpAny_bind (wpAny_isOneOf_keyiter hit.typeIs ?_)
 show wpAny _ _ (setField (.ref it) 1 (rawInt ((i:Int)+1)) >>= _) _ _ s
 refine wpAny_bind (wpAny_setField ho hd (by simp) ?_)
 have hit':(s.heap.update it (Obj.mapFields (·.setIfInBounds 1 (rawInt ((i:Int)+1))))).IsKeyIter it d (i+1) es.size ep:=
  ⟨_,Heap.get?_update_self _ ho (Obj.isFreed_of_fields (Obj.data_mapFields hd _)),(Obj.cls_mapFields ..).trans hc,by rw [Obj.data_mapFields hd];simp [rawInt]⟩
 refine wpAny_bind (wpAny_holding ?_)
 refine wpAny_bind (wpAny_isOneOf_keyiter (s:={ s with heap:=s.heap.update it (Obj.mapFields (·.setIfInBounds 1 (rawInt ((i:Int)+1)))) }) hit'.typeIs ?_)
 show wpAny _ _ (pure es[i].key) _ _ _
 exact wpAny_pure (wpAny_pure ⟨_,rfl,wpAny_pure (hQ _ hit' (Heap.SameBut.update ..))⟩)
theorem xS {Q:Option Value->Shared->Prop} (hh:A.handled=none) (hit:s.heap.IsKeyIter it d es.size es.size ep) (hm:jA s.heap d es ep)
  (hQ:∀ h',Heap.ExtBut it s.heap h'->Q none { s with heap:=h' }):wpAny (model prog w) A (pyNext (.ref it)) Q E s:=by
 obtain⟨o,ho,hc,hd⟩:=id hit
 obtain⟨od,hod,hcd,hdd⟩:=id hm
 unfold pyNext
 refine wpAny_bind (wpAny_attempt (wpAny_callSpecial?_slot (name:=Str.ofString "__next__") hit.typeIs PySem.F.slot_dict_keyiterator_next
  (wpAny_call_entry PySem.F.slot_dict_keyiterator_next hit.typeIs PySem.F.entry_dict_keyiterator_next ?_ (PySem.F.args_dict_keyiterator_next_1 _))))
 refine wpAny_bind (wpAny_pure ?_)
 refine wpAny_bind ?_
 refine wpAny_bind ?_
 first | refine wpAny_bind (wpAny_typeNameOfWhole_keyiter hit.typeIs (wpAny_pure ?_)) | refine wpAny_bind (wpAny_typeNameOf_keyiter hit.typeIs (wpAny_pure ?_))
 refine wpAny_bind (wpAny_fieldsOf ho hd ?_)
 have hown:Builtin.Dict_items.ownsTuple "dict_keyiterator" = false:=by decide
 simp only [hown,Bool.false_eq_true,if_false]
 show wpAny _ _ (if (Value.ref d==Value.none)=true then _ else _) _ _ s
 rw [if_neg (show ¬ ((Value.ref d==Value.none)=true) from Bool.false_ne_true)]
 refine wpAny_bind (wpAny_pure ?_)
 refine wpAny_bind (wpAny_dictEntries hod hdd ?_)
 rw [if_neg (by simp)]
 refine wpAny_bind (wpAny_pure ?_)
 refine wpAny_bind (wpAny_dictEpoch hod hdd ?_)
 rw [if_neg (by simp)]
 refine wpAny_pure ?_
 have hge:es.size<=es.size:=Nat.le_refl _
 simp only [show ¬ ((es.size:Int) < 0) from by lia,if_false,Int.toNat_natCast,Array.getElem?_eq_none hge]
 refine wpAny_bind ?_
 first | refine wpAny_bind (wpAny_typeNameOfWhole_keyiter hit.typeIs (wpAny_pure ?_)) | refine wpAny_bind (wpAny_typeNameOf_keyiter hit.typeIs (wpAny_pure ?_))
 show wpAny _ _ (setField (.ref it) 0 .none >>= _) _ _ s
 refine wpAny_bind (wpAny_setField ho hd (by simp) ?_)
 show wpAny _ _ (newExc (.type "StopIteration") [] >>= _) _ _ _
 refine wpAny_bind ?_
 simp only [newExc,newTuple]
 refine wpAny_bind (wpAny_newObj_type ?_ (by size_fits))
 refine wpAny_bind (m:=firstArgMember _ _) (wpAny_of_eq (a:=Value.none) (by first | rfl | (simp only [firstArgMember];rfl)) ?_)
 refine wpAny_newObj_type ?_ (by size_fits)
 simp only [raiseNew]
 refine wpAny_bind (wpAny_handled ?_)
 rw [show A.in1.handled=none from hh]
 refine wpAny_bind (wpAny_pure (wpAny_throw ?_))
 refine wpAny_bind (wpAny_isInstance (T:="StopIteration") (b:=true) ⟨_,Heap.get?_push_size _ rfl,rfl⟩ isSubtype_stop ?_)
 exact wpAny_pure (hQ _ (((Heap.SameBut.update ..).extBut.push _).push _))
theorem tQ (hh:A.handled=none) (I d:Addr) (hne:d≠I) (es:Array DictEntry) (ep:Nat) :
  Walks prog w A I [I,d] [I] es.size (λi v=>∃ e,es[i]?=some e/\v=e.key) (λi h=>h.IsKeyIter I d i es.size ep/\jA h d es ep) where
 sub:=λb hb=>by simp at hb;simp [hb]
 frame:=λ_ _ _ st hk=>⟨st.1.at λo e=>hk I (by simp) o e,st.2.at' λo e=>hk d (by simp) o e⟩
 item:=λi s Q E hi st hQ=>by
  refine v4 st.1 st.2 hi λh' hit' hs'=>?_
  exact hQ _ h' s.toks ⟨es[i],by simp [hi],rfl⟩ ⟨hit',st.2.at' λo q=>hs'.extBut d o hne q⟩ λb o hb q=>hs'.extBut b o (λh=>hb (by simp [h])) q
 done:=λs Q E st hQ=>xS hh st.1 st.2 λh' he'=>hQ h' s.toks λb o hb e=>he' b o (λh=>hb (by simp [h])) e
 self:=λ_ _ _ _ st hQ=>wpAny_pyIter_keyiter st.1 hQ
theorem xn (prog:Program) (w:World) (d:Addr) (es:Array DictEntry) (ep:Nat) (lo:(d==sysModules)=false):PySem.W.KdlSrc prog w "dict" d d es.size (λi v=>∃ e,es[i]?=some e/\v=e.key) (λh=>jA h d es ep) where
 type:=λs S=>S.type
 there:=λh S=>⟨S.lt,S.lt⟩
 keep:=λh h' S hk=>S.at' λo e=>hk d (.inl rfl) o e
 notList:=by decide
 notTuple:=by decide
 hint:=λA E s Q S h=>PySem.W.kdl_hint_dict S.type h
 iter:=λA s hh S=>⟨_,_,λE Q h=>vN lo S h,tQ hh s.heap.objs.size d (Nat.ne_of_lt S.lt) es ep,
  ⟨⟨_,Heap.get?_push_size _ rfl,rfl,rfl⟩,S.at' λo e=>Heap.get?_push_of_some _ e⟩⟩
end
end L2
namespace L2
open PySem PySem.Spec PyProof.Rows
section
variable {prog:Program}{w:World}{A:Around}{E:Value->Shared->Prop}{s:Shared}{d:Addr}{es:Array DictEntry}{ep:Nat}
theorem px {Q:List Value->Shared->Prop} (lo:(d==sysModules)=false) (S:jA s.heap d es ep) (hh:A.handled=none) (hn:es.size<=sizeLine)
  (h:∀ h' tk,(∀ b o,s.heap.get? b=some o->h'.get? b=some o)->s.heap.objs.size < h'.objs.size->Q (es.toList.map (·.key)) { s with heap:=h',toks:=tk }) :
  wpAny (model prog w) A (collect (.ref d)) Q E s:=by
 have hlt:d < s.heap.objs.size:=S.lt
 unfold collect
 refine wpAny_bind (wpAny_runValue (codeAny_builtin entry_proto_collect' ?_))
 show wpAny _ _ (do again (.builtin "list.__iadd__" ⟨[<-newList [],.ref d],[]⟩)) _ _ s
 refine wpAny_bind (wpAny_newList (wpAny_pure ⟨Code.quiet_builtin _ (by decide +kernel),codeAny_builtin entry_list_iadd' ?_⟩))
 show wpAny _ _ (Builtin.List.listExtendWith (.ref s.heap.objs.size) (.ref d) (.ref s.heap.objs.size)) _ _ { s with heap:=s.heap.push (seqObj "list" #[] 0) }
 refine PySem.W.kdl_extend (A:=A) (R:=λr s'=>match r with
   | .ok (.ret v)=>wpAny (model prog w) A (match v with
     | .ref a=>do
      let o <-load a
      match o.data with
      | .seq xs _=>pure xs.toList
      | _=>unsupported "internal:collect"
     | _=>unsupported "internal:collect") Q E s'
   | .ok _=>False
   | .error e=>E e s') (s:={ s with heap:=s.heap.push (seqObj "list" #[] 0) }) (xn prog w d es ep lo) hh (S.at' λo e=>Heap.get?_push_of_some _ e) s.heap.objs.size (Nat.ne_of_gt hlt) (Nat.ne_of_gt hlt) (.ref s.heap.objs.size) 0 (Heap.get?_push_size _ rfl) (λh' tk acc c hk hS hI=>?_) hn
 show wpAny (model prog w) A (do
   let o <-load s.heap.objs.size
   match o.data with
   | .seq xs _=>pure xs.toList
   | _=>unsupported "internal:collect") Q E { s with heap:=h',toks:=tk }
 refine wpAny_bind (wpAny_load hS ?_)
 show wpAny _ _ (pure acc.toList) Q E _
 have e:acc.toList=es.toList.map (·.key):=by
  apply List.ext_getElem?
  intro i
  rw [List.getElem?_map,Array.getElem?_toList,Array.getElem?_toList]
  by_cases hi:i < acc.size
  ·obtain⟨e,he,hv⟩:=hI.2 i acc[i] (Array.getElem?_eq_getElem hi)
   rw [he,Array.getElem?_eq_getElem hi,hv];rfl
  ·rw [Array.getElem?_eq_none (by lia),Array.getElem?_eq_none (by rw [<-hI.1];lia)];rfl
 rw [e]
 refine wpAny_pure (h h' tk (λb o q=>?_) (Heap.lt_size hS))
 exact hk b o (Nat.ne_of_lt (Heap.lt_size q)) (Heap.get?_push_of_some _ q)
theorem rW {Q:Value->Shared->Prop}{vs:List Value} (lo:(d==sysModules)=false) (S:jA s.heap d es ep) (hh:A.in1.handled=none) (hvs:es.toList.map (·.key)=vs) (h64:vs.length<=64) (hu:A.in1.in1.units < cLine)
  (t:∀ v ∈ vs,∃ l,TuI s.heap v l)
  (h:∀ (h':Heap) (tk:Nat) (p:Addr) (ep:Nat) (out:List Value),(∀ b o,s.heap.get? b=some o->h'.get? b=some o)->s.heap.objs.size<=p->h'.get? p=some (seqObj "list" out.toArray ep)->out.Perm vs->out.Pairwise (λx y=>OI.kle (tuI s.heap x) (tuI s.heap y))->Q (.ref p) { s with heap:=h',toks:=tk }) :
  wpAny (model prog w) A (call (.builtin "sorted") [.ref d]) Q E s:=by
 refine Calls.call_function_entry kind_sorted plain_sorted entry_sorted (args_sorted1 _) ?_
 unfold Builtin.«sorted»
 refine wpAny_bind (m:=checkCount "sorted" 1 1 _) (wpAny_pure ?_)
 have hsz:es.size<=sizeLine:=by
  have:=congrArg List.length hvs
  rw [List.length_map,Array.length_toList] at this
  rw [sizeLine_eq];lia
 refine wpAny_bind (px lo S hh hsz λh1 tk hk hlt=>?_)
 rw [hvs]
 refine wpAny_bind (wpAny_newList ?_ (by rw [sizeLine_eq];lia))
 have hoL:(h1.push (seqObj "list" vs.toArray 0)).get? h1.objs.size=some (seqObj "list" vs.toArray 0):=Heap.get?_push_size _ rfl
 show wpAny _ _ _ _ _ { s with heap:=h1.push (seqObj "list" vs.toArray 0),toks:=tk }
 refine wpAny_bind (wpAny_holding (wpAny_call_entry slot_list_sort ⟨_,hoL,rfl⟩ entry_list_sort (nt (O:=OI) (rk:=λp=>tuI s.heap p.1) (S:=λp=>∃ l,TuI s.heap p.1 l) (s:={ s with heap:=h1.push (seqObj "list" vs.toArray 0),toks:=tk }) hoL h64 (λh' hk'=>?_) (λv hv=>t v hv) λout a1 a2=>⟨_,rfl,?_⟩) (args_list_sort _)))
 ·have hk2:∀ b o,s.heap.get? b=some o->h'.get? b=some o:=λb o q=>hk' b o (Nat.ne_of_lt (Heap.lt_size (hk b o q))) (Heap.get?_push_of_some _ (hk b o q))
  obtain⟨κ,k1,k2⟩:=qB (prog:=prog) (w:=w) (s:={ s with heap:=h',toks:=tk }) (vs:=vs) (λv hv=>let ⟨l,tl⟩:=t v hv;⟨l,tl.fit hk2⟩) hu
  refine⟨κ,k1,λx y ⟨l,hx⟩ ⟨m,hy⟩ Q E hq=>k2 x y ⟨l,hx.fit hk2⟩ ⟨m,hy.fit hk2⟩ Q E ?_⟩
  have hx':=hx.fit hk2
  have hy':=hy.fit hk2
  have hq':Q (b9 (tuI s.heap x.1) (tuI s.heap y.1)) { s with heap:=h',toks:=tk }:=hq
  show Q (b9 (tuI h' x.1) (tuI h' y.1)) { s with heap:=h',toks:=tk }
  rw [hx'.is,hy'.is]
  rw [hx.is,hy.is] at hq'
  exact hq'
 ·refine wpAny_pure ⟨_,rfl,?_⟩
  obtain⟨ep',he⟩:=sortedHeap_at (out:=out.toArray) hoL
  refine h _ tk h1.objs.size ep' out (λb o q=>?_) (Nat.le_of_lt hlt) he a1 (a2.imp λ{x y} q=>q)
  have q1:=hk b o q
  have hb:b < h1.objs.size:=Heap.lt_size q1
  show (sortedHeap (h1.push (seqObj "list" vs.toArray 0)) h1.objs.size vs out.toArray).get? b=some o
  rw [sortedHeap_old (Nat.ne_of_lt hb) (by rw [size_push'];exact Nat.lt_succ_of_lt hb),Heap.get?_push_ne _ _ _ (Nat.ne_of_lt hb)]
  exact q1
end
noncomputable def mgt (st:Sto) (n:Nat):Option (List (List Int×D)):=match st[n]? with
 | some (.m kvs)=>some kvs
 | _=>none
noncomputable def vM (kvs:List (List Int×D)) (k:List Int):Option D:=(kvs.find? λp=>decide (p.1=k)).map (·.2)
noncomputable def gq (kvs:List (List Int×D)) (k:List Int) (d:D):List (List Int×D):=if (kvs.any λp=>decide (p.1=k))=true then kvs.map λp=>if p.1=k then (p.1,d) else p else kvs++[(k,d)]
noncomputable def uI:Ef
 | _,st=>some (.h st.length,st++[.m []])
noncomputable def kh (o k v:Ef):Ef
 | env,st=>(o env st).bind λx=>(k env x.2).bind λy=>(v env y.2).bind λz=>match x.1,y.1,z.1 with
 | .h n,.d (.tup ds),.d d=>(mgt x.2 n).bind λ_=>(mgt z.2 n).bind λkvs=>(aQ ds).map λl=>(.d ((vM kvs l).getD d),z.2)
 | _,_,_=>none
noncomputable def tN (o k:Ef):Ef
 | env,st=>(o env st).bind λx=>(k env x.2).bind λy=>match x.1,y.1 with
 | .h n,.d (.tup ds)=>(mgt y.2 n).bind λkvs=>(aQ ds).bind λl=>(vM kvs l).map λd=>(.d d,y.2)
 | _,_=>none
noncomputable def nO (o k v:Ef):Sf
 | env,st=>(v env st).bind λz=>(o env z.2).bind λx=>(k env x.2).bind λy=>match x.1,y.1,z.1 with
 | .h n,.d (.tup ds),.d d=>(mgt y.2 n).bind λkvs=>(aQ ds).bind λl=>if kvs.length < 1000 then some (.nx env (y.2.set n (.m (gq kvs l d)))) else none
 | _,_,_=>none
noncomputable def jG (a:Ef):Lf
 | env,st=>(a env st).bind λx=>match x.1 with
 | .h n=>(mgt x.2 n).bind λkvs=>if kvs.length<=64 then some ((bv (kvs.map (·.1))).map ai,x.2) else none
 | _=>none
section
variable {K:PySem.W.Frag}{X:Cx}{pos:Pos}{e a b o f:Expr}{fe fa fb fo ff:Ef}
theorem v6 {st:Sto}{n:Nat}{kvs:List (List Int×D)} (h:mgt st n=some kvs):st[n]?=some (.m kvs):=by
 unfold mgt at h
 split at h
 ·rename_i q;cases h;exact q
 ·cases h
theorem Sr.atm {H:Hp}{φ:List Addr}{st:Sto} (S:Sr K H φ st) {n:Nat}{p:Addr}{kvs:List (List Int×D)} (e1:φ[n]?=some p) (e2:mgt st n=some kvs):∃ vs,H p=some (.dT vs)/\Rkv K H φ kvs vs:=S.at_ n p _ e1 (v6 e2)
theorem Rkv.length {H:Hp}{φ:List Addr}:∀ {ds:List (List Int×D)}{vs:List (List Key×V)},Rkv K H φ ds vs->ds.length=vs.length
 | [],_,h=>by cases h;rfl
 | (k,d)::ds,_,h=>by
  obtain⟨v,r,rfl,h1,h2⟩:=h
  rw [List.length_cons,List.length_cons,Rkv.length h2]
theorem jh:∀ {a b:List Int},eY a=eY b->a=b
 | [],[],_=>rfl
 | [],_::_,h=>by cases h
 | _::_,[],h=>by cases h
 | x::a,y::b,h=>by
  have h':(Sum.inl x:Key)::eY a=Sum.inl y::eY b:=h
  injection h' with h1 h2
  injection h1 with h1
  rw [h1,jh h2]
theorem sD (l:List Int):(eY l).map kV=l.map V.int:=by
 unfold eY
 rw [List.map_map];rfl
theorem Rkv.val {H:Hp}{φ:List Addr}{i:List Int}:∀ {ds:List (List Int×D)}{vs:List (List Key×V)},Rkv K H φ ds vs->(∀ d,vM ds i=some d->∃ v,gP vs (eY i)=some v/\Rl K H φ d v)/\(vM ds i=none->gP vs (eY i)=none)
 | [],_,h=>by cases h;exact⟨(λd e=>nomatch e),λ_=>rfl⟩
 | (k,d)::ds,_,h=>by
  obtain⟨v,r,rfl,h1,h2⟩:=h
  have ih:=Rkv.val (i:=i) h2
  by_cases e:k=i
  ·subst e
   have e1:vM ((k,d)::ds) k=some d:=by unfold vM;rw [List.find?_cons_of_pos (by simp)];rfl
   have e2:gP ((eY k,v)::r) (eY k)=some v:=by unfold gP;rw [List.find?_cons_of_pos (by simp)];rfl
   rw [e1,e2]
   exact⟨λd' q=>⟨v,rfl,by cases q;exact h1⟩,λq=>nomatch q⟩
  ·have e1:vM ((k,d)::ds) i=vM ds i:=by unfold vM;rw [List.find?_cons_of_neg (by simpa using e)]
   have e2:gP ((eY k,v)::r) (eY i)=gP r (eY i):=by unfold gP;rw [List.find?_cons_of_neg (by simpa using λz=>e (jh z))]
   rw [e1,e2]
   exact ih
theorem Rkv.any {H:Hp}{φ:List Addr}{i:List Int}:∀ {ds:List (List Int×D)}{vs:List (List Key×V)},Rkv K H φ ds vs->(vs.any λp=>decide (p.1=eY i))=ds.any λp=>decide (p.1=i)
 | [],_,h=>by cases h;rfl
 | (k,d)::ds,_,h=>by
  obtain⟨v,r,rfl,h1,h2⟩:=h
  rw [List.any_cons,List.any_cons,Rkv.any h2]
  congr 1
  exact decide_eq_decide.mpr ⟨λz=>jh z,λz=>congrArg eY z⟩
theorem Rkv.repl {H:Hp}{φ:List Addr}{i:List Int}{x:D}{y:V} (hx:Rl K H φ x y):∀ {ds:List (List Int×D)}{vs:List (List Key×V)},Rkv K H φ ds vs->Rkv K H φ (ds.map λp=>if p.1=i then (p.1,x) else p) (vs.map λp=>if p.1=eY i then (p.1,y) else p)
 | [],_,h=>by cases h;exact rfl
 | (k,d)::ds,_,h=>by
  obtain⟨v,r,rfl,h1,h2⟩:=h
  rw [List.map_cons,List.map_cons]
  by_cases e:k=i
  ·rw [if_pos e,if_pos (by rw [e])]
   exact⟨y,_,rfl,hx,Rkv.repl hx h2⟩
  ·rw [if_neg e,if_neg (λz=>e (jh z))]
   exact⟨v,_,rfl,h1,Rkv.repl hx h2⟩
theorem Rkv.snoc {H:Hp}{φ:List Addr}:∀ {ds:List (List Int×D)}{vs:List (List Key×V)}{k:List Int}{d:D}{v:V},Rkv K H φ ds vs->Rl K H φ d v->Rkv K H φ (ds++[(k,d)]) (vs++[(eY k,v)])
 | [],_,_,_,_,h,hd=>by cases h;exact⟨_,[],rfl,hd,rfl⟩
 | (k,d)::ds,_,_,_,_,h,hd=>by
  obtain⟨v,r,rfl,h1,h2⟩:=h
  exact⟨v,_,rfl,h1,Rkv.snoc h2 hd⟩
theorem Rkv.put {H:Hp}{φ:List Addr}{ds:List (List Int×D)}{vs:List (List Key×V)}{k:List Int}{d:D}{v:V} (h:Rkv K H φ ds vs) (hd:Rl K H φ d v):Rkv K H φ (gq ds k d) (fA vs (eY k) v):=by
 unfold gq fA
 rw [h.any]
 split
 ·exact h.repl hd
 ·exact h.snoc hd
theorem kQ {H:Hp}{φ:List Addr}{ds:List D}{l:List Int}{v:V} (hl:aQ ds=some l) (r:Rl K H φ (.tup ds) v):∃ p,v=.ref p/\H p=some (.tup ((eY l).map kV)):=by
 obtain⟨p,vs,rfl,h1,h2⟩:=r
 cases cE hl
 cases h2.ints
 rw [sD]
 exact⟨p,rfl,h1⟩
theorem tq:IE K X (.Dict [] [] pos) uI:=by
 refine⟨λenv st r hr=>?_⟩
 cases hr
 refine wB.imp ?_
 rintro σ H Q ⟨φ,hE,hS,q⟩
 exact λp hp=>q _ _ (φ++[p]) (Fw.moreO hp) (hS.moreC hp ⟨[],aX,rfl⟩) ⟨p,by rw [<-hS.len];simp,rfl⟩
theorem sw {k:Nat}{apos:Pos} (hr0:bo k X.A) (ho:IE K X o fo) (he:IE K X e fe) (hf:IE K X f ff) (m:M2 X o "get" apos e f pos):IE K X (.Call (.Attribute o "get" apos) [e,f] [] pos) (kh fo fe ff):=by
 refine⟨λenv st r hr=>?_⟩
 simp only [kh,Option.bind_eq_some_iff] at hr
 obtain⟨⟨x,s1⟩,hx,⟨y,s2⟩,hy,⟨z,s3⟩,hz,hr⟩:=hr
 dsimp only at hr
 split at hr
 next n ds d=>
  simp only [Option.bind_eq_some_iff,Option.map_eq_some_iff] at hr
  obtain⟨kv1,hk1,kvs,hk,l,hl,rfl⟩:=hr
  refine (vt (uP hr0) (ho.run _ _ _ hx) (he.run _ _ _ hy) (hf.run _ _ _ hz) m).imp ?_
  rintro σ H Q ⟨φ,hE,hS,q⟩
  refine⟨φ,hE,hS,λv H1 φ1 f1 S1 w1=>?_⟩
  obtain⟨p,ep,rfl⟩:=id w1
  obtain⟨vs1,hv1,_⟩:=S1.atm ep hk1
  refine⟨p,rfl,.inr ⟨vs1,.inl hv1⟩,φ1,hE.fw hS f1,S1,λu H2 φ2 f2 S2 w2=>⟨φ2,(hE.fw hS f1).fw S1 f2,S2,λz' H3 φ3 f3 S3 w3=>?_⟩⟩
  have ep3:=f3.get (f2.get ep)
  obtain⟨vs,hv,rl⟩:=S3.atm ep3 hk
  obtain⟨b,rfl,hb⟩:=kQ hl (Rl.fw S2 f3 w2)
  refine⟨_,ow.t hv hb,?_⟩
  cases hc:vM kvs l with
  | none=>
   rw [rl.val.2 hc]
   exact q _ H3 φ3 ((f1.trans f2).trans f3) S3 (by rw [hc];exact w3)
  | some d'=>
   obtain⟨v2,e2,r2⟩:=rl.val.1 d' hc
   rw [e2]
   exact q _ H3 φ3 ((f1.trans f2).trans f3) S3 (by rw [hc];exact r2)
 ·cases hr
theorem uK {k:Nat} (hr0:bo k X.A) (ha:IE K X a fa) (hb:IE K X b fb) (hs:Az b):IE K X (.Subscript a b pos) (tN fa fb):=by
 refine⟨λenv st r hr=>?_⟩
 simp only [tN,Option.bind_eq_some_iff] at hr
 obtain⟨⟨x,s1⟩,hx,⟨y,s2⟩,hy,hr⟩:=hr
 dsimp only at hr
 split at hr
 next n ds=>
  simp only [Option.bind_eq_some_iff,Option.map_eq_some_iff] at hr
  obtain⟨kvs,hk,l,hl,d,hd,rfl⟩:=hr
  refine (yu (uP hr0) (ha.run _ _ _ hx) (hb.run _ _ _ hy) hs).imp ?_
  rintro σ H Q ⟨φ,hE,hS,q⟩
  refine⟨φ,hE,hS,λv H1 φ1 f1 S1 w1=>⟨φ1,hE.fw hS f1,S1,λu H2 φ2 f2 S2 w2=>?_⟩⟩
  obtain⟨p,ep,rfl⟩:=w1.fw S1 f2
  obtain⟨vs,hv,rl⟩:=S2.atm ep hk
  obtain⟨v2,e2,r2⟩:=rl.val.1 d hd
  obtain⟨b',rfl,hb'⟩:=kQ hl w2
  refine⟨p,v2,rfl,?_,q _ H2 φ2 (f1.trans f2) S2 r2⟩
  rw [<-e2]
  exact ow.t hv hb'
 ·cases hr
theorem sT {k:Nat}{tpos:Pos} (hr0:bo k X.A) (ho:IE K X a fa) (hi:IE K X b fb) (hv:IE K X e fe) (hs:swapsWith e (some (.Subscript a b tpos)) pos.line X.env=pure false:=by rfl) :
  IS K X (.Assign [.Subscript a b tpos] e pos) (nO fa fb fe):=by
 refine⟨λenv st r hr=>?_⟩
 simp only [nO,Option.bind_eq_some_iff] at hr
 obtain⟨⟨z,s1⟩,hz,⟨x,s2⟩,hx,⟨y,s3⟩,hy,hr⟩:=hr
 dsimp only at hr
 split at hr
 next n ds d=>
  simp only [Option.bind_eq_some_iff] at hr
  obtain⟨kvs,hk,l,hl,hr⟩:=hr
  split at hr
  ·rename_i hlen
   cases hr
   refine (xQ (uP hr0) (ho.run _ _ _ hx) (hi.run _ _ _ hy) (hv.run _ _ _ hz) hs).imp ?_
   rintro D σ H ⟨φ,hE,hS,q⟩
   refine⟨φ,hE,hS,λv H1 φ1 f1 S1 w1=>⟨φ1,hE.fw hS f1,S1,λu H2 φ2 f2 S2 w2=>⟨φ2,(hE.fw hS f1).fw S1 f2,S2,λt H3 φ3 f3 S3 w3=>?_⟩⟩⟩
   obtain⟨p,ep,rfl⟩:=w2.fw S2 f3
   obtain⟨vs,hp,rl⟩:=S3.atm ep hk
   obtain⟨b',rfl,hb'⟩:=kQ hl w3
   have w1':=Rl.fw S2 f3 (Rl.fw S1 f2 w1)
   obtain⟨f4,S4⟩:=S3.putC (o:=.dT (fA vs (eY l) v)) (c:=.m (gq kvs l d)) ep λf=>⟨_,aX,(rl.put w1').fw S3 f⟩
   refine⟨p,_,rfl,ww.t hp hb' (by rw [<-rl.length];exact Nat.lt_of_lt_of_le hlen (by rw [sizeLine_eq];decide)),?_⟩
   exact q _ _ φ3 (((f1.trans f2).trans f3).trans f4) (((((hE.fw hS f1).fw S1 f2).fw S2 f3)).fw S3 f4) S4
  ·cases hr
 ·cases hr
theorem tz {H:Hp}{φ:List Addr}:∀ {kvs:List (List Int×D)}{vs:List (List Key×V)}{xs:List (List Key×Addr×Value)},Rkv K H φ kvs vs->KT H vs xs->
  Rls K H φ ((kvs.map (·.1)).map ai) (xs.map λx=>V.ref x.2.1)/\aT (xs.map λx=>V.ref x.2.1) (xs.map λx=>Value.ref x.2.1)
 | [],_,_,h,t=>by cases h;cases t;exact⟨rfl,.nil⟩
 | (k,d)::kvs,_,_,h,t=>by
  obtain⟨v,r,rfl,h1,h2⟩:=h
  cases t with
  | cons q t=>
   rename_i x xs
   obtain⟨i1,i2⟩:=tz h2 t
   have e:H x.2.1=some (.tup (k.map V.int)):=by rw [<-sD];exact q.2.1
   exact⟨⟨_,_,rfl,⟨x.2.1,k.map V.int,rfl,e,Rls.of_ints k⟩,i1⟩,.cons rfl i2⟩
theorem wf {k:Nat}{p:Pos} (hr0:bo k X.A) (hg:Gl X "sorted") (hm:X.mg "sorted" = none) (ha:IE K X a fa) (hc:X.calm=true:=by rfl) (hs:aR a=true:=by rfl) (hK:X.K=K:=by rfl):IL K X (.Call (.Name "sorted" p) [a] [] pos) (jG fa):=by
 subst hK
 refine⟨λenv st r hr=>?_⟩
 simp only [jG,Option.bind_eq_some_iff] at hr
 obtain⟨⟨x,s1⟩,hx,hr⟩:=hr
 match x,hr with
 | .h n,hr=>
  simp only [Option.bind_eq_some_iff] at hr
  obtain⟨kvs,hk,hr⟩:=hr
  split at hr
  ·rename_i hl
   cases hr
   have hA:=(aa (K:=X.K) (X:=X) ha ag hs).run env st ([.h n],s1) (by simp only [ae,aj,hx,Option.bind_some,Option.map_some])
   have hC:dk X (.builtin "sorted") (λxs H Q=>∃ φ q,Sr X.K H φ s1/\φ[n]?=some q/\xs=[.ref q]/\∀ l us,H l=none->Rls X.K H φ ((bv (kvs.map (·.1))).map ai) us->Q (.ref l) (upd H l (.lst us))):=by
    intro pins s σ H xs us Q I rv q
    obtain⟨φ,ad,S,ead,rfl,q⟩:=q
    obtain⟨u,rfl,ru⟩:=ij rv
    cases ru
    obtain⟨vs,hv,rl⟩:=S.atm ead hk
    obtain⟨z',hd,xs,rel,o,es,ep,g1,g2,g3,g4,g5,g6⟩:=uL I.hok hv
    obtain⟨b1,b2⟩:=tz rl rel
    have hlen:xs.length<=64:=by
     have e1:=rel.length
     have e2:=rl.length
     lia
    have hkeys:es.toList.map (·.key)=xs.map λx=>Value.ref x.2.1:=by rw [g4,List.map_map];rfl
    obtain⟨m1,m2⟩:=mw I b1 b2
    have hun:X.A.in1.in1.units < cLine:=by
     have:=hr0.un
     show X.A.units+1+1 < cLine
     lia
    refine rW hd ⟨o,g1,g2,g3⟩ (I.ok.hd hc) hkeys (by rw [List.length_map];exact hlen) hun (λv hv=>⟨_,(m2 v hv).1⟩) λh' tk p ep' out hkeep hp he a1 a2=>?_
    have hn:H p=none:=I.hok.fresh hp
    have ho:=λu hu=>m2 u (a1.mem_iff.mp hu)
    obtain⟨c1,c2⟩:=lD (K:=X.K) (H:=H) (φ:=φ) ho
    have hpm:(out.map (tuI s.heap)).Perm (kvs.map (·.1)):=by
     have:=a1.map (tuI s.heap)
     rw [m1] at this;exact this
    have hsrt:(out.map (tuI s.heap)).Pairwise leL:=by
     rw [List.pairwise_map]
     exact a2.imp λ{x y} q=>q
    have e:out.map (tuI s.heap)=bv (kvs.map (·.1)):=gw (hpm.trans (bf _).symm) hsrt (cO _)
    have e2:(out.map λu=>ai (tuI s.heap u))=(bv (kvs.map (·.1))).map ai:=by rw [<-e,List.map_map];rfl
    rw [e2] at c1
    have hlay:Inv X pins σ (upd H p (.lst (out.map toV))) { s with heap:=h',toks:=tk }:=by
     refine I.laid (t':=tk) (a:=p) (o:=.lst (out.map toV)) hkeep hp ⟨?_,out,ep',c2,by simpa [seqObj] using he⟩
     rw [List.length_map,a1.length_eq,List.length_map];exact kX (by lia)
    exact⟨.ref p,_,hlay,rfl,q p _ hn c1⟩
   refine (lM hC hg hm PyProof.Rows.boot_sorted hA (by decide) (by decide) (ce hs) (dF (es:=[]) rfl)).imp ?_
   rintro σ H Q ⟨φ,hE,hS,q⟩
   refine⟨φ,hE,hS,λvs H1 φ1 f1 S1 w1=>?_⟩
   obtain⟨v,r,rfl,⟨ad,ead,rfl⟩,rfl⟩:=w1
   exact⟨φ1,ad,S1,ead,rfl,λl us hl' hr'=>q l _ H1 φ1 f1 S1 hl' hr'⟩
  ·cases hr
noncomputable def uQ (st:Sto):W->W->Option D
 | .d (.tup a),.d (.tup b)=>(aQ a).bind λns=>(aQ b).map λms=>.bl (b9 ns ms)
 | x,y=>dLt st x y
theorem qJ:∀ (a b:List Int),HT.lexLt a b=b9 a b
 | [],[]=>rfl
 | [],_::_=>rfl
 | _::_,[]=>rfl
 | x::a,y::b=>by rw [HT.lexLt_cons,b9,qJ a b]
theorem zT {k:Nat} (hr:bo k X.A) (hK:X.K=K:=by rfl):OpD K X (compareOp .Lt) uQ:=by
 subst hK
 refine⟨λst x y d h=>?_⟩
 by_cases ht:∃ a b,x=.d (.tup a)/\y=.d (.tup b)
 ·obtain⟨a,b,rfl,rfl⟩:=ht
  simp only [uQ,Option.bind_eq_some_iff,Option.map_eq_some_iff] at h
  obtain⟨ns,h1,ms,h2,rfl⟩:=h
  have hu:X.A.units < cLine:=by have:=hr.un;lia
  refine (Ag hu).imp ?_
  rintro vx vy H Q ⟨φ,S,⟨p,vs,rfl,g1,g2⟩,⟨p2,vs2,rfl,g3,g4⟩,q⟩
  cases cE h1
  cases cE h2
  cases g2.ints
  cases g4.ints
  refine⟨p,p2,ns,ms,rfl,rfl,SqT.of g1,SqT.of g3,?_⟩
  rw [qJ]
  exact q _ H (bK.refl H) rfl
 ·have e:uQ st x y=dLt st x y:=by
   unfold uQ
   split
   ·rename_i a b
    exact absurd ⟨a,b,rfl,rfl⟩ ht
   ·rfl
  rw [e] at h
  exact nu.run st x y d h
end
end L2
namespace L2
open PySem PySem.SeqAt MeetsSeq MeetsSeq2 MeetsSeq3
open AutoSeq1 (wpAny_loadPart')
end L2
namespace L2
open PySem PySem.Spec PyProof.Rows
section
variable {K:PySem.W.Frag}{X:Cx}{pos:Pos}{a e:Expr}{fa:Ef}{af:Af}
end
end L2
namespace L2
open PySem PySem.Spec PyProof.Rows
section
variable {K:PySem.W.Frag}{X:Cx}{pos:Pos}{a e:Expr}{fa:Ef}{af:Af}
end
end L2
namespace L2
open PySem PySem.Spec PyProof.Rows
open AutoSeq1 (wpAny_loadPart')
section
variable {K:PySem.W.Frag}{X:Cx}{pos:Pos}{a e:Expr}{es:List Expr}{fa:Ef}{af:Af}
end
end L2
namespace L2
open PySem PySem.Spec PyProof.Rows
open AutoSeq1 (wpAny_loadPart')
theorem n8 (l:Addr) (items:Array Value) (n:Nat) (b:Addr) (items2:Array Value) (n2:Nat) (dd:Option Addr) (sl:Array (Option Value)) (hs0:¬(!items.isEmpty && Builtin.List.listTooLong (items.size+items2.size))=true) (hs1:items.size<=sizeLine) (hs2:items.size+items2.size<=sizeLine+1) :
  Meets (Builtin.«list.extend» ⟨[.ref l,.ref b],[]⟩) (λ_ R s=>s.heap.get? l=some { cls:=.type "list",dict:=none,data:=.seq items n,slots:=#[] }/\s.heap.get? b=some { cls:=.type "list",dict:=dd,data:=.seq items2 n2,slots:=sl }/\R (.ok (.ret Value.none)) { s with heap:=s.heap.update l (Obj.mapSeq λx=>x++items2),toks:=s.toks }):=
 .of_wp λprog w A R s h=>by
  obtain⟨hp,g,d,tk,os⟩:=s;obtain⟨hl,hb,h⟩:=h;have f1:=AutoSeq1.idx_int;have f2:=AutoSeq1.sub_tuple_tuple;have f3:=AutoSeq1.sub_list_list;have f4:=AutoSeq1.sub_tuple_list;have f5:=AutoSeq1.sub_list_tuple
  have hz':(items++items2).size<=sizeLine+1:=by rw [Array.size_append];exact hs2
  wp_walk using (wpAny_updateSeq hl rfl (hz:=hs1) (_hz':=hz')),wpAny_loadPart' hl,wpAny_loadPart' hb
  exact⟨_,rfl,h⟩
section
variable {K:PySem.W.Frag}{X:Cx}{pos:Pos}{a e:Expr}{es:List Expr}{fa:Ef}{af:Af}
noncomputable def AL (X:Cx):V->List V->Hp->VK->Prop:=λx vs H Q=>∃ l b xs zs,x=.ref l/\vs=[.ref b]/\H l=some (.lst xs)/\Rd H b (.lst zs)/\b≠l/\xs.length+zs.length<=sizeLine/\Q .non (upd H l (.lst (xs++zs)))
theorem yj:MtR X "list.extend" (AL X):=by
 intro pins s σ H x vs v us Q I rx rv h
 obtain⟨l,b,xs,zs,rfl,rfl,hH,hB,hne,hz,q⟩:=h
 cases rx
 obtain⟨u,rfl,ru⟩:=rv.one
 cases ru
 obtain⟨z,its,n,r,hl,e⟩:=I.lstM hH
 obtain⟨its2,r2,⟨⟨c,dd,dt,sl⟩,n2,e2,hc,hdd,hd⟩,hz2⟩:=I.list (.inl hB)
 replace hc:c=.type "list":=hc
 replace hd:dt=.seq its2.toArray n2:=hd
 subst hc hd
 have hl2:=r2.length
 have hsz:its.toArray.size+its2.toArray.size<=sizeLine:=by rw [List.size_toArray,List.size_toArray];lia
 have hlong:¬ (!its.toArray.isEmpty && Builtin.List.listTooLong (its.toArray.size+its2.toArray.size))=true:=by
  rw [qr hsz,Bool.and_false]
  exact Bool.false_ne_true
 refine call_meets F.slot_list_extend ⟨_,e,rfl⟩ F.entry_list_extend (F.args_list_extend_2 _ _)
  (n8 l its.toArray n b its2.toArray n2 dd sl hlong (by rw [List.size_toArray];lia) (by lia)) ⟨e,e2,?_⟩
 refine⟨.non,_,I.lset (its':=its++its2) hH e (by simp) (r.append r2) ?_,rfl,q⟩
 rw [List.length_append]
 lia
noncomputable def lA (ds:List D):List W->Option (D×List D)
 | [.d (.lst xs)]=>if ds.length+xs.length<=1000000 then some (.non,ds++xs) else none
 | _=>none
theorem sn {apos:Pos} (ho:IE K X a fa) (ha:IA K X (e::es) af) (hbase:attributeBase a "extend" X.env (eval a X.env)=eval a X.env:=by rfl)
  (hall:(e::es).all aR=true:=by rfl) (hfl30:(e::es).length < 30:=by decide) (hline:(apos.endLine==pos.line)=true:=by rfl) (hK:X.K=K:=by rfl) :
  IE K X (.Call (.Attribute a "extend" apos) (e::es) [] pos) (mE lA fa af):=by
 subst hK
 refine Au PySem.F.slot_list_extend PySem.F.type_list_extend yj (λH φ st n ad ds vs ws us y Q S ea eds hv rl rw hy q=>?_) (λds ws y h=>?_) ho ha hbase hall hfl30 hline rfl
 ·match ws,hy with
  | [.d (.lst xs)],hy=>
   simp only [lA] at hy
   split at hy
   ·rename_i hl
    cases hy
    obtain⟨v,r,rfl,⟨b,zs,rfl,hnb,hq,hz⟩,rfl⟩:=rw
    exact⟨ad,b,vs,zs,rfl,rfl,hv,hq,(λe=>hnb (by rw [e];exact List.mem_of_getElem? ea)),by rw [<-rl.length,<-hz.length];exact Nat.le_trans hl mil,q _ _ rfl (rl.append hz) (λb z=>nomatch z)⟩
   ·cases hy
 ·match ws,h with
  | [.d (.lst xs)],h=>
   simp only [lA] at h
   split at h
   ·cases h;rfl
   ·cases h
end
end L2
namespace L2
open PySem PySem.Spec PyProof.Rows
open Classical in
noncomputable def lcH (n:Nat) (all:List D) (g:Tg) (tt:Tf) (te:Ef) (env:Ev):List D->Sto->Option (List D×Sto)
 | [],st=>if lg st n=some all then some ([],st) else none
 | d::ds,st=>if lg st n=some all then ((gg g (.d d) env).bind λe=>(tt e st).bind λb=>if b.1=true then (te e b.2).bind λx=>(oX [x.1]).bind λys=>(lcH n all g tt te env ds x.2).map λr=>(ys++r.1,r.2)
   else lcH n all g tt te env ds b.2) else none
section
variable {K:PySem.W.Frag}{X:Cx}{pos:Pos}{tg:Expr}
noncomputable def YlH (K:PySem.W.Frag) (φ0:List Addr) (H0:Hp) (J:It) (n:Nat) (ds:List D):Prop:=∀ (H:Hp) (φ:List Addr) (st:Sto) (i:Nat),Fw φ0 φ H0 H->Sr K H φ st->lg st n=some ds->
 (∀ d,ds[i]?=some d->J.go i H/\∀ x H',J.yld i H x H'->bK H H'/\Rl K H' φ d x)/\(ds.length=i->J.stop i H)
noncomputable def B8 (K:PySem.W.Frag) (env:Ev) (st:Sto) (n:Nat) (ds:List D) (s1:Sto):TI:=λσ H R=>∃ φ,Er K H φ env σ/\Sr K H φ st/\∀ J H' φ',Fw φ φ' H H'->Sr K H' φ' s1->YlH K φ' H' J n ds->R J H'
theorem wU {e:Expr}{f:Ef}{env:Ev}{st s1:Sto}{n:Nat}{ds:List D} (h:IE K X e f) (hK:X.K=K) (hf:f env st=some (.h n,s1)) (hn:lg s1 n=some ds):PI X tg e (B8 K env st n ds s1):=by
 subst hK
 refine (su (h.run _ _ _ hf)).imp ?_
 rintro σ H R ⟨φ,hE,hS,q⟩
 refine⟨φ,hE,hS,λv H1 φ1 f1 S1 w1=>?_⟩
 obtain⟨a,vs,rfl,hq,hr⟩:=jS S1 w1 (show lsD s1 (.h n)=some ds from hn)
 refine⟨a,rfl,⟨vs,.inl hq⟩,q _ H1 φ1 f1 S1 λH2 φ2 st2 i f2 S2 hn2=>?_⟩
 obtain⟨a2,vs2,ea,hq2,hr2⟩:=jS S2 (Rw.fw S1 f2 w1) (show lsD st2 (.h n)=some ds from hn2)
 cases ea
 have hq3:SqL X.K H2 a vs2:=.inl hq2
 refine⟨λd hd=>?_,λhi=>⟨vs2,hq3,by rw [<-hr2.length];exact Nat.le_of_eq hi⟩⟩
 obtain⟨v,ev,rv⟩:=hr2.get hd
 refine⟨⟨vs2,v,hq3,ev⟩,λx H' y=>?_⟩
 obtain⟨rfl,y⟩:=y
 have:=y vs2 hq3
 rw [ev] at this
 cases this
 exact⟨bK.refl _,rv⟩
end
end L2
namespace L2
open PySem PySem.Spec PyProof.Rows
open Classical in
noncomputable def mV (n:Nat) (all:List D) (g:Tg) (body:Sf):List D->Ev->Sto->Option Fl
 | [],env,st=>if lg st n=some all then some (.nx env st) else none
 | d::ds,env,st=>if lg st n=some all then ((gg g (.d d) env).bind λe=>(body e st).bind λr=>match r with
  | .nx e s=>mV n all g body ds e s
  | .ct e s=>mV n all g body ds e s
  | .bk e s=>some (.nx e s)
  | .rt w s=>some (.rt w s)) else none
noncomputable def pV (fe:Ef) (g:Tg) (body:Sf):Sf
 | env,st=>(fe env st).bind λr=>match r.1 with
  | .h n=>(lg r.2 n).bind λds=>mV n ds g body ds env r.2
  | .d (.tup ds)=>mI g body ds env r.2
  | .d (.lst ds)=>mI g body ds env r.2
  | _=>none
section
variable {K:PySem.W.Frag}{X:Cx}{pos:Pos}{tg:Expr}
theorem wY {iter:Expr}{body:List Stmt}{fe:Ef}{g:Tg}{gb:Sf} (he:IE K X iter fe) (hii:II K X tg iter (ba fe)) (hg:PG X tg (tG K g)) (hb:ISs K X body gb) (hp:PassesOwn (model X.prog X.w) X.A X.env X.xe) (hc:X.calm=true:=by rfl)
  (hs:∀ x,foldedSetIterable iter X.env x=pure x:=by intro _;rfl) (hK:X.K=K:=by rfl):IS K X (.For tg iter body [] pos) (pV fe g gb):=by
 refine⟨λenv st r hr=>?_⟩
 simp only [pV,Option.bind_eq_some_iff] at hr
 obtain⟨⟨x,s1⟩,hx,hr⟩:=hr
 cases x with
 | d x=>
  refine (dW hii hg hb hp hc hs).run env st r ?_
  cases x with
  | tup ds=>simp only [gQ,ba,hx,Option.bind_some];exact hr
  | lst ds=>simp only [gQ,ba,hx,Option.bind_some];exact hr
  | _=>cases hr
 | h n=>
  simp only [Option.bind_eq_some_iff] at hr
  obtain⟨ds,hds,hr⟩:=hr
  refine (wv hp hc (wU he hK hx hds) hg hb.any hs).imp ?_
  rintro D σ H ⟨φ,hE,hS,q⟩
  refine⟨φ,hE,hS,λJ H1 φ1 f1 S1 yl=>?_⟩
  refine⟨λi m σ H=>m=ds.length - i/\i<=ds.length/\∃ env st φ2,Fw φ1 φ2 H1 H/\Er K H φ2 env σ/\Sr K H φ2 st/\mV n ds g gb (ds.drop i) env st=some r,⟨ds.length,by simp,Nat.zero_le _,env,s1,φ1,Fw.refl _ _,hE.fw hS f1,S1,hr⟩,?_⟩
  rintro i m σ H2 ⟨rfl,hi,env2,st2,φ2,f2,e2,S2,h2⟩
  by_cases hlt:i < ds.length
  ·rw [List.drop_eq_getElem_cons hlt] at h2
   rw [mV] at h2
   by_cases hg2:lg st2 n=some ds
   ·rw [if_pos hg2] at h2
    obtain⟨y1,y2⟩:=yl H2 φ2 st2 i f2 S2 hg2
    obtain⟨go,yld⟩:=y1 ds[i] (List.getElem?_eq_getElem hlt)
    simp only [Option.bind_eq_some_iff] at h2
    obtain⟨e3,he3,r3,hr3,h3⟩:=h2
    refine .inr ⟨go,λσ' H'=>i+1<=ds.length/\∃ env st φ2,Fw φ1 φ2 H1 H'/\Er K H' φ2 env σ'/\Sr K H' φ2 st/\mV n ds g gb (ds.drop (i+1)) env st=some r,λσ' H' ⟨hn,p'⟩=>⟨ds.length - (i+1),by lia,rfl,hn,p'⟩,λx H' y=>?_⟩
    obtain⟨sm,rx⟩:=yld x H' y
    have S3:=S2.same sm
    have f3:=f2.trans (Fw.same (φ:=φ2) sm)
    refine⟨φ2,st2,env2,.d ds[i],e3,e2.fw S2 (Fw.same sm),S3,rx,he3,λσ' e' _=>?_⟩
    refine⟨e3,st2,r3,hr3,φ2,e',S3,?_⟩
    cases r3 with
    | nx e4 s4=>exact λσ4 H4 φ4 f4 e4' s4'=>⟨hlt,e4,s4,φ4,f3.trans f4,e4',s4',h3⟩
    | ct e4 s4=>exact λσ4 H4 φ4 f4 e4' s4'=>⟨hlt,e4,s4,φ4,f3.trans f4,e4',s4',h3⟩
    | bk e4 s4=>
     cases h3
     exact λσ4 H4 φ4 f4 e4' s4'=>q σ4 H4 φ4 (f1.trans (f3.trans f4)) e4' s4'
    | rt w s4=>
     cases h3
     exact λv H4 φ4 f4 s4' w4=>q v H4 φ4 (f1.trans (f3.trans f4)) s4' w4
   ·rw [if_neg hg2] at h2;cases h2
  ·have hi':i=ds.length:=by lia
   subst hi'
   rw [List.drop_length,mV] at h2
   by_cases hg2:lg st2 n=some ds
   ·rw [if_pos hg2] at h2
    cases h2
    obtain⟨y1,y2⟩:=yl H2 φ2 st2 ds.length f2 S2 hg2
    exact .inl ⟨y2 rfl,q σ H2 φ2 (f1.trans f2) e2 S2⟩
   ·rw [if_neg hg2] at h2;cases h2
end
theorem pZ {n:Nat}{all:List D}{g:Tg}{body:Sf}:∀ {ds:List D} (Pv:Nat->Ev->Sto->Prop) {env:Ev}{st:Sto},Pv 0 env st->(∀ i env st,Pv i env st->lg st n=some all)->
  (∀ i d env st,ds[i]?=some d->Pv i env st->∃ e1 e2 s2,gg g (.d d) env=some e1/\(body e1 st=some (.nx e2 s2)\/body e1 st=some (.ct e2 s2))/\Pv (i+1) e2 s2)->
  ∃ env' st',mV n all g body ds env st=some (.nx env' st')/\Pv ds.length env' st'
 | [],Pv,env,st,h0,hk,_=>⟨env,st,by rw [mV,if_pos (hk _ _ _ h0)],h0⟩
 | d::ds,Pv,env,st,h0,hk,hs=>by
  obtain⟨e1,e2,s2,h1,h2,h3⟩:=hs 0 d env st rfl h0
  obtain⟨e',s',h4,h5⟩:=pZ (g:=g) (body:=body) (ds:=ds) (λi=>Pv (i+1)) h3 (λi=>hk (i+1)) λi d' env' st' hd p=>hs (i+1) d' env' st' (by simpa using hd) p
  refine⟨e',s',?_,h5⟩
  rw [mV,if_pos (hk _ _ _ h0),h1,Option.bind_some]
  rcases h2 with h2 | h2<;>(rw [h2,Option.bind_some];exact h4)
end L2
namespace PySem
open Sem (wp)
namespace F
theorem keys_miss_tuple:typeLookup (.type "tuple") "keys" = pure none:=by rw [typeLookup_type,builtinLookup_eq_fast];kernel_rfl
theorem entry_dict_update_loop:entryFor table "dict.update.loop" = some Builtin.«dict.update.loop»:=entryFor_of_tree (by kernel_rfl)
theorem plain_dict_update_loop:plainId "dict.update.loop" = true:=by decide +kernel
end F
theorem iH {prog:Program}{w:World}{A:Around}{E:Value->Shared->Prop}{s:Shared}{a:Addr}{o:Obj}{xs:Array Value}{k:Nat}{name:Str}{Q:Option Value->Shared->Prop}
  (hx:s.heap.get? a=some o) (hc:o.cls=.type "tuple") (hdat:o.data=.seq xs k) (hd:o.dict=none) (hmiss:typeLookup (.type "tuple") name=pure none) (hname:(["__module__","__name__","__qualname__","__doc__","__annotations__"]:List Str).contains name=false) (hA:A.handled=none)
  (h:∀ h' tk,(∀ b ob,s.heap.get? b=some ob->h'.get? b=some ob)->Q none { s with heap:=h',toks:=tk }) (hsz:name.length+100<=sizeLine) :
  wpAny (model prog w) A (getAttr? (.ref a) name) Q E s:=by
 obtain⟨c,dct,dat,sl⟩:=o
 simp only at hc hdat hd
 subst hc hdat hd
 obtain⟨hp,g,d,tk,os⟩:=s
 have hT:∀ tk',(⟨hp,g,d,tk',os⟩:Shared).TypeIs (.ref a) "tuple":=λ_=>⟨_,hx,rfl⟩
 have f1:=sub_AttributeError
 have f3:=F.slot_tuple_getattribute.lookup
 have f4:=F.slot_tuple_getattribute.bind (.ref a)
 have f5:=am_tuple_getattr_none
 unfold getAttr? getAttrBy? getAttrBy
 repeat (any_goals (first | assumption | exact hT _ | ((with_reducible show wpAny _ _ (call (Value.builtin "tuple.__getattribute__") _ _) _ _ _);refine call_meets F.slot_tuple_getattribute (hT _) am_entry_tuple_getattribute (F.args_tuple_getattribute_2 _ _) (meets_getattribute_miss_tuple a xs k sl name _ hmiss hname hsz) ⟨hx,hA,λh' tk' e hx'=>?_⟩) | wp_step))
 obtain⟨t',u',he⟩:=hx'.there
 show wpAny _ _ (getattributeRaised _ _ _ _ _ _ _) _ _ _
 unfold getattributeRaised
 repeat (any_goals (first | assumption | wp_step))
 exact h _ _ hx'.keeps
end PySem
namespace L2
open PySem PySem.Spec PyProof.Rows
noncomputable def wG:D->Option (List Int×D)
 | .tup [.tup ks,d]=>(aQ ks).map λl=>(l,d)
 | _=>none
noncomputable def jI:List D->Option (List (List Int×D))
 | []=>some []
 | d::ds=>(wG d).bind λp=>(jI ds).map λr=>p::r
noncomputable def lV (f:Ef):Ef
 | env,st=>(f env st).bind λx=>match x.1 with
  | .d (.tup ds)=>(jI ds).bind λkvs=>if kvs.length<=64 then some (.h x.2.length,x.2++[.m (kvs.foldl (λm p=>gq m p.1 p.2) [])]) else none
  | _=>none
section
variable {X:Cx}{pins:List (Addr×Obj)}{σ:St}{H:Hp}{s:Shared}{A:Around}{E:Value->Shared->Prop}
theorem AG {a b:Addr}{kvs:List (List Key×V)}{k:List Key}{v:V}{r:Value}{Q:Unit->Shared->Prop} (hu:A.units < cLine) (I:Inv X pins σ H s) (e:H a=some (.dT kvs)) (eb:H b=some (.tup (k.map kV))) (l:kvs.length < sizeLine) (rv:aW v r)
  (h:∀ h' tk,Inv X pins σ (upd H a (.dT (fA kvs k v))) { s with heap:=h',toks:=tk }->Heap.SameBut a s.heap h'->Q () { s with heap:=h',toks:=tk }) :
  wpAny (model X.prog X.w) A (dictSet a (.ref b) r) Q E s:=by
 obtain⟨z,hd,xs,rel,dd⟩:=uL I.hok e
 have hz:xs.length<=sizeLine:=by rw [<-Paired.length rel];exact z
 have hl:(fA kvs k v).length<=sizeLine:=by have:=fO kvs k v;lia
 refine wpAny_dictSet_heap (hsz:=hz) hu (lq I.hok eb) dd λh' dd' hs=>h _ _ ?_ hs
 obtain⟨q,es,ep,hq,h2,h3,h4,_,h5⟩:=dd'
 refine pk I (by rw [e];exact True.intro) hs ⟨q,hq⟩ ⟨hl,hd,_,(rel.put k eb rv).keeps λc ys ec=>?_,q,es,ep,hq,h2,h3,h4,h5⟩
 rw [aD (yA ec e (λz=>nomatch z))]
 exact ec
noncomputable def Prs (H:Hp):List V->List (List Key×V)->Prop
 | [],ps=>ps=[]
 | x::xs,ps=>∃ a b l v r,x=.ref a/\H a=some (.tup [.ref b,v])/\H b=some (.tup (l.map kV))/\ps=(l,v)::r/\Prs H xs r
theorem Prs.length {H:Hp}:∀ {xs:List V}{ps:List (List Key×V)},Prs H xs ps->xs.length=ps.length
 | [],_,h=>by cases h;rfl
 | _::xs,_,h=>by
  obtain⟨a,b,l,v,r,rfl,_,_,rfl,h⟩:=h
  rw [List.length_cons,List.length_cons,h.length]
theorem uZ {q it d:Addr}{vs:List V}{R:Result->Shared->Prop} (hh:A.in1.handled=none) (hu:A.in1.units < cLine) (hid:it≠d) (hqd:q≠d) (hq:H q=some (.tup vs)) (hn:H d=none) (hv:vs.length<=64) :
  ∀ (xs pre:List V) (ps:List (List Key×V)) (acc:List (List Key×V)) (s:Shared) (t:Tok),vs=pre++xs->Prs H xs ps->acc.length<=pre.length->
   Inv X pins σ (upd H d (.dT acc)) s->s.heap.IsTupleIter it q pre.length->gT X pins (upd H d (.dT acc)) it->
   (∀ s',Inv X pins σ (upd H d (.dT (ps.foldl (λm p=>fA m p.1 p.2) acc))) s'->R (.ok (.ret .none)) s')->
   codeAny (model X.prog X.w) A (.builtin "dict.update.loop" ⟨[.ref d,.ref it,.int (pre.length:Nat) t,.none],[]⟩) R s:=by
 intro xs
 induction xs with
 | nil=>
  intro pre ps acc s t ev hp hacc I st hf hR
  cases hp
  have hq':upd H d (.dT acc) q=some (.tup vs):=by rw [aD hqd];exact hq
  obtain⟨z,its,rv,p⟩:=(show bY X.prog X.w (upd H d (.dT acc)) s.heap q (.tup vs) from I.hok q _ hq')
  obtain⟨f0,f1,f2,f3,f4,f5⟩:=hf
  have hl:=rv.length
  refine codeAny_builtin PySem.F.entry_dict_update_loop ?_
  rw [Around.under_plainId PySem.F.plain_dict_update_loop _]
  show wpAny _ A.in1 (pyNext (.ref it) >>= _) _ _ s
  refine wpAny_bind (wpAny_pyNext_tuple_end hh st (show s.heap.IsTuple q its.toArray from p.tup) (by simp;rw [<-hl,ev];simp) λh' eb=>?_)
  show wpAny _ A.in1 (Builtin.Dict.addKeywords d [] >>= _) _ _ _
  refine wpAny_bind (wpAny_pure (wpAny_pure (hR _ ?_)))
  exact I.turned (t':=s.toks) (λb o hb e=>eb b o hb e) f0 f1 f3 f4 f5
 | cons x xs ih=>
  intro pre ps acc s t ev hp hacc I st hf hR
  obtain⟨a,b,l,v,r,rfl,ha,hb,rfl,hp'⟩:=hp
  have hne:∀ {c:Addr}{ys:List V},H c=some (.tup ys)->c≠d:=λe z=>by rw [z,hn] at e;cases e
  have hq':upd H d (.dT acc) q=some (.tup vs):=by rw [aD hqd];exact hq
  have ha':upd H d (.dT acc) a=some (.tup [.ref b,v]):=by rw [aD (hne ha)];exact ha
  have hb':upd H d (.dT acc) b=some (.tup (l.map kV)):=by rw [aD (hne hb)];exact hb
  obtain⟨z,its,rv,p⟩:=(show bY X.prog X.w (upd H d (.dT acc)) s.heap q (.tup vs) from I.hok q _ hq')
  have hx:vs[pre.length]?=some (.ref a):=by rw [ev];simp
  obtain⟨u,hu1,ru⟩:=rv.get hx
  cases ru
  obtain⟨f0,f1,f2,f3,f4,f5⟩:=id hf
  refine codeAny_builtin PySem.F.entry_dict_update_loop ?_
  rw [Around.under_plainId PySem.F.plain_dict_update_loop _]
  show wpAny _ A.in1 (pyNext (.ref it) >>= _) _ _ s
  refine wpAny_bind (wpAny_pyNext_tuple_item st (show s.heap.IsTuple q its.toArray from p.tup) (x:=.ref a) (by simpa using hu1) λh' st' sb=>?_)
  have I1:Inv X pins σ (upd H d (.dT acc)) { s with heap:=h' }:=I.turned (t':=s.toks) (λb o hb e=>(sb.2 b hb).trans e) f0 f1 f3 f4 f5
  obtain⟨z2,its2,rv2,p2⟩:=(show bY X.prog X.w (upd H d (.dT acc)) h' a (.tup [.ref b,v]) from I1.hok a _ ha')
  obtain⟨u1,u2,rfl,r1,r2⟩:=aT.two rv2
  cases r1
  obtain⟨o2,e2,c2,⟨n2,d2⟩,dd2⟩:=p2
  show wpAny _ A.in1 (holding [Value.ref a] _ >>= _) _ _ { s with heap:=h' }
  refine wpAny_bind (wpAny_holding (wpAny_bind (wpAny_tryCatch ?_)))
  unfold Builtin.Dict.pairItems
  refine wpAny_bind (wpAny_typeOf (s:={ s with heap:=h' }) ⟨_,e2,c2⟩ ?_)
  rw [if_pos (by decide)]
  refine wpAny_bind (wpAny_seqItems (s:={ s with heap:=h' }) e2 d2 (wpAny_pure ?_))
  show wpAny _ A.in1 (holding [Value.ref b,u2] (dictSet d (.ref b) u2)) _ _ { s with heap:=h' }
  have hall:acc.length < sizeLine:=by
   have e:=congrArg List.length ev
   rw [List.length_append] at e
   rw [sizeLine_eq]
   have:pre.length<=64:=by lia
   lia
  refine wpAny_holding (AG hu I1 (aX) hb' hall r2 λh2 tk I2 sb2=>?_)
  have eU:upd (upd H d (.dT acc)) d (.dT (fA acc l v))=upd H d (.dT (fA acc l v)):=by
   funext c
   by_cases ec:c=d
   ·rw [ec,aX,aX]
   ·rw [aD ec,aD ec,aD ec]
  rw [eU] at I2
  refine wpAny_pure ⟨plainId_quiet PySem.F.plain_dict_update_loop _,?_⟩
  have el:((pre.length:Nat):Int)+1=(((pre++[V.ref a]).length:Nat):Int):=by simp
  show codeAny _ A (.builtin "dict.update.loop" ⟨[.ref d,.ref it,.int ((pre.length:Nat)+1) _,.none],[]⟩) R _
  rw [el]
  refine ih (pre++[.ref a]) r (fA acc l v) { s with heap:=h2,toks:=tk } _ (by rw [ev];simp) hp' ?_ I2 ?_ ?_ hR
  ·have:=fO acc l v
   rw [List.length_append,List.length_singleton];lia
  ·rw [List.length_append,List.length_singleton]
   exact st'.at λo e=>(sb2.2 it hid).trans e
  ·refine⟨?_,f1,f2,f3,f4,f5⟩
   rw [aD hid]
   rw [aD hid] at f0
   exact f0
theorem kG {q:Addr}{vs:List V}{ps:List (List Key×V)}{Q:Value->Shared->Prop} (hh:A.in1.in1.handled=none) (hu:A.in1.in1.units < cLine) (I:Inv X pins σ H s) (hq:H q=some (.tup vs)) (hp:Prs H vs ps) (hv:vs.length<=64)
  (h:∀ s' d,H d=none->Inv X pins σ (upd H d (.dT (ps.foldl (λm p=>fA m p.1 p.2) []))) s'->Q (.ref d) s') :
  wpAny (model X.prog X.w) A (call (.type "dict") [.ref q]) Q E s:=by
 refine callType_codes (Q₁:=λobj s₁=>obj=.ref s.heap.objs.size/\s₁={ s with heap:=s.heap.push { cls:=.type "dict",data:=.dict #[] } }) PySem.F.kt_called_dict (PySem.F.kt_typeCall_dict_1 _) PySem.F.entry_dict_init (kt_code_dict_new _ ⟨rfl,rfl⟩) ?_
 rintro obj s₁ ⟨rfl,rfl⟩
 have hnd:H s.heap.objs.size=none:=I.hok.fresh (Nat.le_refl _)
 have I1:Inv X pins σ (upd H s.heap.objs.size (.dT [])) { s with heap:=s.heap.push { cls:=.type "dict",data:=.dict #[] } }:=
  I.laid (a:=s.heap.objs.size) (o:=.dT []) (t':=s.toks) (λ_ _ q=>Heap.get?_push_of_some _ q) (Nat.le_refl _) (qW s.heap I.big)
 generalize eh:s.heap.push { cls:=.type "dict",data:=.dict #[] }=h1 at I1
 have eT:({ s with heap:=h1 }:Shared).TypeIs (.ref s.heap.objs.size) "dict":=by rw [<-eh];exact⟨_,Heap.get?_push_size _ rfl,rfl⟩
 have hdl:s.heap.objs.size < h1.objs.size:=let ⟨o,e,_⟩:=eT;Heap.lt_size e
 generalize ed:s.heap.objs.size=d at I1 eT hnd hdl
 have hqd:q≠d:=λz=>by rw [z,hnd] at hq;cases hq
 have hq':upd H d (.dT []) q=some (.tup vs):=by rw [aD hqd];exact hq
 refine⟨eT,PySem.F.args_dict_init_2 _ _,?_⟩
 unfold Builtin.«dict.__init__»
 refine wpAny_bind ?_
 unfold Builtin.Dict.selfAndRest
 refine wpAny_bind (wpAny_notOrdered_dict eT ?_)
 show wpAny _ _ (pure (d,[Value.ref q])) _ _ _
 refine wpAny_pure ?_
 show wpAny _ _ (Builtin.Dict.updateFrom "dict.__init__" d (.ref q) [] .none) _ _ _
 unfold Builtin.Dict.updateFrom
 obtain⟨z,its,rv,p⟩:=(show bY X.prog X.w (upd H d (.dT [])) h1 q (.tup vs) from I1.hok q _ hq')
 obtain⟨o2,e2,c2,⟨n2,d2⟩,dd2⟩:=id p
 refine wpAny_bind (wpAny_typeOf (s:={ s with heap:=h1 }) ⟨_,e2,c2⟩ ?_)
 rw [if_pos (by decide)]
 refine wpAny_bind (iH (s:={ s with heap:=h1 }) e2 c2 d2 dd2 PySem.F.keys_miss_tuple (by decide) hh (λh2 tk hk=>?_) (by decide))
 show wpAny _ _ (rule _ >>= _) _ _ _
 have I2:Inv X pins σ (upd H d (.dT [])) { s with heap:=h2,toks:=tk }:=I1.kept (t':=tk) hk
 obtain⟨z3,its3,rv3,p3⟩:=(show bY X.prog X.w (upd H d (.dT [])) h2 q (.tup vs) from I2.hok q _ hq')
 refine wpAny_bind (wpAny_rule (wpAny_bind (wpAny_pyIter_tuple (s:={ s with heap:=h2,toks:=tk }) (show h2.IsTuple q its3.toArray from p3.tup) ?_)))
 refine wpAny_pure ⟨plainId_quiet PySem.F.plain_dict_update_loop _,?_⟩
 have hdl2:d < h2.objs.size:=let ⟨_,e,_⟩:=eT;Heap.lt_size (hk _ _ e)
 have hit:h2.objs.size≠d:=Nat.ne_of_gt hdl2
 have I3:Inv X pins σ (upd H d (.dT [])) { s with heap:=h2.push { cls:=.type "tuple_iterator",data:=.fields #[.ref q,.int 0 0] },toks:=tk }:=I2.kept (t':=tk) λb o e=>Heap.get?_push_of_some _ e
 refine uZ (t:=0) (A:=A.in1) hh hu hit hqd hq hnd hv vs [] ps [] _ (by simp) hp (Nat.le_refl _) I3 ⟨_,Heap.get?_push_size _ rfl,rfl,rfl⟩ (I2.fpOk (Nat.le_refl _) (I2.hok.fresh (Nat.le_refl _))) λs' I'=>?_
 exact⟨rfl,h s' d hnd I'⟩
end
section
variable {K:PySem.W.Frag}{X:Cx}{pos:Pos}{e a b o f:Expr}{fe fa fb fo ff:Ef}
theorem no {H:Hp}{φ:List Addr}:∀ {ds:List D}{vs:List V}{kvs:List (List Int×D)},Rls K H φ ds vs->jI ds=some kvs->∃ ps,Prs H vs ps/\kvs.length=ps.length/\(∀ acc acc',Rkv K H φ acc acc'->Rkv K H φ (kvs.foldl (λm p=>gq m p.1 p.2) acc) (ps.foldl (λm p=>fA m p.1 p.2) acc'))
 | [],_,kvs,h,hp=>by
  cases h;cases hp
  exact⟨[],rfl,rfl,λ_ _ h=>h⟩
 | d::ds,_,kvs,h,hp=>by
  obtain⟨v,r,rfl,h1,h2⟩:=h
  rw [jI,Option.bind_eq_some_iff] at hp
  obtain⟨p,hp1,hp⟩:=hp
  obtain⟨kv,hp2,rfl⟩:=Option.map_eq_some_iff.mp hp
  obtain⟨ps,g1,g2,g3⟩:=no h2 hp2
  unfold wG at hp1
  split at hp1
  ·rename_i ks d'
   obtain⟨l,hl,rfl⟩:=Option.map_eq_some_iff.mp hp1
   obtain⟨a,us,rfl,ea,ru⟩:=h1
   obtain⟨v1,r1,rfl,w1,⟨v2,r2,rfl,w2,rfl⟩⟩:=ru
   obtain⟨b,rfl,eb⟩:=kQ hl w1
   refine⟨(eY l,v2)::ps,⟨a,b,eY l,v2,ps,rfl,ea,eb,rfl,g1⟩,by rw [List.length_cons,List.length_cons,g2],λacc acc' ha=>?_⟩
   rw [List.foldl_cons,List.foldl_cons]
   exact g3 _ _ (ha.put w2)
  ·cases hp1
theorem vG {k:Nat}{p:Pos} (hr0:bo k X.A) (hg:Gl X "dict") (hm:X.mg "dict" = none) (ha:IE K X a fa) (hc:X.calm=true:=by rfl) (hs:aR a=true:=by rfl) (hK:X.K=K:=by rfl):IE K X (.Call (.Name "dict" p) [a] [] pos) (lV fa):=by
 subst hK
 refine⟨λenv st r hr=>?_⟩
 simp only [lV,Option.bind_eq_some_iff] at hr
 obtain⟨⟨x,s1⟩,hx,hr⟩:=hr
 dsimp only at hr
 split at hr
 next ds=>
  simp only [Option.bind_eq_some_iff] at hr
  obtain⟨kvs,hk,hr⟩:=hr
  split at hr
  ·rename_i hlen
   cases hr
   have hA:=(aa (K:=X.K) (X:=X) ha ag hs).run env st ([.d (.tup ds)],s1) (by simp only [ae,aj,hx,Option.bind_some,Option.map_some])
   have hC:dk X (.type "dict") (λxs H Q=>∃ φ u,Sr X.K H φ s1/\xs=[u]/\Rl X.K H φ (.tup ds) u/\∀ d kv,H d=none->Rkv X.K H φ (kvs.foldl (λm p=>gq m p.1 p.2) []) kv->Q (.ref d) (upd H d (.dT kv))):=by
    intro pins s σ H xs us Q I rv q
    obtain⟨φ,u,S,rfl,ru,q⟩:=q
    obtain⟨u1,rfl,ru1⟩:=ij rv
    obtain⟨ad,vs,rfl,had,hvs⟩:=ru
    cases ru1
    obtain⟨ps,g1,g2,g3⟩:=no hvs hk
    have hv:vs.length<=64:=by rw [g1.length,<-g2];exact hlen
    have hun:X.A.in1.in1.units < cLine:=by
     have:=hr0.un
     show X.A.units+1+1 < cLine
     lia
    refine kG (I.ok.hd hc) hun I had g1 hv λs' d hd I'=>⟨.ref d,_,I',rfl,q d _ hd (g3 [] [] rfl)⟩
   refine (n5 hC hg hm PyProof.Rows.boot_dict hA (by decide) (by decide) (ce hs) (dF (es:=[]) rfl)).imp ?_
   rintro σ H Q ⟨φ,hE,hS,q⟩
   refine⟨φ,hE,hS,λvs H1 φ1 f1 S1 w1=>?_⟩
   obtain⟨v,r,rfl,w1,rfl⟩:=w1
   refine⟨φ1,v,S1,rfl,w1,λd kv hd hkv=>?_⟩
   refine q _ _ (φ1++[d]) (f1.trans (Fw.moreO hd)) (S1.moreC hd ⟨kv,aX,?_⟩) ⟨d,by rw [<-S1.len];simp,rfl⟩
   exact hkv.fw S1 (Fw.moreO hd)
  ·cases hr
 ·cases hr
end
end L2
namespace Own
open PySem L2
noncomputable section
noncomputable def fY:Sf:=(bI (.nm 1) (iOp dO (iV 1) (iC (.int 2))))
noncomputable def b_power_of_two:Sf:=(aA (bI (.nm 1) (iC (.int 1))) (aA (gQ (cC (ae (iV 0) aj)) (.nm 2) fY) (bL (iV 1))))
noncomputable def m_power_of_two:Fn:=bB 3 1 b_power_of_two
noncomputable def b_on_in:Sf:=(bL (iOp jj (iOp lZ (iV 0) (aE m_power_of_two (ae (iV 1) aj))) (iC (.int 2))))
noncomputable def m_on_in:Fn:=bB 2 2 b_on_in
noncomputable def cY:Tf:=(di dLt (iV 2) (iCB eD (ae (iV 0) aj)))
noncomputable def em:Sf:=(aA (bI (.nm 2) (iOp dO (iV 2) (iC (.int 2)))) (bI (.nm 1) (iOp dL (iV 1) (iC (.int 1)))))
noncomputable def b_switches_of:Sf:=(aA (bI (.nm 1) (iC (.int 0))) (aA (bI (.nm 2) (iC (.int 1))) (aA (vA 1000000000000000000000000000000 cY em) (bL (iV 1)))))
noncomputable def m_switches_of:Fn:=bB 3 1 b_switches_of
noncomputable def iR:Ef:=(iV 0)
noncomputable def iM:Tf:=(di v7 (iV 1) (iC .non))
noncomputable def b_told_rows:Sf:=(bL (iCB kF (ae (aV (iLc 2 [] (gD (ae (iV 0) aj)) (.tp [0,1]) iM iR)) aj)))
noncomputable def m_told_rows:Fn:=bB 1 1 b_told_rows
noncomputable def b_sign_at:Sf:=(bL (oN (di dEq (iOp dIx (iV 0) (iV 1)) (iC (.int 1))) (iC (.int 1)) (iUn mk (iC (.int 1)))))
noncomputable def m_sign_at:Fn:=bB 2 2 b_sign_at
noncomputable def jw:Ef:=(iOp dL (iV 0) (bm (ae (iV 2) aj)))
noncomputable def jf:Tf:=(di dLt (iCB eD (ae (iV 0) aj)) (iV 1))
noncomputable def jt:Sf:=(bI (.nm 2) (iOp dL (iV 2) (aV (iLc 1 [1,3] (ba (iV 2)) (.nm 0) jf jw))))
noncomputable def b_terms_to:Sf:=(aA (bI (.nm 2) (aV (fz (ae (bm aj) aj)))) (aA (gQ (cC (ae (iV 0) aj)) (.nm 3) jt) (bL (iCB kF (ae (aV (iCL h9 (ae (iV 2) aj))) aj)))))
noncomputable def m_terms_to:Fn:=bB 4 2 b_terms_to
noncomputable def eL:Ef:=(aE m_on_in (ae (iV 1) (ae (iV 0) aj)))
noncomputable def b_value_of:Sf:=(aA (bI (.nm 3) (iCB jT (ae (aV (iLc 1 [2] (ba (iV 1)) (.nm 0) bN eL)) aj))) (aA (d5 (di dEq (iV 0) (iC (.str "both"))) (bL (oN (di dEq (iV 3) (iCB eD (ae (iV 1) aj))) (iC (.int 1)) (iC (.int 0)))) dm) (bL (oN (di dEq (iOp jj (iV 3) (iC (.int 2))) (iC (.int 1))) (iUn mk (iC (.int 1))) (iC (.int 1))))))
noncomputable def m_value_of:Fn:=bB 4 3 b_value_of
noncomputable def iI:Ef:=(bm (ae (iV 0) (ae (tN (iV 1) (iV 0)) aj)))
noncomputable def iO:Tf:=(di dNe (tN (iV 1) (iV 0)) (iC (.int 0)))
noncomputable def b_poly_from:Sf:=(bL (bm (ae (iV 0) (ae (iCB kF (ae (aV (iLc 1 [1] (ba (aV (jG (iV 1)))) (.nm 0) iO iI)) aj)) aj))))
noncomputable def m_poly_from:Fn:=bB 2 2 b_poly_from
noncomputable def fR:Ef:=(iCB eD (ae (iV 0) aj))
noncomputable def b_degree_of:Sf:=(bL (mz (aV (iLc 2 [] (ba (iOp dIx (iV 0) (iC (.int 1)))) (.tp [0,1]) bN fR)) (iC (.int 0))))
noncomputable def m_degree_of:Fn:=bB 1 1 b_degree_of
noncomputable def bZ:Sf:=(nO (iV 2) (iV 3) (iOp dL (kh (iV 2) (iV 3) (iC (.int 0))) (iV 4)))
noncomputable def b_gathered:Sf:=(aA (bI (.nm 2) uI) (aA (pV (iV 1) (.tp [3,4]) bZ) (bL (aE m_poly_from (ae (iV 0) (ae (iV 2) aj))))))
noncomputable def m_gathered:Fn:=gZ 5 2 b_gathered
noncomputable def mC:Ef:=(bm (ae (iV 0) (ae (iOp lZ (iV 1) (iV 2)) aj)))
noncomputable def b_parted:Sf:=(bL (bm (ae (iOp dIx (iV 0) (iC (.int 0))) (ae (iCB kF (ae (aV (iLc 2 [1] (ba (iOp dIx (iV 0) (iC (.int 1)))) (.tp [0,1]) bN mC)) aj)) aj))))
noncomputable def m_parted:Fn:=bB 2 2 b_parted
noncomputable def mo:Ef:=(bm (ae (iOp dL (iV 0) (bm (ae (iV 2) aj))) (ae (iOp dO (iV 1) (iV 3)) aj)))
noncomputable def lI:Sf:=(bI (.nm 3) (iOp dL (iV 3) (aV (iLc 2 [4,2] (ba (iV 3)) (.tp [0,1]) bN mo))))
noncomputable def b_spread:Sf:=(aA (bI (.nm 3) (aV (fz (ae (bm (ae (bm aj) (ae (iV 1) aj))) aj)))) (aA (gQ (ba (iV 0)) (.nm 4) lI) (bL (iV 3))))
noncomputable def m_spread:Fn:=bB 5 3 b_spread
noncomputable def fG:Sf:=(nS (mE lA (iV 2) (ae (aE m_spread (ae (iV 3) (ae (iOp dO (iV 4) (aE m_power_of_two (ae (iOp vC (iV 1) (iCB eD (ae (iV 3) aj))) aj))) (ae (iUn mk (iC (.int 1))) aj)))) aj)))
noncomputable def b_odd_from_both:Sf:=(aA (bI (.nm 1) (aE m_degree_of (ae (iV 0) aj))) (aA (bI (.nm 2) (oY (fz aj))) (aA (gQ (ba (iOp dIx (iV 0) (iC (.int 1)))) (.tp [3,4]) fG) (bL (aE m_gathered (ae (iC (.str "odd")) (ae (iV 2) aj)))))))
noncomputable def m_odd_from_both:Fn:=gZ 5 1 b_odd_from_both
noncomputable def fK:Sf:=(nS (mE lA (iV 1) (ae (aE m_spread (ae (iV 2) (ae (iV 3) (ae (iUn mk (iC (.int 2))) aj)))) aj)))
noncomputable def b_both_from_odd:Sf:=(aA (bI (.nm 1) (oY (fz aj))) (aA (gQ (ba (iOp dIx (iV 0) (iC (.int 1)))) (.tp [2,3]) fK) (bL (aE m_gathered (ae (iC (.str "both")) (ae (iV 1) aj))))))
noncomputable def m_both_from_odd:Fn:=gZ 4 1 b_both_from_odd
noncomputable def b_other_kind:Sf:=(aA (d5 (di dEq (iOp dIx (iV 0) (iC (.int 0))) (iC (.str "both"))) (bL (aE m_odd_from_both (ae (iV 0) aj))) dm) (bL (aE m_both_from_odd (ae (iV 0) aj))))
noncomputable def m_other_kind:Fn:=bB 1 1 b_other_kind
noncomputable def b_signed_value:Sf:=(bL (iOp dO (aE m_sign_at (ae (iV 0) (ae (iV 3) aj))) (aE m_value_of (ae (iV 1) (ae (iV 2) (ae (iV 3) aj))))))
noncomputable def m_signed_value:Fn:=bB 4 4 b_signed_value
noncomputable def mF:Ef:=(aE m_signed_value (ae (iV 1) (ae (iV 2) (ae (iV 3) (ae (iV 0) aj)))))
noncomputable def b_sum_by:Sf:=(bL (iCB jT (ae (aV (iLc 1 [0,1,2] (ba (aE m_told_rows (ae (iV 0) aj))) (.nm 0) bN mF)) aj)))
noncomputable def m_sum_by:Fn:=bB 3 3 b_sum_by
noncomputable def dR:Sf:=(nO (iV 2) (iV 3) (aE m_sum_by (ae (iV 0) (ae (iC (.str "odd")) (ae (iV 3) aj)))))
noncomputable def b_exact_by_odd:Sf:=(aA (bI (.nm 1) (aE m_switches_of (ae (iV 0) aj))) (aA (bI (.nm 2) uI) (aA (gQ (ba (aE m_terms_to (ae (iV 1) (ae (iV 1) aj)))) (.nm 3) dR) (bL (aE m_poly_from (ae (iC (.str "odd")) (ae (iV 2) aj)))))))
noncomputable def m_exact_by_odd:Fn:=gZ 4 1 b_exact_by_odd
noncomputable def b_exact_of:Sf:=(aA (bI (.nm 2) (aE m_exact_by_odd (ae (iV 0) aj))) (aA (d5 (di dEq (iV 1) (iC (.str "odd"))) (bL (iV 2)) dm) (bL (aE m_parted (ae (aE m_other_kind (ae (iV 2) aj)) (ae (iCB eD (ae (iV 0) aj)) aj))))))
noncomputable def m_exact_of:Fn:=bB 3 2 b_exact_of
noncomputable def b__law_hand:Sf:=(aA (bI (.nm 2) (iC (.int 0))) (aA (d5 (di dLt (iV 1) (iCB eD (ae (iV 0) aj))) (bI (.nm 2) (iOp dIx (iV 0) (iV 1))) dm) (bL (oY (fz (ae (iOp dIx (aV (fz (ae (iC (.int 0)) (ae (iV 2) aj)))) (iCB mi (ae (iOp dGe (iV 2) (iOp uE (iC (.int 10)) (iC (.int 18)))) aj))) (ae (iOp dL (iOp dL (iOp jj (iV 2) (iC (.int 2305843009213693951))) (iOp dO (iC (.int 7919)) (iV 1))) (iC (.int 3))) (ae (iC (.int 0)) aj))))))))
noncomputable def m__law_hand:Fn:=bB 3 2 b__law_hand
noncomputable def m7:Sf:=(aA (bI (.nm 5) (iOp dL (iOp dL (iOp jj (iV 4) (iC (.int 1000003))) (iOp dO (iV 3) (iC (.int 99991)))) (iC (.int 11)))) (aA (bI (.nm 4) (iOp jj (iOp dO (iV 4) (iV 5)) (iC (.int 2305843009213693907)))) (bL (iOp jj (iOp dL (iOp lZ (iV 4) (iC (.int 97))) (iOp lZ (iV 4) (iC (.int 1000033)))) (iV 1)))))
noncomputable def b__law_take:Sf:=(aA (d5 (di dGt (iOp dIx (iV 0) (iC (.int 0))) (iC (.int 0))) (aA (bI (.nm 2) (iOp jj (iOp dIx (iV 0) (iC (.int 0))) (iV 1))) (aA (jY (iV 0) (iC (.int 0)) (iOp lZ (iOp dIx (iV 0) (iC (.int 0))) (iV 1))) (bL (iV 2)))) dm) (aA (jY (iV 0) (iC (.int 2)) (iOp dL (iOp dIx (iV 0) (iC (.int 2))) (iC (.int 1)))) (aA (bI (.nm 3) (iOp dIx (iV 0) (iC (.int 2)))) (aA (bI (.nm 4) (iOp jj (iOp dO (iOp dIx (iV 0) (iC (.int 1))) (iOp dL (iOp dL (iC (.int 48271)) (iOp dO (iOp dO (iC (.int 2)) (iV 3)) (iV 3))) (iOp dO (iC (.int 65537)) (iV 3)))) (iC (.int 2305843009213693921)))) m7))))
noncomputable def m__law_take:Fn:=bB 6 2 b__law_take
noncomputable def b__law_pick:Sf:=(bL (iOp dIx (iV 1) (aE m__law_take (ae (iV 0) (ae (iCB eD (ae (iV 1) aj)) aj)))))
noncomputable def m__law_pick:Fn:=bB 2 2 b__law_pick
noncomputable def eB:Sf:=(aA (bI (.nm 5) (iOp jj (iOp yr (iV 2) (iV 4)) (iC (.int 2)))) (bI (.nm 3) (iOp dO (iV 3) (iOp dIx (aV (fz (ae (iOp vC (iC (.int 1)) (iOp dO (iC (.int 2)) (iV 5))) (ae (iV 5) aj)))) (iCB mi (ae (iOp dEq (iV 0) (iC (.str "both"))) aj))))))
noncomputable def b__law_term_value:Sf:=(aA (bI (.nm 3) (iC (.int 1))) (aA (gQ (ba (iV 1)) (.nm 4) eB) (bL (iV 3))))
noncomputable def m__law_term_value:Fn:=bB 6 3 b__law_term_value
noncomputable def hW:Ef:=(iOp dO (iV 1) (aE m__law_term_value (ae (iOp dIx (iV 2) (iC (.int 0))) (ae (iV 0) (ae (iV 3) aj)))))
noncomputable def b__law_value:Sf:=(bL (iCB jT (ae (aV (iLc 2 [0,1] (ba (iOp dIx (iV 0) (iC (.int 1)))) (.tp [0,1]) bN hW)) aj)))
noncomputable def m__law_value:Fn:=bB 2 2 b__law_value
noncomputable def eR:Ef:=(iOp dL (iV 0) (bm (ae (iV 1) aj)))
noncomputable def eQ:Sf:=(bI (.nm 1) (iOp dL (iV 1) (aV (iLc 1 [2] (ba (iV 1)) (.nm 0) bN eR))))
noncomputable def b__law_all_terms:Sf:=(aA (bI (.nm 1) (aV (fz (ae (bm aj) aj)))) (aA (gQ (cC (ae (iV 0) aj)) (.nm 2) eQ) (bL (aV (iCL h9 (ae (iV 1) aj))))))
noncomputable def m__law_all_terms:Fn:=bB 3 1 b__law_all_terms
noncomputable def eV:Ef:=(iV 0)
noncomputable def eW:Tf:=(di dEq (iOp jj (iOp yr (iV 1) (iV 0)) (iC (.int 2))) (iC (.int 1)))
noncomputable def dw:Ef:=(iOp dIx (iV 1) (iCB eD (ae (aV (iLc 1 [0] (cC (ae (iV 2) aj)) (.nm 0) eW eV)) aj)))
noncomputable def fu:Ef:=(aE m__law_take (ae (iV 1) (ae (iC (.int 2)) aj)))
noncomputable def b__law_by_counts:Sf:=(aA (bI (.nm 2) (aV (iLc 1 [0] (cC (ae (iOp dL (iV 1) (iC (.int 1))) aj)) (.nm 0) bN fu))) (bL (aV (iLc 1 [2,1] (cC (ae (iOp kE (iC (.int 1)) (iV 1)) aj)) (.nm 0) bN dw))))
noncomputable def m__law_by_counts:Fn:=bB 3 2 b__law_by_counts
noncomputable def fF:Ef:=(iCB mi (ae (iOp dGt (iV 0) (iC (.int 0))) aj))
noncomputable def cS:Ef:=(aE m__law_term_value (ae (iC (.str "odd")) (ae (iV 0) (ae (iV 1) aj))))
noncomputable def fL:Ef:=(iCB jT (ae (aV (iLc 1 [0] (ba (iV 1)) (.nm 0) bN cS)) aj))
noncomputable def fP:Ef:=(aE m__law_pick (ae (iV 1) (ae (aE m__law_all_terms (ae (iV 2) aj)) aj)))
noncomputable def b__law_by_signs:Sf:=(aA (bI (.nm 2) (aV (iLc 1 [0,1] (cC (ae (iC (.int 3)) aj)) (.nm 0) bN fP))) (aA (bI (.nm 3) (aV (iLc 1 [2] (cC (ae (iOp kE (iC (.int 1)) (iV 1)) aj)) (.nm 0) bN fL))) (bL (aV (iLc 1 [] (ba (iV 3)) (.nm 0) bN fF)))))
noncomputable def m__law_by_signs:Fn:=bB 4 2 b__law_by_signs
noncomputable def iP:Ef:=(aE m__law_take (ae (iV 1) (ae (iC (.int 2)) aj)))
noncomputable def iS:Ef:=(iOp dIx (aV (fz (ae (iOp vC (iC (.int 1)) (iV 1)) (ae (iV 1) aj)))) (iCB mi (ae (iOp dEq (iV 0) (iV 2)) aj)))
noncomputable def iJ:Ef:=(iCB mi (ae (iOp dEq (aE m__law_term_value (ae (iC (.str "odd")) (ae (iV 1) (ae (iV 0) aj)))) (iOp vC (iC (.int 1)) (iOp dO (iC (.int 2)) (iV 2)))) aj))
noncomputable def b__law_full:Sf:=(aA (bI (.tp [2,3]) (bm (ae (aE m__law_take (ae (iV 0) (ae (iC (.int 5)) aj))) (ae (aE m__law_take (ae (iV 0) (ae (iC (.int 2)) aj))) aj)))) (aA (d5 (di dEq (iV 2) (iC (.int 0))) (bL (iCB kF (ae (aE m__law_by_counts (ae (iV 0) (ae (iV 1) aj))) aj))) dm) (aA (d5 (di dEq (iV 2) (iC (.int 1))) (bL (iCB kF (ae (aE m__law_by_signs (ae (iV 0) (ae (iV 1) aj))) aj))) dm) (aA (d5 (di dEq (iV 2) (iC (.int 2))) (aA (bI (.nm 4) (aE m__law_pick (ae (iV 0) (ae (aE m__law_all_terms (ae (iV 1) aj)) aj)))) (bL (iCB kF (ae (aV (iLc 1 [4,3] (cC (ae (iOp kE (iC (.int 1)) (iV 1)) aj)) (.nm 0) bN iJ)) aj)))) dm) (aA (d5 (di dEq (iV 2) (iC (.int 3))) (aA (bI (.nm 5) (aE m__law_take (ae (iV 0) (ae (iOp kE (iC (.int 1)) (iV 1)) aj)))) (bL (iCB kF (ae (aV (iLc 1 [3,5] (cC (ae (iOp kE (iC (.int 1)) (iV 1)) aj)) (.nm 0) bN iS)) aj)))) dm) (bL (iCB kF (ae (aV (iLc 1 [0] (cC (ae (iOp kE (iC (.int 1)) (iV 1)) aj)) (.nm 0) bN iP)) aj))))))))
noncomputable def m__law_full:Fn:=bB 6 2 b__law_full
noncomputable def b__law_is_whole:Sf:=(bL (nC (iCB jB (ae (iV 0) (ae (iC (.ty "int")) aj))) (wI (iCB jB (ae (iV 0) (ae (iC (.ty "bool")) aj))))))
noncomputable def m__law_is_whole:Fn:=bB 1 1 b__law_is_whole
noncomputable def gt:Ef:=(iOp dLt (iV 0) (iV 1))
noncomputable def fZ:Ef:=(nC (aE m__law_is_whole (ae (iV 0) aj)) (jM dLe dLt (iC (.int 0)) (iV 0) (iC (.int 6))))
noncomputable def b__law_is_term:Sf:=(aA (d5 (kN (e8 (iZ jc (iCB jB (ae (iV 0) (ae (iC (.ty "tuple")) aj))))) (e8 (iZ jc (iCB rE (ae (aV (iLc 1 [] (ba (iV 0)) (.nm 0) bN fZ)) aj))))) (bL (iC (.bl false))) dm) (bL (iCB rE (ae (aV (iLc 2 [] (kl (ae (iV 0) (ae (iSl (iV 0) (iPs (iC (.int 1))) iPn) aj))) (.tp [0,1]) bN gt)) aj))))
noncomputable def m__law_is_term:Fn:=bB 1 1 b__law_is_term
noncomputable def gj:Ef:=(iOp uQ (iOp dIx (iV 0) (iC (.int 0))) (iOp dIx (iV 1) (iC (.int 0))))
noncomputable def dX:Sf:=(aA (d5 (kN (e8 (iZ jc (iCB jB (ae (iV 1) (ae (iC (.ty "tuple")) aj))))) (kN (di dNe (iCB eD (ae (iV 1) aj)) (iC (.int 2))) (e8 (iZ jc (aE m__law_is_term (ae (iOp dIx (iV 1) (iC (.int 0))) aj)))))) (bL (iC (.bl false))) dm) (d5 (kN (e8 (iZ jc (aE m__law_is_whole (ae (iOp dIx (iV 1) (iC (.int 1))) aj)))) (di dEq (iOp dIx (iV 1) (iC (.int 1))) (iC (.int 0)))) (bL (iC (.bl false))) dm))
noncomputable def b__law_is_poly:Sf:=(aA (d5 (kN (e8 (iZ jc (iCB jB (ae (iV 0) (ae (iC (.ty "tuple")) aj))))) (kN (di dNe (iCB eD (ae (iV 0) aj)) (iC (.int 2))) (e8 (iZ jc (iCB jB (ae (iOp dIx (iV 0) (iC (.int 0))) (ae (iC (.ty "str")) aj))))))) (bL (iC (.bl false))) dm) (aA (d5 (kN (di oP (iOp dIx (iV 0) (iC (.int 0))) (bm (ae (iC (.str "both")) (ae (iC (.str "odd")) aj)))) (e8 (iZ jc (iCB jB (ae (iOp dIx (iV 0) (iC (.int 1))) (ae (iC (.ty "tuple")) aj)))))) (bL (iC (.bl false))) dm) (aA (gQ (ba (iOp dIx (iV 0) (iC (.int 1)))) (.nm 1) dX) (bL (iCB rE (ae (aV (iLc 2 [] (kl (ae (iOp dIx (iV 0) (iC (.int 1))) (ae (iSl (iOp dIx (iV 0) (iC (.int 1))) (iPs (iC (.int 1))) iPn) aj))) (.tp [0,1]) bN gj)) aj))))))
noncomputable def m__law_is_poly:Fn:=bB 2 1 b__law_is_poly
noncomputable def fm:Ef:=(iOp dEq (aE m__law_value (ae (iV 2) (ae (iV 0) aj))) (iOp dO (iV 3) (iOp dIx (aV (fz (ae (iUn mk (iC (.int 1))) (ae (iC (.int 1)) aj)))) (iV 1))))
noncomputable def b__law_right:Sf:=(aA (bI (.nm 3) (aE m_exact_of (ae (iV 0) (ae (iV 2) aj)))) (aA (d5 (kN (e8 (iZ jc (aE m__law_is_poly (ae (iV 3) aj)))) (di dNe (iOp dIx (iV 3) (iC (.int 0))) (iV 2))) (bL (iC (.bl false))) dm) (aA (bI (.nm 4) (iOp dIx (aV (fz (ae (iC (.int 1)) (ae (iOp kE (iC (.int 1)) (iV 1)) aj)))) (iCB mi (ae (iOp dEq (iV 2) (iC (.str "odd"))) aj)))) (bL (iCB rE (ae (aV (iLc 2 [3,4] (gD (ae (iV 0) aj)) (.tp [0,1]) bN fm)) aj))))))
noncomputable def m__law_right:Fn:=bB 5 3 b__law_right
noncomputable def cL:Ef:=(iOp dO (iOp dIx (aV (fz (ae (iUn mk (iC (.int 1))) (ae (iC (.int 1)) aj)))) (iV 1)) (aE m__law_term_value (ae (iC (.str "odd")) (ae (iV 2) (ae (iV 0) aj)))))
noncomputable def dD:Sf:=(aA (bI (.nm 4) (iCB jT (ae (aV (iLc 2 [3] (gD (ae (iV 0) aj)) (.tp [0,1]) bN cL)) aj))) (d5 (di dNe (kh (iV 2) (iV 3) (iC (.int 0))) (iV 4)) (bL (iC (.bl false))) dm))
noncomputable def b__law_numbers_right:Sf:=(aA (bI (.nm 2) (lV (iOp dIx (aE m_exact_of (ae (iV 0) (ae (iC (.str "odd")) aj))) (iC (.int 1))))) (aA (gQ (ba (aE m__law_all_terms (ae (iV 1) aj))) (.nm 3) dD) (bL (iC (.bl true)))))
noncomputable def m__law_numbers_right:Fn:=gZ 5 2 b__law_numbers_right
noncomputable def sX:Sf:=(d5 (e8 (iZ jc (aE m__law_right (ae (iV 4) (ae (iV 3) (ae (iV 5) aj)))))) (bL (iC (.bl false))) dm)
noncomputable def pp:Sf:=(aA (bI (.nm 2) (aE m__law_hand (ae (iV 0) (ae (iV 1) aj)))) (aA (bI (.nm 3) (aE m__law_take (ae (iV 2) (ae (iC (.int 7)) aj)))) (aA (bI (.nm 4) (aE m__law_full (ae (iV 2) (ae (iV 3) aj)))) (aA (gQ (ba (bm (ae (iC (.str "both")) (ae (iC (.str "odd")) (ae (iC (.str "both")) aj))))) (.nm 5) sX) (d5 (e8 (iZ jc (aE m__law_numbers_right (ae (iV 4) (ae (iV 3) aj))))) (bL (iC (.bl false))) dm)))))
noncomputable def nB:Sf:=(aA (gQ (cC (ae (iCB dMx (ae (iC (.int 2)) (ae (iCB vF (ae (iC (.int 3)) (ae (iCB eD (ae (iV 0) aj)) aj))) aj))) aj)) (.nm 1) pp) (aA (d5 (di dNe (aE m_exact_of (ae (bm (ae (iC (.int 0)) aj)) (ae (iC (.str "odd")) aj))) (bm (ae (iC (.str "odd")) (ae (bm (ae (bm (ae (bm aj) (ae (iUn mk (iC (.int 1))) aj))) aj)) aj)))) (bL (iC (.bl false))) dm) (bL (iOp dEq (aE m_exact_of (ae (bm (ae (iC (.int 0)) (ae (iC (.int 1)) aj))) (ae (iC (.str "both")) aj))) (bm (ae (iC (.str "both")) (ae (bm (ae (bm (ae (bm aj) (ae (iUn mk (iC (.int 1))) aj))) (ae (bm (ae (bm (ae (iC (.int 0)) aj)) (ae (iC (.int 2)) aj))) aj))) aj)))))))
noncomputable def m_law:Fn:=gZ 6 1 nB
end
end Own
section
set_option maxHeartbeats 2000000
namespace Own
open PySem L2
noncomputable def top (i:Nat):Stmt:=PySem.Challenge.pw_signpoly_k21_exact_polynomials.main.body.getD i (.Pass ⟨0,0,0,0⟩)
abbrev bH:Stmt:=top 1
abbrev eF:Stmt:=top 2
abbrev bR:Stmt:=top 4
abbrev cc:Stmt:=top 5
abbrev de:Stmt:=top 6
abbrev cw:Stmt:=top 8
abbrev cv:Stmt:=top 9
abbrev cb:Stmt:=top 11
abbrev ca:Stmt:=top 12
abbrev cG:Stmt:=top 14
abbrev dl:Stmt:=top 15
abbrev dn:Stmt:=top 16
abbrev bz:Stmt:=top 17
abbrev bw:Stmt:=top 18
abbrev b6:Stmt:=top 19
abbrev bG:Stmt:=top 21
abbrev dj:Stmt:=top 23
abbrev bD:Stmt:=top 24
abbrev cI:Stmt:=top 25
abbrev cp:Stmt:=top 27
abbrev cn:Stmt:=top 28
abbrev cr:Stmt:=top 29
abbrev bh:Stmt:=top 30
abbrev bT:Stmt:=top 31
abbrev bd:Stmt:=top 32
abbrev aN:Stmt:=top 33
abbrev aM:Stmt:=top 34
abbrev bJ:Stmt:=top 35
abbrev bx:Stmt:=top 36
abbrev bi:Stmt:=top 37
abbrev bu:Stmt:=top 38
abbrev bS:Stmt:=top 39
abbrev aI:Stmt:=top 40
abbrev jx:Stmt:=top 41
theorem dr:aH ["k","power","step"] ["k"] (ab bH):=⟨rfl,rfl,rfl,by decide +kernel,rfl,by decide +kernel,by decide +kernel⟩
theorem wK:aH ["row","k"] ["row","k"] (ab eF):=⟨rfl,rfl,rfl,by decide +kernel,rfl,by decide +kernel,by decide +kernel⟩
theorem cU:aH ["f","many","rows"] ["f"] (ab bR):=⟨rfl,rfl,rfl,by decide +kernel,rfl,by decide +kernel,by decide +kernel⟩
theorem oo:aH ["f"] ["f"] (ab cc):=⟨rfl,rfl,rfl,by decide +kernel,rfl,by decide +kernel,by decide +kernel⟩
theorem rK:aH ["f","row"] ["f","row"] (ab de):=⟨rfl,rfl,rfl,by decide +kernel,rfl,by decide +kernel,by decide +kernel⟩
theorem fN:aH ["n","size","terms","k"] ["n","size"] (ab cw):=⟨rfl,rfl,rfl,by decide +kernel,rfl,by decide +kernel,by decide +kernel⟩
theorem kn:aH ["kind","term","row","many"] ["kind","term","row"] (ab cv):=⟨rfl,rfl,rfl,by decide +kernel,rfl,by decide +kernel,by decide +kernel⟩
theorem oi:aH ["kind","numbers"] ["kind","numbers"] (ab cb):=⟨rfl,rfl,rfl,by decide +kernel,rfl,by decide +kernel,by decide +kernel⟩
theorem o9:aH ["poly"] ["poly"] (ab ca):=⟨rfl,rfl,rfl,by decide +kernel,rfl,by decide +kernel,by decide +kernel⟩
theorem fD:aH ["kind","parts","numbers","term","number"] ["kind","parts"] (ab cG):=⟨rfl,rfl,rfl,by decide +kernel,rfl,by decide +kernel,by decide +kernel⟩
theorem ud:aH ["poly","number"] ["poly","number"] (ab dl):=⟨rfl,rfl,rfl,by decide +kernel,rfl,by decide +kernel,by decide +kernel⟩
theorem iu:aH ["term","number","step","parts","k"] ["term","number","step"] (ab dn):=⟨rfl,rfl,rfl,by decide +kernel,rfl,by decide +kernel,by decide +kernel⟩
theorem cB:aH ["poly","degree","parts","term","number"] ["poly"] (ab bz):=⟨rfl,rfl,rfl,by decide +kernel,rfl,by decide +kernel,by decide +kernel⟩
theorem db:aH ["poly","parts","term","number"] ["poly"] (ab bw):=⟨rfl,rfl,rfl,by decide +kernel,rfl,by decide +kernel,by decide +kernel⟩
theorem mZ:aH ["poly"] ["poly"] (ab b6):=⟨rfl,rfl,rfl,by decide +kernel,rfl,by decide +kernel,by decide +kernel⟩
theorem kD:aH ["f","kind","term","row"] ["f","kind","term","row"] (ab bG):=⟨rfl,rfl,rfl,by decide +kernel,rfl,by decide +kernel,by decide +kernel⟩
theorem uz:aH ["f","kind","term"] ["f","kind","term"] (ab dj):=⟨rfl,rfl,rfl,by decide +kernel,rfl,by decide +kernel,by decide +kernel⟩
theorem du:aH ["f","n","numbers","term"] ["f"] (ab bD):=⟨rfl,rfl,rfl,by decide +kernel,rfl,by decide +kernel,by decide +kernel⟩
theorem kq:aH ["f","kind","by_odd"] ["f","kind"] (ab cI):=⟨rfl,rfl,rfl,by decide +kernel,rfl,by decide +kernel,by decide +kernel⟩
theorem gx:aH ["_law_script","_law_k","_law_cell"] ["_law_script","_law_k"] (ab cp):=⟨rfl,rfl,rfl,by decide +kernel,rfl,by decide +kernel,by decide +kernel⟩
theorem da:aH ["_law_hand_here","_law_many","_law_digit","_law_turn","_law_mixed","_law_other"] ["_law_hand_here","_law_many"] (ab cn):=⟨rfl,rfl,rfl,by decide +kernel,rfl,by decide +kernel,by decide +kernel⟩
theorem oH:aH ["_law_hand_here","_law_some"] ["_law_hand_here","_law_some"] (ab cr):=⟨rfl,rfl,rfl,by decide +kernel,rfl,by decide +kernel,by decide +kernel⟩
theorem cg:aH ["_law_kind","_law_term","_law_row","_law_value_here","_law_k","_law_on"] ["_law_kind","_law_term","_law_row"] (ab bh):=⟨rfl,rfl,rfl,by decide +kernel,rfl,by decide +kernel,by decide +kernel⟩
theorem mW:aH ["_law_poly","_law_row"] ["_law_poly","_law_row"] (ab bT):=⟨rfl,rfl,rfl,by decide +kernel,rfl,by decide +kernel,by decide +kernel⟩
theorem cQ:aH ["_law_n","_law_found","_law_k"] ["_law_n"] (ab bd):=⟨rfl,rfl,rfl,by decide +kernel,rfl,by decide +kernel,by decide +kernel⟩
theorem fM:aH ["_law_hand_here","_law_n","_law_row"] ["_law_hand_here","_law_n"] (ab aN):=⟨rfl,rfl,rfl,by decide +kernel,rfl,by decide +kernel,by decide +kernel⟩
theorem dY:aH ["_law_hand_here","_law_n","_law_some","_law_sums"] ["_law_hand_here","_law_n"] (ab aM):=⟨rfl,rfl,rfl,by decide +kernel,rfl,by decide +kernel,by decide +kernel⟩
theorem dI:aH ["_law_hand_here","_law_n","_law_way","_law_own","_law_term","_law_spot"] ["_law_hand_here","_law_n"] (ab bJ):=⟨rfl,rfl,rfl,by decide +kernel,rfl,by decide +kernel,by decide +kernel⟩
theorem j7:aH ["_law_thing"] ["_law_thing"] (ab bx):=⟨rfl,rfl,rfl,by decide +kernel,rfl,by decide +kernel,by decide +kernel⟩
theorem kB:aH ["_law_thing"] ["_law_thing"] (ab bi):=⟨rfl,rfl,rfl,by decide +kernel,rfl,by decide +kernel,by decide +kernel⟩
theorem gK:aH ["_law_thing","_law_part"] ["_law_thing"] (ab bu):=⟨rfl,rfl,rfl,by decide +kernel,rfl,by decide +kernel,by decide +kernel⟩
theorem fV:aH ["_law_f","_law_n","_law_kind","_law_found","_law_factor"] ["_law_f","_law_n","_law_kind"] (ab bS):=⟨rfl,rfl,rfl,by decide +kernel,rfl,by decide +kernel,by decide +kernel⟩
theorem ci:aH ["_law_f","_law_n","_law_numbers","_law_term","_law_due"] ["_law_f","_law_n"] (ab aI):=⟨rfl,rfl,rfl,by decide +kernel,rfl,by decide +kernel,by decide +kernel⟩
theorem jP:aH ["_law_script","_law_k","_law_hand_here","_law_n","_law_f","_law_kind"] ["_law_script"] (ab jx):=⟨rfl,rfl,rfl,by decide +kernel,rfl,by decide +kernel,by decide +kernel⟩
set_option genSizeOf false in
set_option genInjectivity false in
structure Adr where
 f_power_of_two:Addr
 fd_power_of_two:FuncData
 f_on_in:Addr
 fd_on_in:FuncData
 f_switches_of:Addr
 fd_switches_of:FuncData
 f_told_rows:Addr
 fd_told_rows:FuncData
 f_sign_at:Addr
 fd_sign_at:FuncData
 f_terms_to:Addr
 fd_terms_to:FuncData
 f_value_of:Addr
 fd_value_of:FuncData
 f_poly_from:Addr
 fd_poly_from:FuncData
 f_degree_of:Addr
 fd_degree_of:FuncData
 f_gathered:Addr
 fd_gathered:FuncData
 f_parted:Addr
 fd_parted:FuncData
 f_spread:Addr
 fd_spread:FuncData
 f_odd_from_both:Addr
 fd_odd_from_both:FuncData
 f_both_from_odd:Addr
 fd_both_from_odd:FuncData
 f_other_kind:Addr
 fd_other_kind:FuncData
 f_signed_value:Addr
 fd_signed_value:FuncData
 f_sum_by:Addr
 fd_sum_by:FuncData
 f_exact_by_odd:Addr
 fd_exact_by_odd:FuncData
 f_exact_of:Addr
 fd_exact_of:FuncData
 f__law_hand:Addr
 fd__law_hand:FuncData
 f__law_take:Addr
 fd__law_take:FuncData
 f__law_pick:Addr
 fd__law_pick:FuncData
 f__law_term_value:Addr
 fd__law_term_value:FuncData
 f__law_value:Addr
 fd__law_value:FuncData
 f__law_all_terms:Addr
 fd__law_all_terms:FuncData
 f__law_by_counts:Addr
 fd__law_by_counts:FuncData
 f__law_by_signs:Addr
 fd__law_by_signs:FuncData
 f__law_full:Addr
 fd__law_full:FuncData
 f__law_is_whole:Addr
 fd__law_is_whole:FuncData
 f__law_is_term:Addr
 fd__law_is_term:FuncData
 f__law_is_poly:Addr
 fd__law_is_poly:FuncData
 f__law_right:Addr
 fd__law_right:FuncData
 f__law_numbers_right:Addr
 fd__law_numbers_right:FuncData
 f_law:Addr
 fd_law:FuncData
structure Txt (K:PySem.W.Frag) (mg:Str->Option Value) (t:Adr):Prop where
 F_power_of_two:Fun K "power_of_two" "power_of_two" bH t.f_power_of_two t.fd_power_of_two
 m_power_of_two:mg "power_of_two" = some (.ref t.f_power_of_two)
 b_power_of_two:bC K t.fd_power_of_two ["k"] []
 F_on_in:Fun K "on_in" "on_in" eF t.f_on_in t.fd_on_in
 m_on_in:mg "on_in" = some (.ref t.f_on_in)
 b_on_in:bC K t.fd_on_in ["row","k"] []
 F_switches_of:Fun K "switches_of" "switches_of" bR t.f_switches_of t.fd_switches_of
 m_switches_of:mg "switches_of" = some (.ref t.f_switches_of)
 b_switches_of:bC K t.fd_switches_of ["f"] []
 F_told_rows:Fun K "told_rows" "told_rows" cc t.f_told_rows t.fd_told_rows
 m_told_rows:mg "told_rows" = some (.ref t.f_told_rows)
 b_told_rows:bC K t.fd_told_rows ["f"] []
 F_sign_at:Fun K "sign_at" "sign_at" de t.f_sign_at t.fd_sign_at
 m_sign_at:mg "sign_at" = some (.ref t.f_sign_at)
 b_sign_at:bC K t.fd_sign_at ["f","row"] []
 F_terms_to:Fun K "terms_to" "terms_to" cw t.f_terms_to t.fd_terms_to
 m_terms_to:mg "terms_to" = some (.ref t.f_terms_to)
 b_terms_to:bC K t.fd_terms_to ["n","size"] []
 F_value_of:Fun K "value_of" "value_of" cv t.f_value_of t.fd_value_of
 m_value_of:mg "value_of" = some (.ref t.f_value_of)
 b_value_of:bC K t.fd_value_of ["kind","term","row"] []
 F_poly_from:Fun K "poly_from" "poly_from" cb t.f_poly_from t.fd_poly_from
 m_poly_from:mg "poly_from" = some (.ref t.f_poly_from)
 b_poly_from:bC K t.fd_poly_from ["kind","numbers"] []
 F_degree_of:Fun K "degree_of" "degree_of" ca t.f_degree_of t.fd_degree_of
 m_degree_of:mg "degree_of" = some (.ref t.f_degree_of)
 b_degree_of:bC K t.fd_degree_of ["poly"] []
 F_gathered:Fun K "gathered" "gathered" cG t.f_gathered t.fd_gathered
 m_gathered:mg "gathered" = some (.ref t.f_gathered)
 b_gathered:bC K t.fd_gathered ["kind","parts"] []
 F_parted:Fun K "parted" "parted" dl t.f_parted t.fd_parted
 m_parted:mg "parted" = some (.ref t.f_parted)
 b_parted:bC K t.fd_parted ["poly","number"] []
 F_spread:Fun K "spread" "spread" dn t.f_spread t.fd_spread
 m_spread:mg "spread" = some (.ref t.f_spread)
 b_spread:bC K t.fd_spread ["term","number","step"] []
 F_odd_from_both:Fun K "odd_from_both" "odd_from_both" bz t.f_odd_from_both t.fd_odd_from_both
 m_odd_from_both:mg "odd_from_both" = some (.ref t.f_odd_from_both)
 b_odd_from_both:bC K t.fd_odd_from_both ["poly"] []
 F_both_from_odd:Fun K "both_from_odd" "both_from_odd" bw t.f_both_from_odd t.fd_both_from_odd
 m_both_from_odd:mg "both_from_odd" = some (.ref t.f_both_from_odd)
 b_both_from_odd:bC K t.fd_both_from_odd ["poly"] []
 F_other_kind:Fun K "other_kind" "other_kind" b6 t.f_other_kind t.fd_other_kind
 m_other_kind:mg "other_kind" = some (.ref t.f_other_kind)
 b_other_kind:bC K t.fd_other_kind ["poly"] []
 F_signed_value:Fun K "signed_value" "signed_value" bG t.f_signed_value t.fd_signed_value
 m_signed_value:mg "signed_value" = some (.ref t.f_signed_value)
 b_signed_value:bC K t.fd_signed_value ["f","kind","term","row"] []
 F_sum_by:Fun K "sum_by" "sum_by" dj t.f_sum_by t.fd_sum_by
 m_sum_by:mg "sum_by" = some (.ref t.f_sum_by)
 b_sum_by:bC K t.fd_sum_by ["f","kind","term"] []
 F_exact_by_odd:Fun K "exact_by_odd" "exact_by_odd" bD t.f_exact_by_odd t.fd_exact_by_odd
 m_exact_by_odd:mg "exact_by_odd" = some (.ref t.f_exact_by_odd)
 b_exact_by_odd:bC K t.fd_exact_by_odd ["f"] []
 F_exact_of:Fun K "exact_of" "exact_of" cI t.f_exact_of t.fd_exact_of
 m_exact_of:mg "exact_of" = some (.ref t.f_exact_of)
 b_exact_of:bC K t.fd_exact_of ["f","kind"] []
 F__law_hand:Fun K "_law_hand" "_law_hand" cp t.f__law_hand t.fd__law_hand
 m__law_hand:mg "_law_hand" = some (.ref t.f__law_hand)
 b__law_hand:bC K t.fd__law_hand ["_law_script","_law_k"] []
 F__law_take:Fun K "_law_take" "_law_take" cn t.f__law_take t.fd__law_take
 m__law_take:mg "_law_take" = some (.ref t.f__law_take)
 b__law_take:bC K t.fd__law_take ["_law_hand_here","_law_many"] []
 F__law_pick:Fun K "_law_pick" "_law_pick" cr t.f__law_pick t.fd__law_pick
 m__law_pick:mg "_law_pick" = some (.ref t.f__law_pick)
 b__law_pick:bC K t.fd__law_pick ["_law_hand_here","_law_some"] []
 F__law_term_value:Fun K "_law_term_value" "_law_term_value" bh t.f__law_term_value t.fd__law_term_value
 m__law_term_value:mg "_law_term_value" = some (.ref t.f__law_term_value)
 b__law_term_value:bC K t.fd__law_term_value ["_law_kind","_law_term","_law_row"] []
 F__law_value:Fun K "_law_value" "_law_value" bT t.f__law_value t.fd__law_value
 m__law_value:mg "_law_value" = some (.ref t.f__law_value)
 b__law_value:bC K t.fd__law_value ["_law_poly","_law_row"] []
 F__law_all_terms:Fun K "_law_all_terms" "_law_all_terms" bd t.f__law_all_terms t.fd__law_all_terms
 m__law_all_terms:mg "_law_all_terms" = some (.ref t.f__law_all_terms)
 b__law_all_terms:bC K t.fd__law_all_terms ["_law_n"] []
 F__law_by_counts:Fun K "_law_by_counts" "_law_by_counts" aN t.f__law_by_counts t.fd__law_by_counts
 m__law_by_counts:mg "_law_by_counts" = some (.ref t.f__law_by_counts)
 b__law_by_counts:bC K t.fd__law_by_counts ["_law_hand_here","_law_n"] []
 F__law_by_signs:Fun K "_law_by_signs" "_law_by_signs" aM t.f__law_by_signs t.fd__law_by_signs
 m__law_by_signs:mg "_law_by_signs" = some (.ref t.f__law_by_signs)
 b__law_by_signs:bC K t.fd__law_by_signs ["_law_hand_here","_law_n"] []
 F__law_full:Fun K "_law_full" "_law_full" bJ t.f__law_full t.fd__law_full
 m__law_full:mg "_law_full" = some (.ref t.f__law_full)
 b__law_full:bC K t.fd__law_full ["_law_hand_here","_law_n"] []
 F__law_is_whole:Fun K "_law_is_whole" "_law_is_whole" bx t.f__law_is_whole t.fd__law_is_whole
 m__law_is_whole:mg "_law_is_whole" = some (.ref t.f__law_is_whole)
 b__law_is_whole:bC K t.fd__law_is_whole ["_law_thing"] []
 F__law_is_term:Fun K "_law_is_term" "_law_is_term" bi t.f__law_is_term t.fd__law_is_term
 m__law_is_term:mg "_law_is_term" = some (.ref t.f__law_is_term)
 b__law_is_term:bC K t.fd__law_is_term ["_law_thing"] []
 F__law_is_poly:Fun K "_law_is_poly" "_law_is_poly" bu t.f__law_is_poly t.fd__law_is_poly
 m__law_is_poly:mg "_law_is_poly" = some (.ref t.f__law_is_poly)
 b__law_is_poly:bC K t.fd__law_is_poly ["_law_thing"] []
 F__law_right:Fun K "_law_right" "_law_right" bS t.f__law_right t.fd__law_right
 m__law_right:mg "_law_right" = some (.ref t.f__law_right)
 b__law_right:bC K t.fd__law_right ["_law_f","_law_n","_law_kind"] []
 F__law_numbers_right:Fun K "_law_numbers_right" "_law_numbers_right" aI t.f__law_numbers_right t.fd__law_numbers_right
 m__law_numbers_right:mg "_law_numbers_right" = some (.ref t.f__law_numbers_right)
 b__law_numbers_right:bC K t.fd__law_numbers_right ["_law_f","_law_n"] []
 F_law:Fun K "law" "law" jx t.f_law t.fd_law
 m_law:mg "law" = some (.ref t.f_law)
 nB:bC K t.fd_law ["_law_script"] []
 z_all:mg "all" = none
 z_bool:mg "bool" = none
 z_dict:mg "dict" = none
 z_enumerate:mg "enumerate" = none
 z_int:mg "int" = none
 z_isinstance:mg "isinstance" = none
 z_len:mg "len" = none
 z_max:mg "max" = none
 z_min:mg "min" = none
 z_range:mg "range" = none
 z_sorted:mg "sorted" = none
 z_str:mg "str" = none
 z_sum:mg "sum" = none
 z_tuple:mg "tuple" = none
 z_zip:mg "zip" = none
section
variable {P:Program}{w:World}{K:PySem.W.Frag}{mg:Str->Option Value}{base:Heap}{t:Adr}
theorem jC (T:Txt K mg t) (cdv:Value) (A:Around) (outer:List Env) (s:Shared) (H:Hp) (E:XK) (hr:bo (0) (A.deeper (PyProof.Rows.envOfC "power_of_two" (ab bH) s.heap.objs.size t.f_power_of_two cdv))):ISs K (cy CX0 P w K mg base ["k","power","step"] "power_of_two" (ab bH) t.f_power_of_two cdv A outer s H E).nox (ap bH) b_power_of_two:=
 (ao (aS (i:=1) dr.nd rfl (by first | exact Or.inl rfl | exact Or.inr rfl) ak rfl (by first | exact .inl rfl | exact .inr rfl)) (ao (dW (dv rfl T.z_range (aa (iv 0) ag rfl) rfl) (bt (aw (i:=2) dr.nd rfl (by first | exact Or.inl rfl | exact Or.inr rfl))) (aq (aS (i:=1) dr.nd rfl (by first | exact Or.inl rfl | exact Or.inr rfl) (aJ (cP rfl) (iv 1) ak) rfl (by first | exact .inl rfl | exact .inr rfl))) PassesOwn.never rfl (λ_=>rfl)) (aq (aG (iv 1)))))
theorem gL (T:Txt K mg t):aU P w K mg base CX0 1 t.f_power_of_two t.fd_power_of_two ["k"] (spI K m_power_of_two):=
 show aU P w K mg base CX0 1 t.f_power_of_two t.fd_power_of_two ["k"] (spI K (bB (List.length (α:=Str) ["k","power","step"]) (List.length (α:=Str) ["k"]) b_power_of_two)) from dM (N:=["k","power","step"]) (ps:=["k"]) (b:=b_power_of_two) T.F_power_of_two dr (λcdv A outer s H E hr=>jC T cdv A outer s H E hr)
theorem sd (T:Txt K mg t) (cdv:Value) (A:Around) (outer:List Env) (s:Shared) (H:Hp) (E:XK) (hr:bo (1) (A.deeper (PyProof.Rows.envOfC "on_in" (ab eF) s.heap.objs.size t.f_on_in cdv))):ISs K (cy CX0 P w K mg base ["row","k"] "on_in" (ab eF) t.f_on_in cdv A outer s H E).nox (ap eF) b_on_in:=
 (aq (aG (aJ fW (aJ jq (iv 0) (av (gL T) (by decide) hr rfl T.m_power_of_two T.F_power_of_two.kp T.b_power_of_two (aa (iv 1) ag rfl) (by decide) rfl rfl)) ak)))
theorem wA (T:Txt K mg t):aU P w K mg base CX0 2 t.f_on_in t.fd_on_in ["row","k"] (spI K m_on_in):=
 show aU P w K mg base CX0 2 t.f_on_in t.fd_on_in ["row","k"] (spI K (bB (List.length (α:=Str) ["row","k"]) (List.length (α:=Str) ["row","k"]) b_on_in)) from dM (N:=["row","k"]) (ps:=["row","k"]) (b:=b_on_in) T.F_on_in wK (λcdv A outer s H E hr=>sd T cdv A outer s H E hr)
theorem j0 (T:Txt K mg t) (cdv:Value) (A:Around) (outer:List Env) (s:Shared) (H:Hp) (E:XK) (hr:bo (0) (A.deeper (PyProof.Rows.envOfC "switches_of" (ab bR) s.heap.objs.size t.f_switches_of cdv))):ISs K (cy CX0 P w K mg base ["f","many","rows"] "switches_of" (ab bR) t.f_switches_of cdv A outer s H E).nox (ap bR) b_switches_of:=
 (ao (aS (i:=1) cU.nd rfl (by first | exact Or.inl rfl | exact Or.inr rfl) ak rfl (by first | exact .inl rfl | exact .inr rfl)) (ao (aS (i:=2) cU.nd rfl (by first | exact Or.inl rfl | exact Or.inr rfl) ak rfl (by first | exact .inl rfl | exact .inr rfl)) (ao (uR 1000000000000000000000000000000 (b8 nu (iv 2) (cj (er rfl) rfl T.z_len PySem.boot_len (aa (iv 0) ag rfl) (by decide) (by decide) rfl rfl) (bq _)) (ao (aS (i:=2) cU.nd rfl (by first | exact Or.inl rfl | exact Or.inr rfl) (aJ (cP rfl) (iv 2) ak) rfl (by first | exact .inl rfl | exact .inr rfl)) (aq (aS (i:=1) cU.nd rfl (by first | exact Or.inl rfl | exact Or.inr rfl) (aJ (cW rfl) (iv 1) ak) rfl (by first | exact .inl rfl | exact .inr rfl)))) PassesOwn.never) (aq (aG (iv 1))))))
theorem lx (T:Txt K mg t):aU P w K mg base CX0 1 t.f_switches_of t.fd_switches_of ["f"] (spI K m_switches_of):=
 show aU P w K mg base CX0 1 t.f_switches_of t.fd_switches_of ["f"] (spI K (bB (List.length (α:=Str) ["f","many","rows"]) (List.length (α:=Str) ["f"]) b_switches_of)) from dM (N:=["f","many","rows"]) (ps:=["f"]) (b:=b_switches_of) T.F_switches_of cU (λcdv A outer s H E hr=>j0 T cdv A outer s H E hr)
theorem me (T:Txt K mg t) (cdv:Value) (A:Around) (outer:List Env) (s:Shared) (H:Hp) (E:XK) (hr:bo (0) (A.deeper (PyProof.Rows.envOfC "told_rows" (ab cc) s.heap.objs.size t.f_told_rows cdv))):ISs K (cy CX0 P w K mg base ["f"] "told_rows" (ab cc) t.f_told_rows cdv A outer s H E).nox (ap cc) b_told_rows:=
 (aq (aG (eP (gB rfl) rfl T.z_tuple PyProof.Rows.boot_tuple (aa (aL (cR (cN (ab cc).names ["f"] ["row","value"] 2 [] rfl rfl rfl (by decide +kernel)) rfl (by decide) (oa rfl T.z_enumerate (aa (iv 0) ag rfl) rfl rfl) (λ_ _ _ _ _=>(dU (aY (aw (i:=0) (show List.Nodup (α:=Str) ["row","value"] by decide +kernel) rfl (by first | exact Or.inl rfl | exact Or.inr rfl)) (aY (aw (i:=1) (show List.Nodup (α:=Str) ["row","value"] by decide +kernel) rfl (by first | exact Or.inl rfl | exact Or.inr rfl)) cX)) rfl rfl rfl rfl rfl)) (λ_ _ _ _ _=>(kR (b8 xI (iv 1) zW (bq _)))) (λ_ _ _ _ _=>(iv 0)) (λ_=>rfl))) ag rfl) (by decide) (by decide) rfl rfl)))
theorem pd (T:Txt K mg t):aU P w K mg base CX0 1 t.f_told_rows t.fd_told_rows ["f"] (spI K m_told_rows):=
 show aU P w K mg base CX0 1 t.f_told_rows t.fd_told_rows ["f"] (spI K (bB (List.length (α:=Str) ["f"]) (List.length (α:=Str) ["f"]) b_told_rows)) from dM (N:=["f"]) (ps:=["f"]) (b:=b_told_rows) T.F_told_rows oo (λcdv A outer s H E hr=>me T cdv A outer s H E hr)
theorem oz (T:Txt K mg t) (cdv:Value) (A:Around) (outer:List Env) (s:Shared) (H:Hp) (E:XK) (hr:bo (0) (A.deeper (PyProof.Rows.envOfC "sign_at" (ab de) s.heap.objs.size t.f_sign_at cdv))):ISs K (cy CX0 P w K mg base ["f","row"] "sign_at" (ab de) t.f_sign_at cdv A outer s H E).nox (ap de) b_sign_at:=
 (aq (aG (vj (b8 (dP hr rfl) (bM (iv 0) (iv 1) rfl rfl) ak (bq _)) ak (il ak))))
theorem rN (T:Txt K mg t):aU P w K mg base CX0 1 t.f_sign_at t.fd_sign_at ["f","row"] (spI K m_sign_at):=
 show aU P w K mg base CX0 1 t.f_sign_at t.fd_sign_at ["f","row"] (spI K (bB (List.length (α:=Str) ["f","row"]) (List.length (α:=Str) ["f","row"]) b_sign_at)) from dM (N:=["f","row"]) (ps:=["f","row"]) (b:=b_sign_at) T.F_sign_at rK (λcdv A outer s H E hr=>oz T cdv A outer s H E hr)
theorem mX (T:Txt K mg t) (cdv:Value) (A:Around) (outer:List Env) (s:Shared) (H:Hp) (E:XK) (hr:bo (0) (A.deeper (PyProof.Rows.envOfC "terms_to" (ab cw) s.heap.objs.size t.f_terms_to cdv))):ISs K (cy CX0 P w K mg base ["n","size","terms","k"] "terms_to" (ab cw) t.f_terms_to cdv A outer s H E).nox (ap cw) b_terms_to:=
 (ao (aS (i:=2) fN.nd rfl (by first | exact Or.inl rfl | exact Or.inr rfl) (aL (eA (aa (bP ag) ag rfl))) rfl (by first | exact .inl rfl | exact .inr rfl)) (ao (dW (dv rfl T.z_range (aa (iv 0) ag rfl) rfl) (bt (aw (i:=3) fN.nd rfl (by first | exact Or.inl rfl | exact Or.inr rfl))) (aq (aS (i:=2) fN.nd rfl (by first | exact Or.inl rfl | exact Or.inr rfl) (aJ (cW rfl) (iv 2) (aL (cR (cN (ab cw).names ["n","size","terms","k"] ["term","size","k"] 1 [1,3] rfl rfl rfl (by decide +kernel)) rfl (by decide) (cu (iv 2) rfl) (λ_ _ _ _ _=>(bt (aw (i:=0) (show List.Nodup (α:=Str) ["term","size","k"] by decide +kernel) rfl (by first | exact Or.inl rfl | exact Or.inr rfl)))) (λ_ _ _ _ _=>(kR (b8 nu (cj (er rfl) rfl T.z_len PySem.boot_len (aa (iv 0) ag rfl) (by decide) (by decide) rfl rfl) (iv 1) (bq _)))) (λ_ _ _ _ _=>(aJ (cW rfl) (iv 0) (bP (aa (iv 2) ag rfl)))) (λ_=>rfl)))) rfl (by first | exact .inl rfl | exact .inr rfl))) PassesOwn.never rfl (λ_=>rfl)) (aq (aG (eP (gB rfl) rfl T.z_tuple PyProof.Rows.boot_tuple (aa (aL (yz (pF hr rfl) rfl T.z_sorted PyProof.Rows.boot_sorted (aa (iv 2) ag rfl) (by decide) (by decide) rfl rfl)) ag rfl) (by decide) (by decide) rfl rfl)))))
theorem qO (T:Txt K mg t):aU P w K mg base CX0 1 t.f_terms_to t.fd_terms_to ["n","size"] (spI K m_terms_to):=
 show aU P w K mg base CX0 1 t.f_terms_to t.fd_terms_to ["n","size"] (spI K (bB (List.length (α:=Str) ["n","size","terms","k"]) (List.length (α:=Str) ["n","size"]) b_terms_to)) from dM (N:=["n","size","terms","k"]) (ps:=["n","size"]) (b:=b_terms_to) T.F_terms_to fN (λcdv A outer s H E hr=>mX T cdv A outer s H E hr)
theorem nc (T:Txt K mg t) (cdv:Value) (A:Around) (outer:List Env) (s:Shared) (H:Hp) (E:XK) (hr:bo (2) (A.deeper (PyProof.Rows.envOfC "value_of" (ab cv) s.heap.objs.size t.f_value_of cdv))):ISs K (cy CX0 P w K mg base ["kind","term","row","many"] "value_of" (ab cv) t.f_value_of cdv A outer s H E).nox (ap cv) b_value_of:=
 (ao (aS (i:=3) kn.nd rfl (by first | exact Or.inl rfl | exact Or.inr rfl) (cj (lO rfl rfl) rfl T.z_sum PyProof.Rows.boot_sum (aa (aL (cR (cN (ab cv).names ["kind","term","row","many"] ["k","row"] 1 [2] rfl rfl rfl (by decide +kernel)) rfl (by decide) (cu (iv 1) rfl) (λ_ _ _ _ _=>(bt (aw (i:=0) (show List.Nodup (α:=Str) ["k","row"] by decide +kernel) rfl (by first | exact Or.inl rfl | exact Or.inr rfl)))) (λ_ _ _ _ _=>bQ) (λ_ _ _ _ _=>(av (wA T) (by decide) hr rfl T.m_on_in T.F_on_in.kp T.b_on_in (aa (iv 1) (aa (iv 0) ag rfl) rfl) (by decide) rfl rfl)) (λ_=>rfl))) ag rfl) (by decide) (by decide) rfl rfl) rfl (by first | exact .inl rfl | exact .inr rfl)) (ao (dH (b8 (dP hr rfl) (iv 0) cm (bq _)) (aq (aG (vj (b8 (dP hr rfl) (iv 3) (cj (er rfl) rfl T.z_len PySem.boot_len (aa (iv 1) ag rfl) (by decide) (by decide) rfl rfl) (bq _)) ak ak))) b7) (aq (aG (vj (b8 (dP hr rfl) (aJ fW (iv 3) ak) ak (bq _)) (il ak) ak)))))
theorem qe (T:Txt K mg t):aU P w K mg base CX0 3 t.f_value_of t.fd_value_of ["kind","term","row"] (spI K m_value_of):=
 show aU P w K mg base CX0 3 t.f_value_of t.fd_value_of ["kind","term","row"] (spI K (bB (List.length (α:=Str) ["kind","term","row","many"]) (List.length (α:=Str) ["kind","term","row"]) b_value_of)) from dM (N:=["kind","term","row","many"]) (ps:=["kind","term","row"]) (b:=b_value_of) T.F_value_of kn (λcdv A outer s H E hr=>nc T cdv A outer s H E hr)
theorem lP (T:Txt K mg t) (cdv:Value) (A:Around) (outer:List Env) (s:Shared) (H:Hp) (E:XK) (hr:bo (0) (A.deeper (PyProof.Rows.envOfC "poly_from" (ab cb) s.heap.objs.size t.f_poly_from cdv))):ISs K (cy CX0 P w K mg base ["kind","numbers"] "poly_from" (ab cb) t.f_poly_from cdv A outer s H E).nox (ap cb) b_poly_from:=
 (aq (aG (bP (aa (iv 0) (aa (eP (gB rfl) rfl T.z_tuple PyProof.Rows.boot_tuple (aa (aL (cR (cN (ab cb).names ["kind","numbers"] ["term","numbers"] 1 [1] rfl rfl rfl (by decide +kernel)) rfl (by decide) (cu (aL (wf hr rfl T.z_sorted (iv 1) rfl rfl rfl)) rfl) (λ_ _ _ _ _=>(bt (aw (i:=0) (show List.Nodup (α:=Str) ["term","numbers"] by decide +kernel) rfl (by first | exact Or.inl rfl | exact Or.inr rfl)))) (λ_ _ _ _ _=>(kR (b8 (nR hr rfl) (uK hr (iv 1) (iv 0) (λ_ _=>rfl)) ak (bq _)))) (λ_ _ _ _ _=>(bP (aa (iv 0) (aa (uK hr (iv 1) (iv 0) (λ_ _=>rfl)) ag rfl) rfl))) (λ_=>rfl))) ag rfl) (by decide) (by decide) rfl rfl) ag rfl) rfl))))
theorem jp (T:Txt K mg t):aU P w K mg base CX0 1 t.f_poly_from t.fd_poly_from ["kind","numbers"] (spI K m_poly_from):=
 show aU P w K mg base CX0 1 t.f_poly_from t.fd_poly_from ["kind","numbers"] (spI K (bB (List.length (α:=Str) ["kind","numbers"]) (List.length (α:=Str) ["kind","numbers"]) b_poly_from)) from dM (N:=["kind","numbers"]) (ps:=["kind","numbers"]) (b:=b_poly_from) T.F_poly_from oi (λcdv A outer s H E hr=>lP T cdv A outer s H E hr)
theorem lh (T:Txt K mg t) (cdv:Value) (A:Around) (outer:List Env) (s:Shared) (H:Hp) (E:XK) (hr:bo (0) (A.deeper (PyProof.Rows.envOfC "degree_of" (ab ca) s.heap.objs.size t.f_degree_of cdv))):ISs K (cy CX0 P w K mg base ["poly"] "degree_of" (ab ca) t.f_degree_of cdv A outer s H E).nox (ap ca) b_degree_of:=
 (aq (aG (wd rfl T.z_max (aL (cR (cN (ab ca).names ["poly"] ["term","number"] 2 [] rfl rfl rfl (by decide +kernel)) rfl (by decide) (cu (bM (iv 0) ak rfl rfl) rfl) (λ_ _ _ _ _=>(dU (aY (aw (i:=0) (show List.Nodup (α:=Str) ["term","number"] by decide +kernel) rfl (by first | exact Or.inl rfl | exact Or.inr rfl)) (aY (aw (i:=1) (show List.Nodup (α:=Str) ["term","number"] by decide +kernel) rfl (by first | exact Or.inl rfl | exact Or.inr rfl)) cX)) rfl rfl rfl rfl rfl)) (λ_ _ _ _ _=>bQ) (λ_ _ _ _ _=>(cj (er rfl) rfl T.z_len PySem.boot_len (aa (iv 0) ag rfl) (by decide) (by decide) rfl rfl)) (λ_=>rfl))) ak rfl rfl)))
theorem ph (T:Txt K mg t):aU P w K mg base CX0 1 t.f_degree_of t.fd_degree_of ["poly"] (spI K m_degree_of):=
 show aU P w K mg base CX0 1 t.f_degree_of t.fd_degree_of ["poly"] (spI K (bB (List.length (α:=Str) ["poly"]) (List.length (α:=Str) ["poly"]) b_degree_of)) from dM (N:=["poly"]) (ps:=["poly"]) (b:=b_degree_of) T.F_degree_of o9 (λcdv A outer s H E hr=>lh T cdv A outer s H E hr)
theorem mT (T:Txt K mg t) (cdv:Value) (A:Around) (outer:List Env) (s:Shared) (H:Hp) (E:XK) (hr:bo (1) (A.deeper (PyProof.Rows.envOfC "gathered" (ab cG) s.heap.objs.size t.f_gathered cdv))):ISs K (cy CX0 P w K mg base ["kind","parts","numbers","term","number"] "gathered" (ab cG) t.f_gathered cdv A outer s H E).nox (ap cG) b_gathered:=
 (ao (aS (i:=2) fD.nd rfl (by first | exact Or.inl rfl | exact Or.inr rfl) tq rfl (by first | exact .inl rfl | exact .inr rfl)) (ao (wY (iv 1) (cu (iv 1) rfl) (dU (aY (aw (i:=3) fD.nd rfl (by first | exact Or.inl rfl | exact Or.inr rfl)) (aY (aw (i:=4) fD.nd rfl (by first | exact Or.inl rfl | exact Or.inr rfl)) cX)) rfl rfl rfl rfl rfl) (aq (sT hr (iv 2) (iv 3) (aJ (cW rfl) (sw hr (iv 2) (iv 3) ak ⟨rfl,rfl,rfl,rfl⟩) (iv 4)) rfl)) PassesOwn.never rfl (λ_=>rfl) rfl) (aq (aG (av (jp T) (by decide) hr rfl T.m_poly_from T.F_poly_from.kp T.b_poly_from (aa (iv 0) (aa (iv 2) ag rfl) rfl) (by decide) rfl rfl)))))
theorem kt (T:Txt K mg t):aU P w K mg base CX0 2 t.f_gathered t.fd_gathered ["kind","parts"] (spI K m_gathered):=
 show aU P w K mg base CX0 2 t.f_gathered t.fd_gathered ["kind","parts"] (spI K (gZ (List.length (α:=Str) ["kind","parts","numbers","term","number"]) (List.length (α:=Str) ["kind","parts"]) b_gathered)) from t3 (N:=["kind","parts","numbers","term","number"]) (ps:=["kind","parts"]) (b:=b_gathered) T.F_gathered fD (λcdv A outer s H E hr=>mT T cdv A outer s H E hr)
theorem qy (T:Txt K mg t) (cdv:Value) (A:Around) (outer:List Env) (s:Shared) (H:Hp) (E:XK) (hr:bo (0) (A.deeper (PyProof.Rows.envOfC "parted" (ab dl) s.heap.objs.size t.f_parted cdv))):ISs K (cy CX0 P w K mg base ["poly","number"] "parted" (ab dl) t.f_parted cdv A outer s H E).nox (ap dl) b_parted:=
 (aq (aG (bP (aa (bM (iv 0) ak rfl rfl) (aa (eP (gB rfl) rfl T.z_tuple PyProof.Rows.boot_tuple (aa (aL (cR (cN (ab dl).names ["poly","number"] ["term","times","number"] 2 [1] rfl rfl rfl (by decide +kernel)) rfl (by decide) (cu (bM (iv 0) ak rfl rfl) rfl) (λ_ _ _ _ _=>(dU (aY (aw (i:=0) (show List.Nodup (α:=Str) ["term","times","number"] by decide +kernel) rfl (by first | exact Or.inl rfl | exact Or.inr rfl)) (aY (aw (i:=1) (show List.Nodup (α:=Str) ["term","times","number"] by decide +kernel) rfl (by first | exact Or.inl rfl | exact Or.inr rfl)) cX)) rfl rfl rfl rfl rfl)) (λ_ _ _ _ _=>bQ) (λ_ _ _ _ _=>(bP (aa (iv 0) (aa (aJ jq (iv 1) (iv 2)) ag rfl) rfl))) (λ_=>rfl))) ag rfl) (by decide) (by decide) rfl rfl) ag rfl) rfl))))
theorem tU (T:Txt K mg t):aU P w K mg base CX0 1 t.f_parted t.fd_parted ["poly","number"] (spI K m_parted):=
 show aU P w K mg base CX0 1 t.f_parted t.fd_parted ["poly","number"] (spI K (bB (List.length (α:=Str) ["poly","number"]) (List.length (α:=Str) ["poly","number"]) b_parted)) from dM (N:=["poly","number"]) (ps:=["poly","number"]) (b:=b_parted) T.F_parted ud (λcdv A outer s H E hr=>qy T cdv A outer s H E hr)
theorem qM (T:Txt K mg t) (cdv:Value) (A:Around) (outer:List Env) (s:Shared) (H:Hp) (E:XK) (hr:bo (0) (A.deeper (PyProof.Rows.envOfC "spread" (ab dn) s.heap.objs.size t.f_spread cdv))):ISs K (cy CX0 P w K mg base ["term","number","step","parts","k"] "spread" (ab dn) t.f_spread cdv A outer s H E).nox (ap dn) b_spread:=
 (ao (aS (i:=3) iu.nd rfl (by first | exact Or.inl rfl | exact Or.inr rfl) (aL (eA (aa (bP (aa (bP ag) (aa (iv 1) ag rfl) rfl)) ag rfl))) rfl (by first | exact .inl rfl | exact .inr rfl)) (ao (dW (cu (iv 0) rfl) (bt (aw (i:=4) iu.nd rfl (by first | exact Or.inl rfl | exact Or.inr rfl))) (aq (aS (i:=3) iu.nd rfl (by first | exact Or.inl rfl | exact Or.inr rfl) (aJ (cW rfl) (iv 3) (aL (cR (cN (ab dn).names ["term","number","step","parts","k"] ["within","times","k","step"] 2 [4,2] rfl rfl rfl (by decide +kernel)) rfl (by decide) (cu (iv 3) rfl) (λ_ _ _ _ _=>(dU (aY (aw (i:=0) (show List.Nodup (α:=Str) ["within","times","k","step"] by decide +kernel) rfl (by first | exact Or.inl rfl | exact Or.inr rfl)) (aY (aw (i:=1) (show List.Nodup (α:=Str) ["within","times","k","step"] by decide +kernel) rfl (by first | exact Or.inl rfl | exact Or.inr rfl)) cX)) rfl rfl rfl rfl rfl)) (λ_ _ _ _ _=>bQ) (λ_ _ _ _ _=>(bP (aa (aJ (cW rfl) (iv 0) (bP (aa (iv 2) ag rfl))) (aa (aJ (cP rfl) (iv 1) (iv 3)) ag rfl) rfl))) (λ_=>rfl)))) rfl (by first | exact .inl rfl | exact .inr rfl))) PassesOwn.never rfl (λ_=>rfl)) (aq (aG (iv 3)))))
theorem nP (T:Txt K mg t):aU P w K mg base CX0 1 t.f_spread t.fd_spread ["term","number","step"] (spI K m_spread):=
 show aU P w K mg base CX0 1 t.f_spread t.fd_spread ["term","number","step"] (spI K (bB (List.length (α:=Str) ["term","number","step","parts","k"]) (List.length (α:=Str) ["term","number","step"]) b_spread)) from dM (N:=["term","number","step","parts","k"]) (ps:=["term","number","step"]) (b:=b_spread) T.F_spread iu (λcdv A outer s H E hr=>qM T cdv A outer s H E hr)
theorem i8 (T:Txt K mg t) (cdv:Value) (A:Around) (outer:List Env) (s:Shared) (H:Hp) (E:XK) (hr:bo (2) (A.deeper (PyProof.Rows.envOfC "odd_from_both" (ab bz) s.heap.objs.size t.f_odd_from_both cdv))):ISs K (cy CX0 P w K mg base ["poly","degree","parts","term","number"] "odd_from_both" (ab bz) t.f_odd_from_both cdv A outer s H E).nox (ap bz) b_odd_from_both:=
 (ao (aS (i:=1) cB.nd rfl (by first | exact Or.inl rfl | exact Or.inr rfl) (av (ph T) (by decide) hr rfl T.m_degree_of T.F_degree_of.kp T.b_degree_of (aa (iv 0) ag rfl) (by decide) rfl rfl) rfl (by first | exact .inl rfl | exact .inr rfl)) (ao (aS (i:=2) cB.nd rfl (by first | exact Or.inl rfl | exact Or.inr rfl) (rV (eA ag)) rfl (by first | exact .inl rfl | exact .inr rfl)) (ao (dW (cu (bM (iv 0) ak rfl rfl) rfl) (dU (aY (aw (i:=3) cB.nd rfl (by first | exact Or.inl rfl | exact Or.inr rfl)) (aY (aw (i:=4) cB.nd rfl (by first | exact Or.inl rfl | exact Or.inr rfl)) cX)) rfl rfl rfl rfl rfl) (aq (sK (sn (iv 2) (aa (av (nP T) (by decide) hr rfl T.m_spread T.F_spread.kp T.b_spread (aa (iv 3) (aa (aJ (cP rfl) (iv 4) (av (gL T) (by decide) hr rfl T.m_power_of_two T.F_power_of_two.kp T.b_power_of_two (aa (aJ oS (iv 1) (cj (er rfl) rfl T.z_len PySem.boot_len (aa (iv 3) ag rfl) (by decide) (by decide) rfl rfl)) ag rfl) (by decide) rfl rfl)) (aa (il ak) ag rfl) rfl) rfl) (by decide) rfl rfl) ag rfl) rfl rfl (by decide) rfl rfl) rfl)) PassesOwn.never rfl (λ_=>rfl)) (aq (aG (av (kt T) (by decide) hr rfl T.m_gathered T.F_gathered.kp T.b_gathered (aa cm (aa (iv 2) ag rfl) rfl) (by decide) rfl rfl))))))
theorem j6 (T:Txt K mg t):aU P w K mg base CX0 3 t.f_odd_from_both t.fd_odd_from_both ["poly"] (spI K m_odd_from_both):=
 show aU P w K mg base CX0 3 t.f_odd_from_both t.fd_odd_from_both ["poly"] (spI K (gZ (List.length (α:=Str) ["poly","degree","parts","term","number"]) (List.length (α:=Str) ["poly"]) b_odd_from_both)) from t3 (N:=["poly","degree","parts","term","number"]) (ps:=["poly"]) (b:=b_odd_from_both) T.F_odd_from_both cB (λcdv A outer s H E hr=>i8 T cdv A outer s H E hr)
theorem iY (T:Txt K mg t) (cdv:Value) (A:Around) (outer:List Env) (s:Shared) (H:Hp) (E:XK) (hr:bo (2) (A.deeper (PyProof.Rows.envOfC "both_from_odd" (ab bw) s.heap.objs.size t.f_both_from_odd cdv))):ISs K (cy CX0 P w K mg base ["poly","parts","term","number"] "both_from_odd" (ab bw) t.f_both_from_odd cdv A outer s H E).nox (ap bw) b_both_from_odd:=
 (ao (aS (i:=1) db.nd rfl (by first | exact Or.inl rfl | exact Or.inr rfl) (rV (eA ag)) rfl (by first | exact .inl rfl | exact .inr rfl)) (ao (dW (cu (bM (iv 0) ak rfl rfl) rfl) (dU (aY (aw (i:=2) db.nd rfl (by first | exact Or.inl rfl | exact Or.inr rfl)) (aY (aw (i:=3) db.nd rfl (by first | exact Or.inl rfl | exact Or.inr rfl)) cX)) rfl rfl rfl rfl rfl) (aq (sK (sn (iv 1) (aa (av (nP T) (by decide) hr rfl T.m_spread T.F_spread.kp T.b_spread (aa (iv 2) (aa (iv 3) (aa (il ak) ag rfl) rfl) rfl) (by decide) rfl rfl) ag rfl) rfl rfl (by decide) rfl rfl) rfl)) PassesOwn.never rfl (λ_=>rfl)) (aq (aG (av (kt T) (by decide) hr rfl T.m_gathered T.F_gathered.kp T.b_gathered (aa cm (aa (iv 1) ag rfl) rfl) (by decide) rfl rfl)))))
theorem ka (T:Txt K mg t):aU P w K mg base CX0 3 t.f_both_from_odd t.fd_both_from_odd ["poly"] (spI K m_both_from_odd):=
 show aU P w K mg base CX0 3 t.f_both_from_odd t.fd_both_from_odd ["poly"] (spI K (gZ (List.length (α:=Str) ["poly","parts","term","number"]) (List.length (α:=Str) ["poly"]) b_both_from_odd)) from t3 (N:=["poly","parts","term","number"]) (ps:=["poly"]) (b:=b_both_from_odd) T.F_both_from_odd db (λcdv A outer s H E hr=>iY T cdv A outer s H E hr)
theorem kA (T:Txt K mg t) (cdv:Value) (A:Around) (outer:List Env) (s:Shared) (H:Hp) (E:XK) (hr:bo (3) (A.deeper (PyProof.Rows.envOfC "other_kind" (ab b6) s.heap.objs.size t.f_other_kind cdv))):ISs K (cy CX0 P w K mg base ["poly"] "other_kind" (ab b6) t.f_other_kind cdv A outer s H E).nox (ap b6) b_other_kind:=
 (ao (dH (b8 (dP hr rfl) (bM (iv 0) ak rfl rfl) cm (bq _)) (aq (aG (av (j6 T) (by decide) hr rfl T.m_odd_from_both T.F_odd_from_both.kp T.b_odd_from_both (aa (iv 0) ag rfl) (by decide) rfl rfl))) b7) (aq (aG (av (ka T) (by decide) hr rfl T.m_both_from_odd T.F_both_from_odd.kp T.b_both_from_odd (aa (iv 0) ag rfl) (by decide) rfl rfl))))
theorem m8 (T:Txt K mg t):aU P w K mg base CX0 4 t.f_other_kind t.fd_other_kind ["poly"] (spI K m_other_kind):=
 show aU P w K mg base CX0 4 t.f_other_kind t.fd_other_kind ["poly"] (spI K (bB (List.length (α:=Str) ["poly"]) (List.length (α:=Str) ["poly"]) b_other_kind)) from dM (N:=["poly"]) (ps:=["poly"]) (b:=b_other_kind) T.F_other_kind mZ (λcdv A outer s H E hr=>kA T cdv A outer s H E hr)
theorem ji (T:Txt K mg t) (cdv:Value) (A:Around) (outer:List Env) (s:Shared) (H:Hp) (E:XK) (hr:bo (3) (A.deeper (PyProof.Rows.envOfC "signed_value" (ab bG) s.heap.objs.size t.f_signed_value cdv))):ISs K (cy CX0 P w K mg base ["f","kind","term","row"] "signed_value" (ab bG) t.f_signed_value cdv A outer s H E).nox (ap bG) b_signed_value:=
 (aq (aG (aJ (cP rfl) (av (rN T) (by decide) hr rfl T.m_sign_at T.F_sign_at.kp T.b_sign_at (aa (iv 0) (aa (iv 3) ag rfl) rfl) (by decide) rfl rfl) (av (qe T) (by decide) hr rfl T.m_value_of T.F_value_of.kp T.b_value_of (aa (iv 1) (aa (iv 2) (aa (iv 3) ag rfl) rfl) rfl) (by decide) rfl rfl))))
theorem kJ (T:Txt K mg t):aU P w K mg base CX0 4 t.f_signed_value t.fd_signed_value ["f","kind","term","row"] (spI K m_signed_value):=
 show aU P w K mg base CX0 4 t.f_signed_value t.fd_signed_value ["f","kind","term","row"] (spI K (bB (List.length (α:=Str) ["f","kind","term","row"]) (List.length (α:=Str) ["f","kind","term","row"]) b_signed_value)) from dM (N:=["f","kind","term","row"]) (ps:=["f","kind","term","row"]) (b:=b_signed_value) T.F_signed_value kD (λcdv A outer s H E hr=>ji T cdv A outer s H E hr)
theorem qT (T:Txt K mg t) (cdv:Value) (A:Around) (outer:List Env) (s:Shared) (H:Hp) (E:XK) (hr:bo (4) (A.deeper (PyProof.Rows.envOfC "sum_by" (ab dj) s.heap.objs.size t.f_sum_by cdv))):ISs K (cy CX0 P w K mg base ["f","kind","term"] "sum_by" (ab dj) t.f_sum_by cdv A outer s H E).nox (ap dj) b_sum_by:=
 (aq (aG (cj (lO rfl rfl) rfl T.z_sum PyProof.Rows.boot_sum (aa (aL (cR (cN (ab dj).names ["f","kind","term"] ["row","f","kind","term"] 1 [0,1,2] rfl rfl rfl (by decide +kernel)) rfl (by decide) (cu (av (pd T) (by decide) hr rfl T.m_told_rows T.F_told_rows.kp T.b_told_rows (aa (iv 0) ag rfl) (by decide) rfl rfl) rfl) (λ_ _ _ _ _=>(bt (aw (i:=0) (show List.Nodup (α:=Str) ["row","f","kind","term"] by decide +kernel) rfl (by first | exact Or.inl rfl | exact Or.inr rfl)))) (λ_ _ _ _ _=>bQ) (λ_ _ _ _ _=>(av (kJ T) (by decide) hr rfl T.m_signed_value T.F_signed_value.kp T.b_signed_value (aa (iv 1) (aa (iv 2) (aa (iv 3) (aa (iv 0) ag rfl) rfl) rfl) rfl) (by decide) rfl rfl)) (λ_=>rfl))) ag rfl) (by decide) (by decide) rfl rfl)))
theorem uC (T:Txt K mg t):aU P w K mg base CX0 5 t.f_sum_by t.fd_sum_by ["f","kind","term"] (spI K m_sum_by):=
 show aU P w K mg base CX0 5 t.f_sum_by t.fd_sum_by ["f","kind","term"] (spI K (bB (List.length (α:=Str) ["f","kind","term"]) (List.length (α:=Str) ["f","kind","term"]) b_sum_by)) from dM (N:=["f","kind","term"]) (ps:=["f","kind","term"]) (b:=b_sum_by) T.F_sum_by uz (λcdv A outer s H E hr=>qT T cdv A outer s H E hr)
theorem jn (T:Txt K mg t) (cdv:Value) (A:Around) (outer:List Env) (s:Shared) (H:Hp) (E:XK) (hr:bo (5) (A.deeper (PyProof.Rows.envOfC "exact_by_odd" (ab bD) s.heap.objs.size t.f_exact_by_odd cdv))):ISs K (cy CX0 P w K mg base ["f","n","numbers","term"] "exact_by_odd" (ab bD) t.f_exact_by_odd cdv A outer s H E).nox (ap bD) b_exact_by_odd:=
 (ao (aS (i:=1) du.nd rfl (by first | exact Or.inl rfl | exact Or.inr rfl) (av (lx T) (by decide) hr rfl T.m_switches_of T.F_switches_of.kp T.b_switches_of (aa (iv 0) ag rfl) (by decide) rfl rfl) rfl (by first | exact .inl rfl | exact .inr rfl)) (ao (aS (i:=2) du.nd rfl (by first | exact Or.inl rfl | exact Or.inr rfl) tq rfl (by first | exact .inl rfl | exact .inr rfl)) (ao (dW (cu (av (qO T) (by decide) hr rfl T.m_terms_to T.F_terms_to.kp T.b_terms_to (aa (iv 1) (aa (iv 1) ag rfl) rfl) (by decide) rfl rfl) rfl) (bt (aw (i:=3) du.nd rfl (by first | exact Or.inl rfl | exact Or.inr rfl))) (aq (sT hr (iv 2) (iv 3) (av (uC T) (by decide) hr rfl T.m_sum_by T.F_sum_by.kp T.b_sum_by (aa (iv 0) (aa cm (aa (iv 3) ag rfl) rfl) rfl) (by decide) rfl rfl) rfl)) PassesOwn.never rfl (λ_=>rfl)) (aq (aG (av (jp T) (by decide) hr rfl T.m_poly_from T.F_poly_from.kp T.b_poly_from (aa cm (aa (iv 2) ag rfl) rfl) (by decide) rfl rfl))))))
theorem kC (T:Txt K mg t):aU P w K mg base CX0 6 t.f_exact_by_odd t.fd_exact_by_odd ["f"] (spI K m_exact_by_odd):=
 show aU P w K mg base CX0 6 t.f_exact_by_odd t.fd_exact_by_odd ["f"] (spI K (gZ (List.length (α:=Str) ["f","n","numbers","term"]) (List.length (α:=Str) ["f"]) b_exact_by_odd)) from t3 (N:=["f","n","numbers","term"]) (ps:=["f"]) (b:=b_exact_by_odd) T.F_exact_by_odd du (λcdv A outer s H E hr=>jn T cdv A outer s H E hr)
theorem ni (T:Txt K mg t) (cdv:Value) (A:Around) (outer:List Env) (s:Shared) (H:Hp) (E:XK) (hr:bo (6) (A.deeper (PyProof.Rows.envOfC "exact_of" (ab cI) s.heap.objs.size t.f_exact_of cdv))):ISs K (cy CX0 P w K mg base ["f","kind","by_odd"] "exact_of" (ab cI) t.f_exact_of cdv A outer s H E).nox (ap cI) b_exact_of:=
 (ao (aS (i:=2) kq.nd rfl (by first | exact Or.inl rfl | exact Or.inr rfl) (av (kC T) (by decide) hr rfl T.m_exact_by_odd T.F_exact_by_odd.kp T.b_exact_by_odd (aa (iv 0) ag rfl) (by decide) rfl rfl) rfl (by first | exact .inl rfl | exact .inr rfl)) (ao (dH (b8 (dP hr rfl) (iv 1) cm (bq _)) (aq (aG (iv 2))) b7) (aq (aG (av (tU T) (by decide) hr rfl T.m_parted T.F_parted.kp T.b_parted (aa (av (m8 T) (by decide) hr rfl T.m_other_kind T.F_other_kind.kp T.b_other_kind (aa (iv 2) ag rfl) (by decide) rfl rfl) (aa (cj (er rfl) rfl T.z_len PySem.boot_len (aa (iv 0) ag rfl) (by decide) (by decide) rfl rfl) ag rfl) rfl) (by decide) rfl rfl)))))
theorem fB (T:Txt K mg t):aU P w K mg base CX0 7 t.f_exact_of t.fd_exact_of ["f","kind"] (spI K m_exact_of):=
 show aU P w K mg base CX0 7 t.f_exact_of t.fd_exact_of ["f","kind"] (spI K (bB (List.length (α:=Str) ["f","kind","by_odd"]) (List.length (α:=Str) ["f","kind"]) b_exact_of)) from dM (N:=["f","kind","by_odd"]) (ps:=["f","kind"]) (b:=b_exact_of) T.F_exact_of kq (λcdv A outer s H E hr=>ni T cdv A outer s H E hr)
theorem lc (T:Txt K mg t) (cdv:Value) (A:Around) (outer:List Env) (s:Shared) (H:Hp) (E:XK) (hr:bo (0) (A.deeper (PyProof.Rows.envOfC "_law_hand" (ab cp) s.heap.objs.size t.f__law_hand cdv))):ISs K (cy CX0 P w K mg base ["_law_script","_law_k","_law_cell"] "_law_hand" (ab cp) t.f__law_hand cdv A outer s H E).nox (ap cp) b__law_hand:=
 (ao (aS (i:=2) gx.nd rfl (by first | exact Or.inl rfl | exact Or.inr rfl) ak rfl (by first | exact .inl rfl | exact .inr rfl)) (ao (dH (b8 nu (iv 1) (cj (er rfl) rfl T.z_len PySem.boot_len (aa (iv 0) ag rfl) (by decide) (by decide) rfl rfl) (bq _)) (aq (aS (i:=2) gx.nd rfl (by first | exact Or.inl rfl | exact Or.inr rfl) (bM (iv 0) (iv 1) rfl rfl) rfl (by first | exact .inl rfl | exact .inr rfl))) b7) (aq (aG (rV (eA (aa (bM (aL (eA (aa ak (aa (iv 2) ag rfl) rfl))) (eP jU rfl T.z_int PyProof.Rows.boot_int (aa (fU AU (iv 2) (aJ zl ak ak) (bq _)) ag rfl) (by decide) (by decide) rfl rfl) rfl rfl) (aa (aJ (cW rfl) (aJ (cW rfl) (aJ fW (iv 2) ak) (aJ (cP rfl) ak (iv 1))) ak) (aa ak ag rfl) rfl) rfl)))))))
theorem pf (T:Txt K mg t):aU P w K mg base CX0 1 t.f__law_hand t.fd__law_hand ["_law_script","_law_k"] (spI K m__law_hand):=
 show aU P w K mg base CX0 1 t.f__law_hand t.fd__law_hand ["_law_script","_law_k"] (spI K (bB (List.length (α:=Str) ["_law_script","_law_k","_law_cell"]) (List.length (α:=Str) ["_law_script","_law_k"]) b__law_hand)) from dM (N:=["_law_script","_law_k","_law_cell"]) (ps:=["_law_script","_law_k"]) (b:=b__law_hand) T.F__law_hand gx (λcdv A outer s H E hr=>lc T cdv A outer s H E hr)
theorem lE (T:Txt K mg t) (cdv:Value) (A:Around) (outer:List Env) (s:Shared) (H:Hp) (E:XK) (hr:bo (0) (A.deeper (PyProof.Rows.envOfC "_law_take" (ab cn) s.heap.objs.size t.f__law_take cdv))):ISs K (cy CX0 P w K mg base ["_law_hand_here","_law_many","_law_digit","_law_turn","_law_mixed","_law_other"] "_law_take" (ab cn) t.f__law_take cdv A outer s H E).nox (ap cn) b__law_take:=
 (ao (dH (b8 yB (bM (iv 0) ak rfl rfl) ak (bq _)) (ao (aS (i:=2) da.nd rfl (by first | exact Or.inl rfl | exact Or.inr rfl) (aJ fW (bM (iv 0) ak rfl rfl) (iv 1)) rfl (by first | exact .inl rfl | exact .inr rfl)) (ao (pR (iv 0) ak (aJ jq (bM (iv 0) ak rfl rfl) (iv 1)) rfl rfl rfl) (aq (aG (iv 2))))) b7) (ao (pR (iv 0) ak (aJ (cW rfl) (bM (iv 0) ak rfl rfl) ak) rfl rfl rfl) (ao (aS (i:=3) da.nd rfl (by first | exact Or.inl rfl | exact Or.inr rfl) (bM (iv 0) ak rfl rfl) rfl (by first | exact .inl rfl | exact .inr rfl)) (ao (aS (i:=4) da.nd rfl (by first | exact Or.inl rfl | exact Or.inr rfl) (aJ fW (aJ (cP rfl) (bM (iv 0) ak rfl rfl) (aJ (cW rfl) (aJ (cW rfl) ak (aJ (cP rfl) (aJ (cP rfl) ak (iv 3)) (iv 3))) (aJ (cP rfl) ak (iv 3)))) ak) rfl (by first | exact .inl rfl | exact .inr rfl)) (ao (aS (i:=5) da.nd rfl (by first | exact Or.inl rfl | exact Or.inr rfl) (aJ (cW rfl) (aJ (cW rfl) (aJ fW (iv 4) ak) (aJ (cP rfl) (iv 3) ak)) ak) rfl (by first | exact .inl rfl | exact .inr rfl)) (ao (aS (i:=4) da.nd rfl (by first | exact Or.inl rfl | exact Or.inr rfl) (aJ fW (aJ (cP rfl) (iv 4) (iv 5)) ak) rfl (by first | exact .inl rfl | exact .inr rfl)) (aq (aG (aJ fW (aJ (cW rfl) (aJ jq (iv 4) ak) (aJ jq (iv 4) ak)) (iv 1))))))))))
theorem cH (T:Txt K mg t):aU P w K mg base CX0 1 t.f__law_take t.fd__law_take ["_law_hand_here","_law_many"] (spI K m__law_take):=
 show aU P w K mg base CX0 1 t.f__law_take t.fd__law_take ["_law_hand_here","_law_many"] (spI K (bB (List.length (α:=Str) ["_law_hand_here","_law_many","_law_digit","_law_turn","_law_mixed","_law_other"]) (List.length (α:=Str) ["_law_hand_here","_law_many"]) b__law_take)) from dM (N:=["_law_hand_here","_law_many","_law_digit","_law_turn","_law_mixed","_law_other"]) (ps:=["_law_hand_here","_law_many"]) (b:=b__law_take) T.F__law_take da (λcdv A outer s H E hr=>lE T cdv A outer s H E hr)
theorem lU (T:Txt K mg t) (cdv:Value) (A:Around) (outer:List Env) (s:Shared) (H:Hp) (E:XK) (hr:bo (1) (A.deeper (PyProof.Rows.envOfC "_law_pick" (ab cr) s.heap.objs.size t.f__law_pick cdv))):ISs K (cy CX0 P w K mg base ["_law_hand_here","_law_some"] "_law_pick" (ab cr) t.f__law_pick cdv A outer s H E).nox (ap cr) b__law_pick:=
 (aq (aG (bM (iv 1) (av (cH T) (by decide) hr rfl T.m__law_take T.F__law_take.kp T.b__law_take (aa (iv 0) (aa (cj (er rfl) rfl T.z_len PySem.boot_len (aa (iv 1) ag rfl) (by decide) (by decide) rfl rfl) ag rfl) rfl) (by decide) rfl rfl) rfl rfl)))
theorem jr (T:Txt K mg t):aU P w K mg base CX0 2 t.f__law_pick t.fd__law_pick ["_law_hand_here","_law_some"] (spI K m__law_pick):=
 show aU P w K mg base CX0 2 t.f__law_pick t.fd__law_pick ["_law_hand_here","_law_some"] (spI K (bB (List.length (α:=Str) ["_law_hand_here","_law_some"]) (List.length (α:=Str) ["_law_hand_here","_law_some"]) b__law_pick)) from dM (N:=["_law_hand_here","_law_some"]) (ps:=["_law_hand_here","_law_some"]) (b:=b__law_pick) T.F__law_pick oH (λcdv A outer s H E hr=>lU T cdv A outer s H E hr)
theorem hU (T:Txt K mg t) (cdv:Value) (A:Around) (outer:List Env) (s:Shared) (H:Hp) (E:XK) (hr:bo (0) (A.deeper (PyProof.Rows.envOfC "_law_term_value" (ab bh) s.heap.objs.size t.f__law_term_value cdv))):ISs K (cy CX0 P w K mg base ["_law_kind","_law_term","_law_row","_law_value_here","_law_k","_law_on"] "_law_term_value" (ab bh) t.f__law_term_value cdv A outer s H E).nox (ap bh) b__law_term_value:=
 (ao (aS (i:=3) cg.nd rfl (by first | exact Or.inl rfl | exact Or.inr rfl) ak rfl (by first | exact .inl rfl | exact .inr rfl)) (ao (dW (cu (iv 1) rfl) (bt (aw (i:=4) cg.nd rfl (by first | exact Or.inl rfl | exact Or.inr rfl))) (ao (aS (i:=5) cg.nd rfl (by first | exact Or.inl rfl | exact Or.inr rfl) (aJ fW (aJ uO (iv 2) (iv 4)) ak) rfl (by first | exact .inl rfl | exact .inr rfl)) (aq (aS (i:=3) cg.nd rfl (by first | exact Or.inl rfl | exact Or.inr rfl) (aJ (cP rfl) (iv 3) (bM (aL (eA (aa (aJ oS ak (aJ (cP rfl) ak (iv 5))) (aa (iv 5) ag rfl) rfl))) (eP jU rfl T.z_int PyProof.Rows.boot_int (aa (fU (dP hr rfl) (iv 0) cm (bq _)) ag rfl) (by decide) (by decide) rfl rfl) rfl rfl)) rfl (by first | exact .inl rfl | exact .inr rfl)))) PassesOwn.never rfl (λ_=>rfl)) (aq (aG (iv 3)))))
theorem cK (T:Txt K mg t):aU P w K mg base CX0 1 t.f__law_term_value t.fd__law_term_value ["_law_kind","_law_term","_law_row"] (spI K m__law_term_value):=
 show aU P w K mg base CX0 1 t.f__law_term_value t.fd__law_term_value ["_law_kind","_law_term","_law_row"] (spI K (bB (List.length (α:=Str) ["_law_kind","_law_term","_law_row","_law_value_here","_law_k","_law_on"]) (List.length (α:=Str) ["_law_kind","_law_term","_law_row"]) b__law_term_value)) from dM (N:=["_law_kind","_law_term","_law_row","_law_value_here","_law_k","_law_on"]) (ps:=["_law_kind","_law_term","_law_row"]) (b:=b__law_term_value) T.F__law_term_value cg (λcdv A outer s H E hr=>hU T cdv A outer s H E hr)
theorem kI (T:Txt K mg t) (cdv:Value) (A:Around) (outer:List Env) (s:Shared) (H:Hp) (E:XK) (hr:bo (1) (A.deeper (PyProof.Rows.envOfC "_law_value" (ab bT) s.heap.objs.size t.f__law_value cdv))):ISs K (cy CX0 P w K mg base ["_law_poly","_law_row"] "_law_value" (ab bT) t.f__law_value cdv A outer s H E).nox (ap bT) b__law_value:=
 (aq (aG (cj (lO rfl rfl) rfl T.z_sum PyProof.Rows.boot_sum (aa (aL (cR (cN (ab bT).names ["_law_poly","_law_row"] ["_law_term","_law_number","_law_poly","_law_row"] 2 [0,1] rfl rfl rfl (by decide +kernel)) rfl (by decide) (cu (bM (iv 0) ak rfl rfl) rfl) (λ_ _ _ _ _=>(dU (aY (aw (i:=0) (show List.Nodup (α:=Str) ["_law_term","_law_number","_law_poly","_law_row"] by decide +kernel) rfl (by first | exact Or.inl rfl | exact Or.inr rfl)) (aY (aw (i:=1) (show List.Nodup (α:=Str) ["_law_term","_law_number","_law_poly","_law_row"] by decide +kernel) rfl (by first | exact Or.inl rfl | exact Or.inr rfl)) cX)) rfl rfl rfl rfl rfl)) (λ_ _ _ _ _=>bQ) (λ_ _ _ _ _=>(aJ (cP rfl) (iv 1) (av (cK T) (by decide) hr rfl T.m__law_term_value T.F__law_term_value.kp T.b__law_term_value (aa (bM (iv 2) ak rfl rfl) (aa (iv 0) (aa (iv 3) ag rfl) rfl) rfl) (by decide) rfl rfl))) (λ_=>rfl))) ag rfl) (by decide) (by decide) rfl rfl)))
theorem mS (T:Txt K mg t):aU P w K mg base CX0 2 t.f__law_value t.fd__law_value ["_law_poly","_law_row"] (spI K m__law_value):=
 show aU P w K mg base CX0 2 t.f__law_value t.fd__law_value ["_law_poly","_law_row"] (spI K (bB (List.length (α:=Str) ["_law_poly","_law_row"]) (List.length (α:=Str) ["_law_poly","_law_row"]) b__law_value)) from dM (N:=["_law_poly","_law_row"]) (ps:=["_law_poly","_law_row"]) (b:=b__law_value) T.F__law_value mW (λcdv A outer s H E hr=>kI T cdv A outer s H E hr)
theorem iG (T:Txt K mg t) (cdv:Value) (A:Around) (outer:List Env) (s:Shared) (H:Hp) (E:XK) (hr:bo (0) (A.deeper (PyProof.Rows.envOfC "_law_all_terms" (ab bd) s.heap.objs.size t.f__law_all_terms cdv))):ISs K (cy CX0 P w K mg base ["_law_n","_law_found","_law_k"] "_law_all_terms" (ab bd) t.f__law_all_terms cdv A outer s H E).nox (ap bd) b__law_all_terms:=
 (ao (aS (i:=1) cQ.nd rfl (by first | exact Or.inl rfl | exact Or.inr rfl) (aL (eA (aa (bP ag) ag rfl))) rfl (by first | exact .inl rfl | exact .inr rfl)) (ao (dW (dv rfl T.z_range (aa (iv 0) ag rfl) rfl) (bt (aw (i:=2) cQ.nd rfl (by first | exact Or.inl rfl | exact Or.inr rfl))) (aq (aS (i:=1) cQ.nd rfl (by first | exact Or.inl rfl | exact Or.inr rfl) (aJ (cW rfl) (iv 1) (aL (cR (cN (ab bd).names ["_law_n","_law_found","_law_k"] ["_law_term","_law_k"] 1 [2] rfl rfl rfl (by decide +kernel)) rfl (by decide) (cu (iv 1) rfl) (λ_ _ _ _ _=>(bt (aw (i:=0) (show List.Nodup (α:=Str) ["_law_term","_law_k"] by decide +kernel) rfl (by first | exact Or.inl rfl | exact Or.inr rfl)))) (λ_ _ _ _ _=>bQ) (λ_ _ _ _ _=>(aJ (cW rfl) (iv 0) (bP (aa (iv 1) ag rfl)))) (λ_=>rfl)))) rfl (by first | exact .inl rfl | exact .inr rfl))) PassesOwn.never rfl (λ_=>rfl)) (aq (aG (aL (yz (pF hr rfl) rfl T.z_sorted PyProof.Rows.boot_sorted (aa (iv 1) ag rfl) (by decide) (by decide) rfl rfl))))))
theorem dJ (T:Txt K mg t):aU P w K mg base CX0 1 t.f__law_all_terms t.fd__law_all_terms ["_law_n"] (spI K m__law_all_terms):=
 show aU P w K mg base CX0 1 t.f__law_all_terms t.fd__law_all_terms ["_law_n"] (spI K (bB (List.length (α:=Str) ["_law_n","_law_found","_law_k"]) (List.length (α:=Str) ["_law_n"]) b__law_all_terms)) from dM (N:=["_law_n","_law_found","_law_k"]) (ps:=["_law_n"]) (b:=b__law_all_terms) T.F__law_all_terms cQ (λcdv A outer s H E hr=>iG T cdv A outer s H E hr)
theorem iE (T:Txt K mg t) (cdv:Value) (A:Around) (outer:List Env) (s:Shared) (H:Hp) (E:XK) (hr:bo (1) (A.deeper (PyProof.Rows.envOfC "_law_by_counts" (ab aN) s.heap.objs.size t.f__law_by_counts cdv))):ISs K (cy CX0 P w K mg base ["_law_hand_here","_law_n","_law_row"] "_law_by_counts" (ab aN) t.f__law_by_counts cdv A outer s H E).nox (ap aN) b__law_by_counts:=
 (ao (aS (i:=2) fM.nd rfl (by first | exact Or.inl rfl | exact Or.inr rfl) (aL (cR (cN (ab aN).names ["_law_hand_here","_law_n","_law_row"] ["_law_k","_law_hand_here"] 1 [0] rfl rfl rfl (by decide +kernel)) rfl (by decide) (dv rfl T.z_range (aa (aJ (cW rfl) (iv 1) ak) ag rfl) rfl) (λ_ _ _ _ _=>(bt (aw (i:=0) (show List.Nodup (α:=Str) ["_law_k","_law_hand_here"] by decide +kernel) rfl (by first | exact Or.inl rfl | exact Or.inr rfl)))) (λ_ _ _ _ _=>bQ) (λ_ _ _ _ _=>(av (cH T) (by decide) hr rfl T.m__law_take T.F__law_take.kp T.b__law_take (aa (iv 1) (aa ak ag rfl) rfl) (by decide) rfl rfl)) (λ_=>rfl))) rfl (by first | exact .inl rfl | exact .inr rfl)) (aq (aG (aL (cR (cN (ab aN).names ["_law_hand_here","_law_n","_law_row"] ["_law_at","_law_row","_law_n"] 1 [2,1] rfl rfl rfl (by decide +kernel)) rfl (by decide) (dv rfl T.z_range (aa (aJ iU ak (iv 1)) ag rfl) rfl) (λ_ _ _ _ _=>(bt (aw (i:=0) (show List.Nodup (α:=Str) ["_law_at","_law_row","_law_n"] by decide +kernel) rfl (by first | exact Or.inl rfl | exact Or.inr rfl)))) (λ_ _ _ _ _=>bQ) (λ_ _ _ _ _=>(bM (iv 1) (cj (er rfl) rfl T.z_len PySem.boot_len (aa (aL (cR (cN _ ["_law_at","_law_row","_law_n"] ["_law_k","_law_at"] 1 [0] (sL (ns:=(ab aN).names) rfl rfl) rfl rfl (by decide +kernel)) rfl (by decide) (dv rfl T.z_range (aa (iv 2) ag rfl) rfl) (λ_ _ _ _ _=>(bt (aw (i:=0) (show List.Nodup (α:=Str) ["_law_k","_law_at"] by decide +kernel) rfl (by first | exact Or.inl rfl | exact Or.inr rfl)))) (λ_ _ _ _ _=>(kR (b8 (dP hr rfl) (aJ fW (aJ uO (iv 1) (iv 0)) ak) ak (bq _)))) (λ_ _ _ _ _=>(iv 0)) (λ_=>rfl))) ag rfl) (by decide) (by decide) rfl rfl) rfl rfl)) (λ_=>rfl))))))
theorem ju (T:Txt K mg t):aU P w K mg base CX0 2 t.f__law_by_counts t.fd__law_by_counts ["_law_hand_here","_law_n"] (spI K m__law_by_counts):=
 show aU P w K mg base CX0 2 t.f__law_by_counts t.fd__law_by_counts ["_law_hand_here","_law_n"] (spI K (bB (List.length (α:=Str) ["_law_hand_here","_law_n","_law_row"]) (List.length (α:=Str) ["_law_hand_here","_law_n"]) b__law_by_counts)) from dM (N:=["_law_hand_here","_law_n","_law_row"]) (ps:=["_law_hand_here","_law_n"]) (b:=b__law_by_counts) T.F__law_by_counts fM (λcdv A outer s H E hr=>iE T cdv A outer s H E hr)
theorem jd (T:Txt K mg t) (cdv:Value) (A:Around) (outer:List Env) (s:Shared) (H:Hp) (E:XK) (hr:bo (2) (A.deeper (PyProof.Rows.envOfC "_law_by_signs" (ab aM) s.heap.objs.size t.f__law_by_signs cdv))):ISs K (cy CX0 P w K mg base ["_law_hand_here","_law_n","_law_some","_law_sums"] "_law_by_signs" (ab aM) t.f__law_by_signs cdv A outer s H E).nox (ap aM) b__law_by_signs:=
 (ao (aS (i:=2) dY.nd rfl (by first | exact Or.inl rfl | exact Or.inr rfl) (aL (cR (cN (ab aM).names ["_law_hand_here","_law_n","_law_some","_law_sums"] ["_law_k","_law_hand_here","_law_n"] 1 [0,1] rfl rfl rfl (by decide +kernel)) rfl (by decide) (dv rfl T.z_range (aa ak ag rfl) rfl) (λ_ _ _ _ _=>(bt (aw (i:=0) (show List.Nodup (α:=Str) ["_law_k","_law_hand_here","_law_n"] by decide +kernel) rfl (by first | exact Or.inl rfl | exact Or.inr rfl)))) (λ_ _ _ _ _=>bQ) (λ_ _ _ _ _=>(av (jr T) (by decide) hr rfl T.m__law_pick T.F__law_pick.kp T.b__law_pick (aa (iv 1) (aa (av (dJ T) (by decide) hr rfl T.m__law_all_terms T.F__law_all_terms.kp T.b__law_all_terms (aa (iv 2) ag rfl) (by decide) rfl rfl) ag rfl) rfl) (by decide) rfl rfl)) (λ_=>rfl))) rfl (by first | exact .inl rfl | exact .inr rfl)) (ao (And.left (A3 (i0:=3) dY.nd rfl (by first | exact Or.inl rfl | exact Or.inr rfl) (cN (ab aM).names ["_law_hand_here","_law_n","_law_some","_law_sums"] ["_law_at","_law_some"] 1 [2] rfl rfl rfl (by decide +kernel)) rfl (by decide) (dv rfl T.z_range (aa (aJ iU ak (iv 1)) ag rfl) rfl) (λ_ _ _ _ _=>(bt (aw (i:=0) (show List.Nodup (α:=Str) ["_law_at","_law_some"] by decide +kernel) rfl (by first | exact Or.inl rfl | exact Or.inr rfl)))) (λ_ _ _ _ _=>bQ) (λ_ _ _ _ _=>(cj (lO rfl rfl) rfl T.z_sum PyProof.Rows.boot_sum (aa (aL (cR (cN _ ["_law_at","_law_some"] ["_law_term","_law_at"] 1 [0] (sL (ns:=(ab aM).names) rfl rfl) rfl rfl (by decide +kernel)) rfl (by decide) (cu (iv 1) rfl) (λ_ _ _ _ _=>(bt (aw (i:=0) (show List.Nodup (α:=Str) ["_law_term","_law_at"] by decide +kernel) rfl (by first | exact Or.inl rfl | exact Or.inr rfl)))) (λ_ _ _ _ _=>bQ) (λ_ _ _ _ _=>(av (cK T) (by decide) hr rfl T.m__law_term_value T.F__law_term_value.kp T.b__law_term_value (aa cm (aa (iv 0) (aa (iv 1) ag rfl) rfl) rfl) (by decide) rfl rfl)) (λ_=>rfl))) ag rfl) (by decide) (by decide) rfl rfl)) rfl (by first | exact .inl rfl | exact .inr rfl) (λ_=>rfl))) (aq (aG (aL (cR (cN (ab aM).names ["_law_hand_here","_law_n","_law_some","_law_sums"] ["_law_total"] 1 [] rfl rfl rfl (by decide +kernel)) rfl (by decide) (cu (iv 3) rfl) (λ_ _ _ _ _=>(bt (aw (i:=0) (show List.Nodup (α:=Str) ["_law_total"] by decide +kernel) rfl (by first | exact Or.inl rfl | exact Or.inr rfl)))) (λ_ _ _ _ _=>bQ) (λ_ _ _ _ _=>(eP jU rfl T.z_int PyProof.Rows.boot_int (aa (fU yB (iv 0) ak (bq _)) ag rfl) (by decide) (by decide) rfl rfl)) (λ_=>rfl)))))))
theorem jN (T:Txt K mg t):aU P w K mg base CX0 3 t.f__law_by_signs t.fd__law_by_signs ["_law_hand_here","_law_n"] (spI K m__law_by_signs):=
 show aU P w K mg base CX0 3 t.f__law_by_signs t.fd__law_by_signs ["_law_hand_here","_law_n"] (spI K (bB (List.length (α:=Str) ["_law_hand_here","_law_n","_law_some","_law_sums"]) (List.length (α:=Str) ["_law_hand_here","_law_n"]) b__law_by_signs)) from dM (N:=["_law_hand_here","_law_n","_law_some","_law_sums"]) (ps:=["_law_hand_here","_law_n"]) (b:=b__law_by_signs) T.F__law_by_signs dY (λcdv A outer s H E hr=>jd T cdv A outer s H E hr)
theorem mO (T:Txt K mg t) (cdv:Value) (A:Around) (outer:List Env) (s:Shared) (H:Hp) (E:XK) (hr:bo (3) (A.deeper (PyProof.Rows.envOfC "_law_full" (ab bJ) s.heap.objs.size t.f__law_full cdv))):ISs K (cy CX0 P w K mg base ["_law_hand_here","_law_n","_law_way","_law_own","_law_term","_law_spot"] "_law_full" (ab bJ) t.f__law_full cdv A outer s H E).nox (ap bJ) b__law_full:=
 (ao (z8 (bP (aa (av (cH T) (by decide) hr rfl T.m__law_take T.F__law_take.kp T.b__law_take (aa (iv 0) (aa ak ag rfl) rfl) (by decide) rfl rfl) (aa (av (cH T) (by decide) hr rfl T.m__law_take T.F__law_take.kp T.b__law_take (aa (iv 0) (aa ak ag rfl) rfl) (by decide) rfl rfl) ag rfl) rfl)) (dU (aY (aw (i:=2) dI.nd rfl (by first | exact Or.inl rfl | exact Or.inr rfl)) (aY (aw (i:=3) dI.nd rfl (by first | exact Or.inl rfl | exact Or.inr rfl)) cX)) rfl rfl rfl rfl rfl) rfl rfl rfl) (ao (dH (b8 (dP hr rfl) (iv 2) ak (bq _)) (aq (aG (eP (gB rfl) rfl T.z_tuple PyProof.Rows.boot_tuple (aa (av (ju T) (by decide) hr rfl T.m__law_by_counts T.F__law_by_counts.kp T.b__law_by_counts (aa (iv 0) (aa (iv 1) ag rfl) rfl) (by decide) rfl rfl) ag rfl) (by decide) (by decide) rfl rfl))) b7) (ao (dH (b8 (dP hr rfl) (iv 2) ak (bq _)) (aq (aG (eP (gB rfl) rfl T.z_tuple PyProof.Rows.boot_tuple (aa (av (jN T) (by decide) hr rfl T.m__law_by_signs T.F__law_by_signs.kp T.b__law_by_signs (aa (iv 0) (aa (iv 1) ag rfl) rfl) (by decide) rfl rfl) ag rfl) (by decide) (by decide) rfl rfl))) b7) (ao (dH (b8 (dP hr rfl) (iv 2) ak (bq _)) (ao (aS (i:=4) dI.nd rfl (by first | exact Or.inl rfl | exact Or.inr rfl) (av (jr T) (by decide) hr rfl T.m__law_pick T.F__law_pick.kp T.b__law_pick (aa (iv 0) (aa (av (dJ T) (by decide) hr rfl T.m__law_all_terms T.F__law_all_terms.kp T.b__law_all_terms (aa (iv 1) ag rfl) (by decide) rfl rfl) ag rfl) rfl) (by decide) rfl rfl) rfl (by first | exact .inl rfl | exact .inr rfl)) (aq (aG (eP (gB rfl) rfl T.z_tuple PyProof.Rows.boot_tuple (aa (aL (cR (cN (ab bJ).names ["_law_hand_here","_law_n","_law_way","_law_own","_law_term","_law_spot"] ["_law_at","_law_term","_law_own"] 1 [4,3] rfl rfl rfl (by decide +kernel)) rfl (by decide) (dv rfl T.z_range (aa (aJ iU ak (iv 1)) ag rfl) rfl) (λ_ _ _ _ _=>(bt (aw (i:=0) (show List.Nodup (α:=Str) ["_law_at","_law_term","_law_own"] by decide +kernel) rfl (by first | exact Or.inl rfl | exact Or.inr rfl)))) (λ_ _ _ _ _=>bQ) (λ_ _ _ _ _=>(eP jU rfl T.z_int PyProof.Rows.boot_int (aa (fU (dP hr rfl) (av (cK T) (by decide) hr rfl T.m__law_term_value T.F__law_term_value.kp T.b__law_term_value (aa cm (aa (iv 1) (aa (iv 0) ag rfl) rfl) rfl) (by decide) rfl rfl) (aJ oS ak (aJ (cP rfl) ak (iv 2))) (bq _)) ag rfl) (by decide) (by decide) rfl rfl)) (λ_=>rfl))) ag rfl) (by decide) (by decide) rfl rfl)))) b7) (ao (dH (b8 (dP hr rfl) (iv 2) ak (bq _)) (ao (aS (i:=5) dI.nd rfl (by first | exact Or.inl rfl | exact Or.inr rfl) (av (cH T) (by decide) hr rfl T.m__law_take T.F__law_take.kp T.b__law_take (aa (iv 0) (aa (aJ iU ak (iv 1)) ag rfl) rfl) (by decide) rfl rfl) rfl (by first | exact .inl rfl | exact .inr rfl)) (aq (aG (eP (gB rfl) rfl T.z_tuple PyProof.Rows.boot_tuple (aa (aL (cR (cN (ab bJ).names ["_law_hand_here","_law_n","_law_way","_law_own","_law_term","_law_spot"] ["_law_at","_law_own","_law_spot"] 1 [3,5] rfl rfl rfl (by decide +kernel)) rfl (by decide) (dv rfl T.z_range (aa (aJ iU ak (iv 1)) ag rfl) rfl) (λ_ _ _ _ _=>(bt (aw (i:=0) (show List.Nodup (α:=Str) ["_law_at","_law_own","_law_spot"] by decide +kernel) rfl (by first | exact Or.inl rfl | exact Or.inr rfl)))) (λ_ _ _ _ _=>bQ) (λ_ _ _ _ _=>(bM (aL (eA (aa (aJ oS ak (iv 1)) (aa (iv 1) ag rfl) rfl))) (eP jU rfl T.z_int PyProof.Rows.boot_int (aa (fU (dP hr rfl) (iv 0) (iv 2) (bq _)) ag rfl) (by decide) (by decide) rfl rfl) rfl rfl)) (λ_=>rfl))) ag rfl) (by decide) (by decide) rfl rfl)))) b7) (aq (aG (eP (gB rfl) rfl T.z_tuple PyProof.Rows.boot_tuple (aa (aL (cR (cN (ab bJ).names ["_law_hand_here","_law_n","_law_way","_law_own","_law_term","_law_spot"] ["_law_at","_law_hand_here"] 1 [0] rfl rfl rfl (by decide +kernel)) rfl (by decide) (dv rfl T.z_range (aa (aJ iU ak (iv 1)) ag rfl) rfl) (λ_ _ _ _ _=>(bt (aw (i:=0) (show List.Nodup (α:=Str) ["_law_at","_law_hand_here"] by decide +kernel) rfl (by first | exact Or.inl rfl | exact Or.inr rfl)))) (λ_ _ _ _ _=>bQ) (λ_ _ _ _ _=>(av (cH T) (by decide) hr rfl T.m__law_take T.F__law_take.kp T.b__law_take (aa (iv 1) (aa ak ag rfl) rfl) (by decide) rfl rfl)) (λ_=>rfl))) ag rfl) (by decide) (by decide) rfl rfl))))))))
theorem o7 (T:Txt K mg t):aU P w K mg base CX0 4 t.f__law_full t.fd__law_full ["_law_hand_here","_law_n"] (spI K m__law_full):=
 show aU P w K mg base CX0 4 t.f__law_full t.fd__law_full ["_law_hand_here","_law_n"] (spI K (bB (List.length (α:=Str) ["_law_hand_here","_law_n","_law_way","_law_own","_law_term","_law_spot"]) (List.length (α:=Str) ["_law_hand_here","_law_n"]) b__law_full)) from dM (N:=["_law_hand_here","_law_n","_law_way","_law_own","_law_term","_law_spot"]) (ps:=["_law_hand_here","_law_n"]) (b:=b__law_full) T.F__law_full dI (λcdv A outer s H E hr=>mO T cdv A outer s H E hr)
theorem iW (T:Txt K mg t) (cdv:Value) (A:Around) (outer:List Env) (s:Shared) (H:Hp) (E:XK) (hr:bo (0) (A.deeper (PyProof.Rows.envOfC "_law_is_whole" (ab bx) s.heap.objs.size t.f__law_is_whole cdv))):ISs K (cy CX0 P w K mg base ["_law_thing"] "_law_is_whole" (ab bx) t.f__law_is_whole cdv A outer s H E).nox (ap bx) b__law_is_whole:=
 (aq (aG (u9 (cj (i7 rfl) rfl T.z_isinstance PyProof.Rows.boot_isinstance (aa (iv 0) (aa (my rfl T.z_int PyProof.Rows.boot_int (by decide) (by decide)) ag rfl) rfl) (by decide) (by decide) rfl rfl) (wg (zA (cj (i7 rfl) rfl T.z_isinstance PyProof.Rows.boot_isinstance (aa (iv 0) (aa (my rfl T.z_bool PyProof.Rows.boot_bool (by decide) (by decide)) ag rfl) rfl) (by decide) (by decide) rfl rfl))))))
theorem gk (T:Txt K mg t):aU P w K mg base CX0 1 t.f__law_is_whole t.fd__law_is_whole ["_law_thing"] (spI K m__law_is_whole):=
 show aU P w K mg base CX0 1 t.f__law_is_whole t.fd__law_is_whole ["_law_thing"] (spI K (bB (List.length (α:=Str) ["_law_thing"]) (List.length (α:=Str) ["_law_thing"]) b__law_is_whole)) from dM (N:=["_law_thing"]) (ps:=["_law_thing"]) (b:=b__law_is_whole) T.F__law_is_whole j7 (λcdv A outer s H E hr=>iW T cdv A outer s H E hr)
theorem jo (T:Txt K mg t) (cdv:Value) (A:Around) (outer:List Env) (s:Shared) (H:Hp) (E:XK) (hr:bo (1) (A.deeper (PyProof.Rows.envOfC "_law_is_term" (ab bi) s.heap.objs.size t.f__law_is_term cdv))):ISs K (cy CX0 P w K mg base ["_law_thing"] "_law_is_term" (ab bi) t.f__law_is_term cdv A outer s H E).nox (ap bi) b__law_is_term:=
 (ao (dH (jH (hX (fq (ft (cj (i7 rfl) rfl T.z_isinstance PyProof.Rows.boot_isinstance (aa (iv 0) (aa (my rfl T.z_tuple PyProof.Rows.boot_tuple (by decide) (by decide)) ag rfl) rfl) (by decide) (by decide) rfl rfl) rfl rfl)) (iz (fq (ft (cj (oE rfl rfl) rfl T.z_all PyProof.Rows.boot_all (aa (aL (cR (cN (ab bi).names ["_law_thing"] ["_law_k"] 1 [] rfl rfl rfl (by decide +kernel)) rfl (by decide) (cu (iv 0) rfl) (λ_ _ _ _ _=>(bt (aw (i:=0) (show List.Nodup (α:=Str) ["_law_k"] by decide +kernel) rfl (by first | exact Or.inl rfl | exact Or.inr rfl)))) (λ_ _ _ _ _=>bQ) (λ_ _ _ _ _=>(u9 (av (gk T) (by decide) hr rfl T.m__law_is_whole T.F__law_is_whole.kp T.b__law_is_whole (aa (iv 0) ag rfl) (by decide) rfl rfl) (wg (vd Bi nu ak (iv 0) ak (by with_unfolding_all rfl))))) (λ_=>rfl))) ag rfl) (by decide) (by decide) rfl rfl) rfl rfl))))) (aq (aG gX)) b7) (aq (aG (cj (oE rfl rfl) rfl T.z_all PyProof.Rows.boot_all (aa (aL (cR (cN (ab bi).names ["_law_thing"] ["_law_one","_law_other"] 2 [] rfl rfl rfl (by decide +kernel)) rfl (by decide) (vW rfl T.z_zip (aa (iv 0) (aa (yE (iv 0) (tj ak) tJ rfl) ag rfl) rfl) rfl rfl rfl) (λ_ _ _ _ _=>(dU (aY (aw (i:=0) (show List.Nodup (α:=Str) ["_law_one","_law_other"] by decide +kernel) rfl (by first | exact Or.inl rfl | exact Or.inr rfl)) (aY (aw (i:=1) (show List.Nodup (α:=Str) ["_law_one","_law_other"] by decide +kernel) rfl (by first | exact Or.inl rfl | exact Or.inr rfl)) cX)) rfl rfl rfl rfl rfl)) (λ_ _ _ _ _=>bQ) (λ_ _ _ _ _=>(fU nu (iv 0) (iv 1) (bq _))) (λ_=>rfl))) ag rfl) (by decide) (by decide) rfl rfl))))
theorem kK (T:Txt K mg t):aU P w K mg base CX0 2 t.f__law_is_term t.fd__law_is_term ["_law_thing"] (spI K m__law_is_term):=
 show aU P w K mg base CX0 2 t.f__law_is_term t.fd__law_is_term ["_law_thing"] (spI K (bB (List.length (α:=Str) ["_law_thing"]) (List.length (α:=Str) ["_law_thing"]) b__law_is_term)) from dM (N:=["_law_thing"]) (ps:=["_law_thing"]) (b:=b__law_is_term) T.F__law_is_term kB (λcdv A outer s H E hr=>jo T cdv A outer s H E hr)
theorem jm (T:Txt K mg t) (cdv:Value) (A:Around) (outer:List Env) (s:Shared) (H:Hp) (E:XK) (hr:bo (2) (A.deeper (PyProof.Rows.envOfC "_law_is_poly" (ab bu) s.heap.objs.size t.f__law_is_poly cdv))):ISs K (cy CX0 P w K mg base ["_law_thing","_law_part"] "_law_is_poly" (ab bu) t.f__law_is_poly cdv A outer s H E).nox (ap bu) b__law_is_poly:=
 (ao (dH (jH (hX (fq (ft (cj (i7 rfl) rfl T.z_isinstance PyProof.Rows.boot_isinstance (aa (iv 0) (aa (my rfl T.z_tuple PyProof.Rows.boot_tuple (by decide) (by decide)) ag rfl) rfl) (by decide) (by decide) rfl rfl) rfl rfl)) (hX (b8 (nR hr rfl) (cj (er rfl) rfl T.z_len PySem.boot_len (aa (iv 0) ag rfl) (by decide) (by decide) rfl rfl) ak (bq _)) (iz (fq (ft (cj (i7 rfl) rfl T.z_isinstance PyProof.Rows.boot_isinstance (aa (bM (iv 0) ak rfl rfl) (aa (my rfl T.z_str PyProof.Rows.boot_str (by decide) (by decide)) ag rfl) rfl) (by decide) (by decide) rfl rfl) rfl rfl)))))) (aq (aG gX)) b7) (ao (dH (jH (hX (b8 (uF rfl) (bM (iv 0) ak rfl rfl) (bP (aa cm (aa cm ag rfl) rfl)) rfl) (iz (fq (ft (cj (i7 rfl) rfl T.z_isinstance PyProof.Rows.boot_isinstance (aa (bM (iv 0) ak rfl rfl) (aa (my rfl T.z_tuple PyProof.Rows.boot_tuple (by decide) (by decide)) ag rfl) rfl) (by decide) (by decide) rfl rfl) rfl rfl))))) (aq (aG gX)) b7) (ao (dW (cu (bM (iv 0) ak rfl rfl) rfl) (bt (aw (i:=1) gK.nd rfl (by first | exact Or.inl rfl | exact Or.inr rfl))) (ao (dH (jH (hX (fq (ft (cj (i7 rfl) rfl T.z_isinstance PyProof.Rows.boot_isinstance (aa (iv 1) (aa (my rfl T.z_tuple PyProof.Rows.boot_tuple (by decide) (by decide)) ag rfl) rfl) (by decide) (by decide) rfl rfl) rfl rfl)) (hX (b8 (nR hr rfl) (cj (er rfl) rfl T.z_len PySem.boot_len (aa (iv 1) ag rfl) (by decide) (by decide) rfl rfl) ak (bq _)) (iz (fq (ft (av (kK T) (by decide) hr rfl T.m__law_is_term T.F__law_is_term.kp T.b__law_is_term (aa (bM (iv 1) ak rfl rfl) ag rfl) (by decide) rfl rfl) rfl rfl)))))) (aq (aG gX)) b7) (aq (dH (jH (hX (fq (ft (av (gk T) (by decide) hr rfl T.m__law_is_whole T.F__law_is_whole.kp T.b__law_is_whole (aa (bM (iv 1) ak rfl rfl) ag rfl) (by decide) rfl rfl) rfl rfl)) (iz (b8 (dP hr rfl) (bM (iv 1) ak rfl rfl) ak (bq _))))) (aq (aG gX)) b7))) PassesOwn.never rfl (λ_=>rfl)) (aq (aG (cj (oE rfl rfl) rfl T.z_all PyProof.Rows.boot_all (aa (aL (cR (cN (ab bu).names ["_law_thing","_law_part"] ["_law_one","_law_other"] 2 [] rfl rfl rfl (by decide +kernel)) rfl (by decide) (vW rfl T.z_zip (aa (bM (iv 0) ak rfl rfl) (aa (yE (bM (iv 0) ak rfl rfl) (tj ak) tJ rfl) ag rfl) rfl) rfl rfl rfl) (λ_ _ _ _ _=>(dU (aY (aw (i:=0) (show List.Nodup (α:=Str) ["_law_one","_law_other"] by decide +kernel) rfl (by first | exact Or.inl rfl | exact Or.inr rfl)) (aY (aw (i:=1) (show List.Nodup (α:=Str) ["_law_one","_law_other"] by decide +kernel) rfl (by first | exact Or.inl rfl | exact Or.inr rfl)) cX)) rfl rfl rfl rfl rfl)) (λ_ _ _ _ _=>bQ) (λ_ _ _ _ _=>(fU (zT hr rfl) (bM (iv 0) ak rfl rfl) (bM (iv 1) ak rfl rfl) (bq _))) (λ_=>rfl))) ag rfl) (by decide) (by decide) rfl rfl))))))
theorem kO (T:Txt K mg t):aU P w K mg base CX0 3 t.f__law_is_poly t.fd__law_is_poly ["_law_thing"] (spI K m__law_is_poly):=
 show aU P w K mg base CX0 3 t.f__law_is_poly t.fd__law_is_poly ["_law_thing"] (spI K (bB (List.length (α:=Str) ["_law_thing","_law_part"]) (List.length (α:=Str) ["_law_thing"]) b__law_is_poly)) from dM (N:=["_law_thing","_law_part"]) (ps:=["_law_thing"]) (b:=b__law_is_poly) T.F__law_is_poly gK (λcdv A outer s H E hr=>jm T cdv A outer s H E hr)
theorem kL (T:Txt K mg t) (cdv:Value) (A:Around) (outer:List Env) (s:Shared) (H:Hp) (E:XK) (hr:bo (7) (A.deeper (PyProof.Rows.envOfC "_law_right" (ab bS) s.heap.objs.size t.f__law_right cdv))):ISs K (cy CX0 P w K mg base ["_law_f","_law_n","_law_kind","_law_found","_law_factor"] "_law_right" (ab bS) t.f__law_right cdv A outer s H E).nox (ap bS) b__law_right:=
 (ao (aS (i:=3) fV.nd rfl (by first | exact Or.inl rfl | exact Or.inr rfl) (av (fB T) (by decide) hr rfl T.m_exact_of T.F_exact_of.kp T.b_exact_of (aa (iv 0) (aa (iv 2) ag rfl) rfl) (by decide) rfl rfl) rfl (by first | exact .inl rfl | exact .inr rfl)) (ao (dH (jH (hX (fq (ft (av (kO T) (by decide) hr rfl T.m__law_is_poly T.F__law_is_poly.kp T.b__law_is_poly (aa (iv 3) ag rfl) (by decide) rfl rfl) rfl rfl)) (iz (b8 (nR hr rfl) (bM (iv 3) ak rfl rfl) (iv 2) (bq _))))) (aq (aG gX)) b7) (ao (aS (i:=4) fV.nd rfl (by first | exact Or.inl rfl | exact Or.inr rfl) (bM (aL (eA (aa ak (aa (aJ iU ak (iv 1)) ag rfl) rfl))) (eP jU rfl T.z_int PyProof.Rows.boot_int (aa (fU (dP hr rfl) (iv 2) cm (bq _)) ag rfl) (by decide) (by decide) rfl rfl) rfl rfl) rfl (by first | exact .inl rfl | exact .inr rfl)) (aq (aG (cj (oE rfl rfl) rfl T.z_all PyProof.Rows.boot_all (aa (aL (cR (cN (ab bS).names ["_law_f","_law_n","_law_kind","_law_found","_law_factor"] ["_law_row","_law_one","_law_found","_law_factor"] 2 [3,4] rfl rfl rfl (by decide +kernel)) rfl (by decide) (oa rfl T.z_enumerate (aa (iv 0) ag rfl) rfl rfl) (λ_ _ _ _ _=>(dU (aY (aw (i:=0) (show List.Nodup (α:=Str) ["_law_row","_law_one","_law_found","_law_factor"] by decide +kernel) rfl (by first | exact Or.inl rfl | exact Or.inr rfl)) (aY (aw (i:=1) (show List.Nodup (α:=Str) ["_law_row","_law_one","_law_found","_law_factor"] by decide +kernel) rfl (by first | exact Or.inl rfl | exact Or.inr rfl)) cX)) rfl rfl rfl rfl rfl)) (λ_ _ _ _ _=>bQ) (λ_ _ _ _ _=>(fU (dP hr rfl) (av (mS T) (by decide) hr rfl T.m__law_value T.F__law_value.kp T.b__law_value (aa (iv 2) (aa (iv 0) ag rfl) rfl) (by decide) rfl rfl) (aJ (cP rfl) (iv 3) (bM (aL (eA (aa (il ak) (aa ak ag rfl) rfl))) (iv 1) rfl rfl)) (bq _))) (λ_=>rfl))) ag rfl) (by decide) (by decide) rfl rfl))))))
theorem ng (T:Txt K mg t):aU P w K mg base CX0 8 t.f__law_right t.fd__law_right ["_law_f","_law_n","_law_kind"] (spI K m__law_right):=
 show aU P w K mg base CX0 8 t.f__law_right t.fd__law_right ["_law_f","_law_n","_law_kind"] (spI K (bB (List.length (α:=Str) ["_law_f","_law_n","_law_kind","_law_found","_law_factor"]) (List.length (α:=Str) ["_law_f","_law_n","_law_kind"]) b__law_right)) from dM (N:=["_law_f","_law_n","_law_kind","_law_found","_law_factor"]) (ps:=["_law_f","_law_n","_law_kind"]) (b:=b__law_right) T.F__law_right fV (λcdv A outer s H E hr=>kL T cdv A outer s H E hr)
theorem gi (T:Txt K mg t) (cdv:Value) (A:Around) (outer:List Env) (s:Shared) (H:Hp) (E:XK) (hr:bo (7) (A.deeper (PyProof.Rows.envOfC "_law_numbers_right" (ab aI) s.heap.objs.size t.f__law_numbers_right cdv))):ISs K (cy CX0 P w K mg base ["_law_f","_law_n","_law_numbers","_law_term","_law_due"] "_law_numbers_right" (ab aI) t.f__law_numbers_right cdv A outer s H E).nox (ap aI) b__law_numbers_right:=
 (ao (aS (i:=2) ci.nd rfl (by first | exact Or.inl rfl | exact Or.inr rfl) (vG hr rfl T.z_dict (bM (av (fB T) (by decide) hr rfl T.m_exact_of T.F_exact_of.kp T.b_exact_of (aa (iv 0) (aa cm ag rfl) rfl) (by decide) rfl rfl) ak rfl rfl) rfl) rfl (by first | exact .inl rfl | exact .inr rfl)) (ao (dW (cu (av (dJ T) (by decide) hr rfl T.m__law_all_terms T.F__law_all_terms.kp T.b__law_all_terms (aa (iv 1) ag rfl) (by decide) rfl rfl) rfl) (bt (aw (i:=3) ci.nd rfl (by first | exact Or.inl rfl | exact Or.inr rfl))) (ao (aS (i:=4) ci.nd rfl (by first | exact Or.inl rfl | exact Or.inr rfl) (cj (lO rfl rfl) rfl T.z_sum PyProof.Rows.boot_sum (aa (aL (cR (cN (ab aI).names ["_law_f","_law_n","_law_numbers","_law_term","_law_due"] ["_law_row","_law_one","_law_term"] 2 [3] rfl rfl rfl (by decide +kernel)) rfl (by decide) (oa rfl T.z_enumerate (aa (iv 0) ag rfl) rfl rfl) (λ_ _ _ _ _=>(dU (aY (aw (i:=0) (show List.Nodup (α:=Str) ["_law_row","_law_one","_law_term"] by decide +kernel) rfl (by first | exact Or.inl rfl | exact Or.inr rfl)) (aY (aw (i:=1) (show List.Nodup (α:=Str) ["_law_row","_law_one","_law_term"] by decide +kernel) rfl (by first | exact Or.inl rfl | exact Or.inr rfl)) cX)) rfl rfl rfl rfl rfl)) (λ_ _ _ _ _=>bQ) (λ_ _ _ _ _=>(aJ (cP rfl) (bM (aL (eA (aa (il ak) (aa ak ag rfl) rfl))) (iv 1) rfl rfl) (av (cK T) (by decide) hr rfl T.m__law_term_value T.F__law_term_value.kp T.b__law_term_value (aa cm (aa (iv 2) (aa (iv 0) ag rfl) rfl) rfl) (by decide) rfl rfl))) (λ_=>rfl))) ag rfl) (by decide) (by decide) rfl rfl) rfl (by first | exact .inl rfl | exact .inr rfl)) (aq (dH (b8 (nR hr rfl) (sw hr (iv 2) (iv 3) ak ⟨rfl,rfl,rfl,rfl⟩) (iv 4) (bq _)) (aq (aG gX)) b7))) PassesOwn.never rfl (λ_=>rfl)) (aq (aG gX))))
theorem gR (T:Txt K mg t):aU P w K mg base CX0 8 t.f__law_numbers_right t.fd__law_numbers_right ["_law_f","_law_n"] (spI K m__law_numbers_right):=
 show aU P w K mg base CX0 8 t.f__law_numbers_right t.fd__law_numbers_right ["_law_f","_law_n"] (spI K (gZ (List.length (α:=Str) ["_law_f","_law_n","_law_numbers","_law_term","_law_due"]) (List.length (α:=Str) ["_law_f","_law_n"]) b__law_numbers_right)) from t3 (N:=["_law_f","_law_n","_law_numbers","_law_term","_law_due"]) (ps:=["_law_f","_law_n"]) (b:=b__law_numbers_right) T.F__law_numbers_right ci (λcdv A outer s H E hr=>gi T cdv A outer s H E hr)
theorem vp (T:Txt K mg t) (cdv:Value) (A:Around) (outer:List Env) (s:Shared) (H:Hp) (E:XK) (hr:bo (8) (A.deeper (PyProof.Rows.envOfC "law" (ab jx) s.heap.objs.size t.f_law cdv))):ISs K (cy CX0 P w K mg base ["_law_script","_law_k","_law_hand_here","_law_n","_law_f","_law_kind"] "law" (ab jx) t.f_law cdv A outer s H E).nox (ap jx) nB:=
 (ao (dW (dv rfl T.z_range (aa (cj (Bv rfl) rfl T.z_max PyProof.Rows.boot_max (aa ak (aa (cj (z9 rfl) rfl T.z_min PyProof.Rows.boot_min (aa ak (aa (cj (er rfl) rfl T.z_len PySem.boot_len (aa (iv 0) ag rfl) (by decide) (by decide) rfl rfl) ag rfl) rfl) (by decide) (by decide) rfl rfl) ag rfl) rfl) (by decide) (by decide) rfl rfl) ag rfl) rfl) (bt (aw (i:=1) jP.nd rfl (by first | exact Or.inl rfl | exact Or.inr rfl))) (ao (aS (i:=2) jP.nd rfl (by first | exact Or.inl rfl | exact Or.inr rfl) (av (pf T) (by decide) hr rfl T.m__law_hand T.F__law_hand.kp T.b__law_hand (aa (iv 0) (aa (iv 1) ag rfl) rfl) (by decide) rfl rfl) rfl (by first | exact .inl rfl | exact .inr rfl)) (ao (aS (i:=3) jP.nd rfl (by first | exact Or.inl rfl | exact Or.inr rfl) (av (cH T) (by decide) hr rfl T.m__law_take T.F__law_take.kp T.b__law_take (aa (iv 2) (aa ak ag rfl) rfl) (by decide) rfl rfl) rfl (by first | exact .inl rfl | exact .inr rfl)) (ao (aS (i:=4) jP.nd rfl (by first | exact Or.inl rfl | exact Or.inr rfl) (av (o7 T) (by decide) hr rfl T.m__law_full T.F__law_full.kp T.b__law_full (aa (iv 2) (aa (iv 3) ag rfl) rfl) (by decide) rfl rfl) rfl (by first | exact .inl rfl | exact .inr rfl)) (ao (dW (cu (bP (aa cm (aa cm (aa cm ag rfl) rfl) rfl)) rfl) (bt (aw (i:=5) jP.nd rfl (by first | exact Or.inl rfl | exact Or.inr rfl))) (aq (dH (fq (ft (av (ng T) (by decide) hr rfl T.m__law_right T.F__law_right.kp T.b__law_right (aa (iv 4) (aa (iv 3) (aa (iv 5) ag rfl) rfl) rfl) (by decide) rfl rfl) rfl rfl)) (aq (aG gX)) b7)) PassesOwn.never rfl (λ_=>rfl)) (aq (dH (fq (ft (av (gR T) (by decide) hr rfl T.m__law_numbers_right T.F__law_numbers_right.kp T.b__law_numbers_right (aa (iv 4) (aa (iv 3) ag rfl) rfl) (by decide) rfl rfl) rfl rfl)) (aq (aG gX)) b7)))))) PassesOwn.never rfl (λ_=>rfl)) (ao (dH (b8 (nR hr rfl) (av (fB T) (by decide) hr rfl T.m_exact_of T.F_exact_of.kp T.b_exact_of (aa (bP (aa ak ag rfl)) (aa cm ag rfl) rfl) (by decide) rfl rfl) (bP (aa cm (aa (bP (aa (bP (aa (bP ag) (aa (il ak) ag rfl) rfl)) ag rfl)) ag rfl) rfl)) (bq _)) (aq (aG gX)) b7) (aq (aG (fU (dP hr rfl) (av (fB T) (by decide) hr rfl T.m_exact_of T.F_exact_of.kp T.b_exact_of (aa (bP (aa ak (aa ak ag rfl) rfl)) (aa cm ag rfl) rfl) (by decide) rfl rfl) (bP (aa cm (aa (bP (aa (bP (aa (bP ag) (aa (il ak) ag rfl) rfl)) (aa (bP (aa (bP (aa ak ag rfl)) (aa ak ag rfl) rfl)) ag rfl) rfl)) ag rfl) rfl)) (bq _))))))
theorem y4 (T:Txt K mg t):aU P w K mg base CX0 9 t.f_law t.fd_law ["_law_script"] (spI K m_law):=
 show aU P w K mg base CX0 9 t.f_law t.fd_law ["_law_script"] (spI K (gZ (List.length (α:=Str) ["_law_script","_law_k","_law_hand_here","_law_n","_law_f","_law_kind"]) (List.length (α:=Str) ["_law_script"]) nB)) from t3 (N:=["_law_script","_law_k","_law_hand_here","_law_n","_law_f","_law_kind"]) (ps:=["_law_script"]) (b:=nB) T.F_law jP (λcdv A outer s H E hr=>vp T cdv A outer s H E hr)
end
end Own
end
namespace L2
open PySem
noncomputable def Hd (st:Sto) (n:Nat) (Z:Int):Prop:=∃ x y z:Int,0<=x/\0<=z/\z<=Z/\st[n]?=some (.l [.int x,.int y,.int z])
noncomputable def Stw (n:Nat) (st st':Sto):Prop:=∃ v,st'=st.set n v
theorem Hd.lt {st:Sto}{n:Nat}{Z:Int} (h:Hd st n Z):n < st.length:=by
 obtain⟨x,y,z,_,_,_,e⟩:=h
 exact (List.getElem?_eq_some_iff.mp e).1
theorem Hd.mono {st:Sto}{n:Nat}{Z Z':Int} (h:Hd st n Z) (hz:Z<=Z'):Hd st n Z':=by
 obtain⟨x,y,z,a,b,c,e⟩:=h
 exact⟨x,y,z,a,b,Int.le_trans c hz,e⟩
theorem Stw.refl {st:Sto}{n:Nat} (h:n < st.length):Stw n st st:=⟨st[n],(List.set_getElem_self h).symm⟩
theorem Stw.trans {n:Nat}{a b c:Sto} (h:Stw n a b) (h':Stw n b c):Stw n a c:=by
 obtain⟨v,rfl⟩:=h
 obtain⟨u,rfl⟩:=h'
 exact⟨u,by rw [List.set_set]⟩
end L2
namespace L2
noncomputable def cD:Nat->List (List Int)
 | 0=>[[]]
 | n+1=>cD n++(cD n).map λt=>t++[(n:Int)]
noncomputable def cM (n:Nat):List (List Int):=bv (cD n)
theorem ir:∀ n,(cD n).length=2 ^ n
 | 0=>rfl
 | n+1=>by rw [cD,List.length_append,List.length_map,ir n,Nat.pow_succ];lia
theorem pG (n:Nat):(cM n).length=2 ^ n:=by rw [cM,(bf _).length_eq,ir]
noncomputable def Trm (n:Nat) (t:List Int):Prop:=t.Pairwise (· < ·)/\∀ k ∈ t,0<=k/\k < n
theorem Trm.mono {n m:Nat}{t:List Int} (h:Trm n t) (hn:n<=m):Trm m t:=⟨h.1,λk hk=>⟨(h.2 k hk).1,by have:=(h.2 k hk).2;lia⟩⟩
theorem gv:∀ (n:Nat) {t:List Int},t ∈ cD n->Trm n t
 | 0,t,h=>by
  rw [cD,List.mem_singleton] at h
  subst h
  exact⟨List.Pairwise.nil,λk hk=>by cases hk⟩
 | n+1,t,h=>by
  rcases List.mem_append.mp h with h | h
  ·exact (gv n h).mono (Nat.le_succ n)
  ·obtain⟨u,hu,rfl⟩:=List.mem_map.mp h
   have:=gv n hu
   refine⟨List.pairwise_append.mpr ⟨this.1,List.pairwise_singleton _ _,λa ha b hb=>?_⟩,λk hk=>?_⟩
   ·rw [List.mem_singleton.mp hb];exact (this.2 a ha).2
   ·rcases List.mem_append.mp hk with hk | hk
    ·exact⟨(this.2 k hk).1,by have:=(this.2 k hk).2;lia⟩
    ·rw [List.mem_singleton.mp hk];lia
theorem fk {n:Nat}{t:List Int} (h:t ∈ cM n):Trm n t:=gv n ((bf _).mem_iff.mp h)
theorem fJ {n:Nat}{t:List Int} (h:Trm n t):t.length<=n:=by
 have key:∀ (t:List Int) (a:Int),t.Pairwise (· < ·)->(∀ k ∈ t,a<=k/\k < n)->(t.length:Int)<=max 0 ((n:Int) - a):=by
  intro t
  induction t with
  | nil=>intro a _ _;simp;lia
  | cons x t ih=>
   intro a hp hm
   have h1:=hm x List.mem_cons_self
   have:=ih (x+1) (List.pairwise_cons.mp hp).2 λk hk=>⟨(List.pairwise_cons.mp hp).1 k hk,(hm k (List.mem_cons_of_mem _ hk)).2⟩
   rw [List.length_cons];push_cast;lia
 have:=key t 0 h.1 h.2
 lia
theorem m6 (p:List Int->Bool) (l:List (List Int)):bv (l.filter p)=(bv l).filter p:=
 gw ((bf _).trans ((bf l).symm.filter p)) (cO _) ((cO l).filter p)
noncomputable def dN (m:Int):Nat->List (List Int)
 | 0=>[[]]
 | n+1=>dN m n++((dN m n).filter λt=>decide ((t.length:Int) < m)).map λt=>t++[(n:Int)]
theorem kW (m:Int) (h0:0<=m):∀ n,dN m n=(cD n).filter λt=>decide ((t.length:Int)<=m)
 | 0=>by simp [dN,cD,h0]
 | n+1=>by
  rw [dN,cD,List.filter_append,kW m h0 n,List.filter_filter,List.filter_map]
  congr 2
  refine List.filter_congr λt _=>?_
  rw [Bool.eq_iff_iff]
  simp
  lia
theorem pv (m:Int) (h0:0<=m) (n:Nat):(dN m n).length<=2 ^ n:=by
 rw [kW m h0,<-ir n];exact List.length_filter_le _ _
noncomputable def onI (row k:Int):Int:=row / 2 ^ k.toNat % 2
noncomputable def ef (row:Int):List Int->Int
 | []=>0
 | k::t=>onI row k+ef row t
theorem mD (row k:Int):onI row k=0\/onI row k=1:=by unfold onI;lia
theorem qt (row:Int):∀ t:List Int,(t.map (onI row)).sum=ef row t
 | []=>rfl
 | k::t=>by rw [List.map_cons,List.sum_cons,qt row t];rfl
theorem o8 (row:Int):∀ t:List Int,0<=ef row t/\ef row t<=t.length
 | []=>by simp [ef]
 | k::t=>by
  have ih:=o8 row t
  rcases mD row k with e | e<;>(simp only [ef,e,List.length_cons];push_cast;lia)
theorem li:∀ (ls:List (List Int)),ky (ls.map ai)=some ((bv ls).map ai)
 | []=>rfl
 | t::r=>by
  have e:aQ ((t::r).map ai)=none:=rfl
  unfold ky
  rw [e,mv];rfl
end L2
namespace L2
noncomputable def vm (u:D):Prop:=u=.non\/u=.int 0\/u=.int 1
noncomputable def dh:Nat->List D->List Int
 | _,[]=>[]
 | i,.non::r=>dh (i+1) r
 | i,_::r=>(i:Int)::dh (i+1) r
noncomputable def sgD:D->Int
 | .int v=>if v=1 then 1 else -1
 | _=>1
noncomputable def sgS (g:Int->Int):Nat->List D->Int
 | _,[]=>0
 | i,.non::r=>sgS g (i+1) r
 | i,d::r=>sgD d*g i+sgS g (i+1) r
theorem pP (g:Int->Int) (fs:List D):∀ (r:List D) (i:Nat),(∀ u ∈ r,vm u)->fs.drop i=r->((dh i r).map λj=>sgD (fs.getD j.toNat .non)*g j).sum=sgS g i r
 | [],i,_,_=>rfl
 | d::r,i,hv,h=>by
  have hd:fs[i]?=some d:=by
   have:=congrArg (λl=>l[0]?) h
   simpa using this
  have hr:fs.drop (i+1)=r:=by
   have:=congrArg (List.drop 1) h
   simpa [List.drop_drop,Nat.add_comm] using this
  have ih:=pP g fs r (i+1) (λu hu=>hv u (List.mem_cons_of_mem _ hu)) hr
  rcases hv d List.mem_cons_self with rfl | rfl | rfl
  ·exact ih
  ·show ((_::dh (i+1) r).map _).sum=sgD (.int 0)*g i+sgS g (i+1) r
   rw [List.map_cons,List.sum_cons,ih,Int.toNat_natCast,List.getD_eq_getElem?_getD,hd];rfl
  ·show ((_::dh (i+1) r).map _).sum=sgD (.int 1)*g i+sgS g (i+1) r
   rw [List.map_cons,List.sum_cons,ih,Int.toNat_natCast,List.getD_eq_getElem?_getD,hd];rfl
theorem nn:∀ (r:List D) (i:Nat) {j:Int},j ∈ dh i r->∃ m:Nat,j=((i+m:Nat):Int)/\m < r.length/\r[m]?≠some .non
 | [],i,j,h=>by cases h
 | d::r,i,j,h=>by
  have up:j ∈ dh (i+1) r->∃ m:Nat,j=((i+m:Nat):Int)/\m < (d::r).length/\(d::r)[m]?≠some .non:=λh=>by
   obtain⟨m,e,hm,hn⟩:=nn r (i+1) h
   exact⟨m+1,by rw [e];congr 1;lia,by simpa using hm,by simpa using hn⟩
  cases d with
  | non=>exact up h
  | _=>
   rcases List.mem_cons.mp h with rfl | h
   ·exact⟨0,by simp,by simp,by simp⟩
   ·exact up h
noncomputable def xR:D->Bool
 | .tup [_,v]=>!vX v
 | _=>false
noncomputable def Bq:D->D
 | .tup [j,_]=>j
 | d=>d
theorem lj:∀ (r:List D) (i:Nat),((bX i r).filter xR).map Bq=(dh i r).map D.int
 | [],i=>rfl
 | d::r,i=>by
  have ih:=lj r (i+1)
  have e0:bX i (d::r)=.tup [.int (i:Int),d]::bX (i+1) r:=rfl
  rw [e0,List.filter_cons]
  cases d<;>first
   | (rw [if_neg (show ¬ xR (.tup [.int (i:Int),.non])=true from (λh=>by cases h))];exact ih)
   | (rw [if_pos (show xR (.tup [.int (i:Int),_])=true from rfl),List.map_cons,ih];rfl)
theorem nU:∀ (r:List D) (i:Nat),(dh i r).length<=r.length
 | [],i=>Nat.le_refl _
 | d::r,i=>by
  have ih:=nU r (i+1)
  cases d<;>first
   | (show (dh (i+1) r).length<=r.length+1;lia)
   | (show (dh (i+1) r).length+1<=r.length+1;lia)
noncomputable def df (b:Bool) (on:Int):Int:=if b=true then on else 1 - 2*on
end L2
namespace L2
open PySem
abbrev Prt:=List Int×Int
noncomputable def au (p:Prt):D:=.tup [ai p.1,.int p.2]
noncomputable def bb (kd:Str) (ps:List Prt):D:=.tup [.str kd,.tup (ps.map au)]
theorem jX {ps:List Prt}{i:Nat}{d:D} (h:(ps.map au)[i]?=some d):∃ p,ps[i]?=some p/\d=.tup [ai p.1,.int p.2]:=by
 rw [List.getElem?_map,Option.map_eq_some_iff] at h
 obtain⟨p,hp,rfl⟩:=h
 exact⟨p,hp,rfl⟩
theorem hJ {te:Ef}{env:Ev}{st:Sto} (F:Prt->D):∀ {ps:List Prt},(∀ p ∈ ps,∃ e1,gg (.tp [0,1]) (.d (au p)) env=some e1/\te e1 st=some (.d (F p),st))->lcI (.tp [0,1]) bN te env (ps.map au) st=some (ps.map F,st)
 | [],_=>rfl
 | p::ps,h=>by
  obtain⟨e1,h1,h2⟩:=h p List.mem_cons_self
  have ih:=hJ (te:=te) (env:=env) (st:=st) F (ps:=ps) λx hx=>h x (List.mem_cons_of_mem _ hx)
  rw [List.map_cons,List.map_cons]
  unfold lcI
  rw [h1,Option.bind_some,show bN e1 st=some (true,st) from rfl,Option.bind_some,if_pos rfl,h2,Option.bind_some,ih];rfl
theorem oK:∀ (ns:List Int) (m:Int),m<=hV ns m/\∀ n ∈ ns,n<=hV ns m
 | [],m=>⟨Int.le_refl _,λ_ h=>by cases h⟩
 | n::ns,m=>by
  have ih:=oK ns (if n > m then n else m)
  rw [hV]
  refine⟨Int.le_trans ?_ ih.1,λk hk=>?_⟩
  ·split<;>lia
  ·rcases List.mem_cons.mp hk with rfl | hk
   ·refine Int.le_trans ?_ ih.1
    split<;>lia
   ·exact ih.2 k hk
theorem uW (ns:List Int) (h:∀ n ∈ ns,0<=n):sZ ns (some 0)=some (hV ns 0):=by
 cases ns with
 | nil=>rfl
 | cons n r=>
  have:(if n > 0 then n else 0)=n:=by have:=h n List.mem_cons_self;split<;>lia
  show some (hV r n)=some (hV r (if n > 0 then n else 0))
  rw [this]
end L2
namespace L2
open PySem
theorem sF {M:Int}:∀ (ns:List Int) (m:Int),m<=M->(∀ n ∈ ns,n<=M)->hV ns m<=M
 | [],m,hm,_=>hm
 | n::ns,m,hm,h=>by
  rw [hV]
  refine sF ns _ ?_ λk hk=>h k (List.mem_cons_of_mem _ hk)
  have:=h n List.mem_cons_self
  split<;>lia
end L2
namespace L2
open PySem
theorem al {g:Sto->W->W->Option D}{a b:Ef}{env:Ev}{st s1 s2:Sto}{x y:W}{d:D} (ha:a env st=some (x,s1)) (hb:b env s1=some (y,s2)) (hg:g s2 x y=some d):iOp g a b env st=some (.d d,s2):=by
 simp only [iOp,ha,hb,hg,Option.bind_some,Option.map_some]
theorem az {g:Sto->W->W->Option D}{a b:Ef}{env:Ev}{st s1 s2:Sto}{x y:W}{k:Bool} (ha:a env st=some (x,s1)) (hb:b env s1=some (y,s2)) (hg:g s2 x y=some (.bl k)):di g a b env st=some (k,s2):=by
 simp only [di,ha,hb,hg,Option.bind_some,vK,Option.map_some]
theorem am {a b:Sf}{env e:Ev}{st s:Sto}{r:Fl} (ha:a env st=some (.nx e s)) (hb:b e s=some r):aA a b env st=some r:=by
 simp only [aA,ha,hb,Option.bind_some]
theorem dZ {a b:Sf}{env:Ev}{st s:Sto}{w:W} (ha:a env st=some (.rt w s)):aA a b env st=some (.rt w s):=by
 simp only [aA,ha,Option.bind_some]
theorem aC {i:Nat}{f:Ef}{env:Ev}{st s:Sto}{w:W} (h:f env st=some (w,s)):bI (.nm i) f env st=some (.nx (env.set i (some w)) s):=by
 simp only [bI,h,Option.bind_some,gg,Option.map_some]
theorem ar {m:Fn}{a:Af}{env:Ev}{st s:Sto}{ws:List W}{r:W×Sto} (ha:a env st=some (ws,s)) (hm:m ws s=some r):aE m a env st=some r:=by
 simp only [aE,ha,hm,Option.bind_some]
theorem bg {g:Sto->List W->Option D}{a:Af}{env:Ev}{st s:Sto}{ws:List W}{d:D} (ha:a env st=some (ws,s)) (hm:g s ws=some d):iCB g a env st=some (.d d,s):=by
 simp only [iCB,ha,hm,Option.bind_some,Option.map_some]
theorem ah {a:Ef}{b:Af}{env:Ev}{st s1 s2:Sto}{x:W}{y:List W} (ha:a env st=some (x,s1)) (hb:b env s1=some (y,s2)):ae a b env st=some (x::y,s2):=by
 simp only [ae,ha,hb,Option.bind_some,Option.map_some]
theorem dq {fi:Lf}{g:Tg}{b:Sf}{env:Ev}{st s:Sto}{ds:List D}{r:Fl} (h:fi env st=some (ds,s)) (hf:mI g b ds env s=some r):gQ fi g b env st=some r:=by
 simp only [gQ,h,hf,Option.bind_some]
theorem aB {f:Ef}{env:Ev}{st s:Sto}{w:W} (h:f env st=some (w,s)):bL f env st=some (.rt w s):=by
 simp only [bL,h,Option.map_some]
theorem ii {c:Tf}{a b:Sf}{env:Ev}{st s:Sto}{r:Option Fl} (h:c env st=some (true,s)) (ha:a env s=r):d5 c a b env st=r:=by
 simp only [d5,h,Option.bind_some,if_true,ha]
theorem cA {c:Tf}{a b:Sf}{env:Ev}{st s:Sto}{r:Option Fl} (h:c env st=some (false,s)) (hb:b env s=r):d5 c a b env st=r:=by
 simp only [d5,h,Option.bind_some,Bool.false_eq_true,if_false,hb]
theorem bW {k:Nat}{js:List Nat}{fi:Lf}{g:Tg}{tt:Tf}{te:Ef}{env:Ev}{st s s2:Sto}{ds ys:List D} (h:fi env st=some (ds,s)) (hl:ds.length<=1000000) (hc:lcI g tt te (lN k js env) ds s=some (ys,s2)):iLc k js fi g tt te env st=some (ys,s2):=by
 simp only [iLc,h,hc,hl,Option.bind_some,if_true]
theorem aF {a:Lf}{env:Ev}{st s:Sto}{ds:List D} (h:a env st=some (ds,s)):aV a env st=some (.d (.lst ds),s):=by
 simp only [aV,h,Option.map_some]
theorem ay {n k:Nat}{b:Sf}{ws:List W}{st s:Sto}{w:W} (hl:ws.length=k) (h:b (ws.map some++List.replicate (n - k) none) st=some (.rt w s)):bB n k b ws st=some (w,s):=by
 simp only [bB,hl,if_true,h,Option.bind_some]
theorem ge {n k:Nat}{b:Sf}{ws:List W}{st s:Sto}{x:D} (hl:ws.length=k) (h:b (ws.map some++List.replicate (n - k) none) st=some (.rt (.d x) s)):gZ n k b ws st=some (.d x,s.take st.length):=by
 simp only [gZ,hl,if_true,h,Option.bind_some,xY]
end L2
section
set_option maxHeartbeats 1000000
namespace Own
open PySem L2
theorem xo {st:Sto}{n:Nat}{x y z:Int} (h:st[n]?=some (.l [.int x,.int y,.int z])):dIx st (.h n) (.d (.int 0))=some (.int x):=by
 show (lg st n).bind (λds=>atI ds 0)=_
 unfold lg;rw [h]
 show atI [D.int x,.int y,.int z] 0=_
 exact qR _ _
theorem BW {st:Sto}{n:Nat}{x y z:Int} (h:st[n]?=some (.l [.int x,.int y,.int z])):dIx st (.h n) (.d (.int 1))=some (.int y):=by
 show (lg st n).bind (λds=>atI ds 1)=_
 unfold lg;rw [h]
 show atI [D.int x,.int y,.int z] 1=_
 exact qi _ _ _
theorem BE {st:Sto}{n:Nat}{x y z:Int} (h:st[n]?=some (.l [.int x,.int y,.int z])):dIx st (.h n) (.d (.int 2))=some (.int z):=by
 show (lg st n).bind (λds=>atI ds 2)=_
 unfold lg;rw [h]
 show atI [D.int x,.int y,.int z] 2=_
 exact gH (j:=2) rfl
theorem AI {st:Sto}{n:Nat}{x y z v:Int} (h:st[n]?=some (.l [.int x,.int y,.int z])):nW st (.h n) (.d (.int 0)) (.d (.int v))=some (st.set n (.l [.int v,.int y,.int z])):=by
 show (lg st n).bind (λds=>(ixN ds.length 0).map λj=>st.set n (.l (ds.set j (.int v))))=_
 unfold lg;rw [h];rfl
theorem Bu {st:Sto}{n:Nat}{x y z v:Int} (h:st[n]?=some (.l [.int x,.int y,.int z])):nW st (.h n) (.d (.int 2)) (.d (.int v))=some (st.set n (.l [.int x,.int y,.int v])):=by
 show (lg st n).bind (λds=>(ixN ds.length 2).map λj=>st.set n (.l (ds.set j (.int v))))=_
 unfold lg;rw [h];rfl
theorem nG {o i v:Ef}{env:Ev}{st s1 s2 s3 s4:Sto}{x wo wi:W} (h:v env st=some (x,s1)) (h1:o env s1=some (wo,s2)) (h2:i env s2=some (wi,s3)) (h3:nW s3 wo wi x=some s4):jY o i v env st=some (.nx env s4):=by
 simp only [jY,h,h1,h2,h3,Option.bind_some,Option.map_some]
theorem gN (s:Sto) {a b:Int} (h:PySem.IntMulOk a b):dO s (.d (.int a)) (.d (.int b))=some (.int (a*b)):=if_pos h
theorem gU (s:Sto) {a b:Int} (h:0 < b):jj s (.d (.int a)) (.d (.int b))=some (.int (a % b)):=if_pos h
theorem oA (s:Sto) {a b:Int} (h:0 < b/\b < 1073741824):lZ s (.d (.int a)) (.d (.int b))=some (.int (a / b)):=if_pos h
theorem zj (s:Sto) {a b:Int}{k:Bool} (h:decide (a > b)=k):dGt s (.d (.int a)) (.d (.int b))=some (.bl k):=by rw [<-h];rfl
theorem ix {st:Sto}{n:Nat}{m Z:Int} (h:Hd st n Z) (hZ:Z < 1000000000) (m0:0 < m) (m1:m < 1073741824):∃ r st',0<=r/\r < m/\Stw n st st'/\Hd st' n (Z+1)/\m__law_take [.h n,.d (.int m)] st=some (.d (.int r),st'):=by
 have hn:=h.lt
 obtain⟨x,y,z,h0,z0,z1,h⟩:=h
 by_cases hx:0 < x
 ·refine⟨x % m,st.set n (.l [.int (x / m),.int y,.int z]),Int.emod_nonneg _ (by lia),Int.emod_lt_of_pos _ m0,⟨_,rfl⟩,⟨_,_,_,Int.ediv_nonneg h0 (by lia),z0,by lia,ou hn⟩,?_⟩
  exact ay (n:=6) (k:=2) (b:=b__law_take) rfl (dZ (ii (az (al rfl rfl (xo h)) rfl (zj _ (decide_eq_true hx))) (am (aC (i:=2) (al (al rfl rfl (xo h)) rfl (gU _ m0))) (am (nG (al (al rfl rfl (xo h)) rfl (oA _ ⟨m0,m1⟩)) rfl rfl (AI h)) (aB rfl)))))
 ·have hq:∃ Zq:Int,z+1=Zq/\0<=Zq/\Zq<=1000000000:=⟨_,rfl,by lia,by lia⟩
  obtain⟨Zq,eZ,q0,q1⟩:=hq
  have g2:(st.set n (.l [.int x,.int y,.int Zq]))[n]?=some (.l [.int x,.int y,.int Zq]):=ou hn
  obtain⟨u,hu⟩:∃ u,y*(48271+2*Zq*Zq+65537*Zq) % 2305843009213693921=u:=⟨_,rfl⟩
  have u0:0<=u:=by rw [<-hu];exact Int.emod_nonneg _ (by decide)
  have u1:u < 2305843009213693921:=by rw [<-hu];exact Int.emod_lt_of_pos _ (by decide)
  have k4:PySem.IntMulOk y (48271+2*Zq*Zq+65537*Zq):=by
   have a1:0<=2*Zq*Zq:=Int.mul_nonneg (by lia) q0
   have a2:2*Zq*Zq<=2*Zq*1000000000:=Int.mul_le_mul_of_nonneg_left q1 (by lia)
   exact eI ⟨by lia,by lia⟩
  have k6:∀ q,PySem.IntMulOk u q:=λq=>eK ⟨by lia,by lia⟩
  have hz1:dL st (.d (.int z)) (.d (.int 1))=some (.int Zq):=by rw [<-eZ];rfl
  refine⟨(u*(u % 1000003+Zq*99991+11) % 2305843009213693907 / 97+u*(u % 1000003+Zq*99991+11) % 2305843009213693907 / 1000033) % m,st.set n (.l [.int x,.int y,.int Zq]),Int.emod_nonneg _ (by lia),Int.emod_lt_of_pos _ m0,⟨_,rfl⟩,⟨_,_,_,h0,q0,by lia,ou hn⟩,?_⟩
  have hs2:=Bu (v:=Zq) h
  generalize st.set n (.l [.int x,.int y,.int Zq])=s2 at *
  refine ay (n:=6) (k:=2) (b:=b__law_take) rfl (am (cA (az (al rfl rfl (xo h)) rfl (zj _ (decide_eq_false hx))) rfl) (am (nG (al (al rfl rfl (BE h)) rfl hz1) rfl rfl hs2) (am (aC (i:=3) (al rfl rfl (BE g2))) (am (aC (i:=4) (w:=.d (.int u)) ?_) (am (aC (i:=5) (al (al (al rfl rfl (gU _ (by decide))) (al rfl rfl (gN _ (eI (by decide)))) rfl) rfl rfl)) (am (aC (i:=4) (al (al rfl rfl (gN _ (k6 _))) rfl (gU _ (by decide)))) (aB (al (al (al rfl rfl (oA _ (by decide))) (al rfl rfl (oA _ (by decide))) rfl) rfl (gU _ m0)))))))))
  rw [<-hu]
  exact al (al (al rfl rfl (BW g2)) (al (al rfl (al (al rfl rfl (gN _ (eK (by decide)))) rfl (gN _ (eI ⟨by lia,by lia⟩))) rfl) (al rfl rfl (gN _ (eK (by decide)))) rfl) (gN _ k4)) rfl (gU _ (by decide))
theorem Bn (s:Sto) {a b:Int}{k:Bool} (h:decide (a < b)=k):dLt s (.d (.int a)) (.d (.int b))=some (.bl k):=by rw [<-h];rfl
theorem xL {st:Sto}{ns:List Int}{k:Nat}:∃ st',Hd st' st.length 0/\st'.length=st.length+1/\st'.take st.length=st/\m__law_hand [.d (.scr ns),.d (.int k)] st=some (.h st.length,st'):=by
 obtain⟨c,hc⟩:∃ c:Int,aA (bI (.nm 2) (iC (.int 0))) (d5 (di dLt (iV 1) (iCB eD (ae (iV 0) aj))) (bI (.nm 2) (iOp dIx (iV 0) (iV 1))) dm) [some (.d (.scr ns)),some (.d (.int k)),none] st=some (.nx [some (.d (.scr ns)),some (.d (.int k)),some (.d (.int c))] st):=by
  by_cases hk:k < ns.length
  ·refine⟨ns[k],am (aC (i:=2) (w:=.d (.int 0)) rfl) (ii (az rfl rfl (Bn _ (decide_eq_true (show (k:Int) < ((ns.map D.int).length:Nat) by rw [List.length_map];lia)))) (aC (i:=2) (al rfl rfl (d:=.int ns[k]) (gH (by rw [List.getElem?_map,List.getElem?_eq_getElem hk];rfl)))))⟩
  ·exact⟨0,am (aC (i:=2) (w:=.d (.int 0)) rfl) (cA (az rfl rfl (Bn _ (decide_eq_false (show ¬ (k:Int) < ((ns.map D.int).length:Nat) by rw [List.length_map];lia)))) rfl)⟩
 have hx:∃ x:Int,0<=x/\iOp dIx (aV (fz (ae (iC (.int 0)) (ae (iV 2) aj)))) (iCB mi (ae (iOp dGe (iV 2) (iOp uE (iC (.int 10)) (iC (.int 18)))) aj)) [some (.d (.scr ns)),some (.d (.int k)),some (.d (.int c))] st=some (.d (.int x),st):=by
  have hp:uE st (.d (.int 10)) (.d (.int 18))=some (.int (10 ^ Int.toNat 18)):=by
   show (if oy 10 18 then some (D.int (10 ^ Int.toNat 18)) else none)=_
   rw [if_pos p18]
  have q1:aV (fz (ae (iC (.int 0)) (ae (iV 2) aj))) [some (.d (.scr ns)),some (.d (.int k)),some (.d (.int c))] st=some (.d (.lst [.int 0,.int c]),st):=rfl
  cases hb:decide (c>=10 ^ Int.toNat 18) with
  | false=>exact⟨0,by decide,al q1 (bg (d:=.int 0) (ah (al rfl (al rfl rfl hp) (d:=.bl false) (by rw [<-hb];rfl)) rfl) rfl) (show atI [D.int 0,.int c] 0=_ from qR _ _)⟩
  | true=>
   refine⟨c,?_,al q1 (bg (d:=.int 1) (ah (al rfl (al rfl rfl hp) (d:=.bl true) (by rw [<-hb];rfl)) rfl) rfl) (show atI [D.int 0,.int c] 1=_ from qi _ _ _)⟩
   have h1:c>=10 ^ Int.toNat 18:=of_decide_eq_true hb
   have h2:(0:Int)<=10 ^ Int.toNat 18:=by decide
   lia
 obtain⟨x,x0,hx⟩:=hx
 refine⟨st++[.l [.int x,.int (c % 2305843009213693951+7919*(k:Int)+3),.int 0]],⟨x,c % 2305843009213693951+7919*(k:Int)+3,0,x0,by decide,by decide,?_⟩,by rw [List.length_append];rfl,List.take_left,?_⟩
 ·rw [List.getElem?_append_right (Nat.le_refl _),Nat.sub_self];rfl
 ·have q2:iOp dL (iOp dL (iOp jj (iV 2) (iC (.int 2305843009213693951))) (iOp dO (iC (.int 7919)) (iV 1))) (iC (.int 3)) [some (.d (.scr ns)),some (.d (.int k)),some (.d (.int c))] st=some (.d (.int (c % 2305843009213693951+7919*(k:Int)+3)),st):=al (al (al rfl rfl (gU _ (by decide))) (al rfl rfl (gN _ (eK (by decide)))) rfl) rfl rfl
  generalize c % 2305843009213693951+7919*(k:Int)+3=y at *
  have q3:bL (oY (fz (ae (iOp dIx (aV (fz (ae (iC (.int 0)) (ae (iV 2) aj)))) (iCB mi (ae (iOp dGe (iV 2) (iOp uE (iC (.int 10)) (iC (.int 18)))) aj))) (ae (iOp dL (iOp dL (iOp jj (iV 2) (iC (.int 2305843009213693951))) (iOp dO (iC (.int 7919)) (iV 1))) (iC (.int 3))) (ae (iC (.int 0)) aj))))) [some (.d (.scr ns)),some (.d (.int k)),some (.d (.int c))] st=some (.rt (.h st.length) (st++[.l [.int x,.int y,.int 0]])):=by
   refine aB ?_
   have q4:=ah (a:=iOp dIx (aV (fz (ae (iC (.int 0)) (ae (iV 2) aj)))) (iCB mi (ae (iOp dGe (iV 2) (iOp uE (iC (.int 10)) (iC (.int 18)))) aj))) hx (ah (b:=ae (iC (.int 0)) aj) q2 rfl)
   simp only [oY,fz,q4,Option.bind_some,oX,Option.map_some,List.length_cons,List.length_nil,show (3:Nat)<=1000 by decide,if_true]
  have q5:=hc
  simp only [aA,Option.bind_eq_some_iff] at q5
  obtain⟨r1,f1,f2⟩:=q5
  cases f1
  exact ay (n:=3) (k:=2) (b:=b__law_hand) rfl (am (aC (i:=2) (w:=.d (.int 0)) rfl) (am f2 q3))
theorem sH {st:Sto}{n:Nat}{ds:List D}{Z:Int} (h:Hd st n Z) (hZ:Z < 1000000000) (h0:ds≠[]) (h1:ds.length < 1000000):∃ d st',d ∈ ds/\Stw n st st'/\Hd st' n (Z+1)/\m__law_pick [.h n,.d (.lst ds)] st=some (.d d,st'):=by
 have hp:0 < ds.length:=List.length_pos_iff.mpr h0
 obtain⟨r,s1,r0,r1,t1,t2,e1⟩:=ix h hZ (m:=(ds.length:Int)) (by lia) (by lia)
 obtain⟨j,rfl⟩:=Int.eq_ofNat_of_zero_le r0
 have hj:j < ds.length:=by lia
 have e2:atI ds (j:Int)=some ds[j]:=gH (List.getElem?_eq_getElem hj)
 exact⟨ds[j],s1,List.getElem_mem hj,t1,t2,ay (n:=2) (k:=2) (b:=b__law_pick) rfl (aB (al rfl (ar (ah rfl (ah (bg rfl rfl) rfl)) e1) e2))⟩
end Own
end
section
set_option maxHeartbeats 1000000
namespace Own
open PySem L2
theorem cF {a:Af}{env:Ev}{st s:Sto}{ws:List W}{ds:List D} (h:a env st=some (ws,s)) (hd:oX ws=some ds) (hl:ds.length<=1000:=by decide):bm a env st=some (.d (.tup ds),s):=by
 simp only [bm,h,hd,hl,Option.bind_some,if_true]
theorem fC {a:Af}{env:Ev}{st s:Sto}{ws:List W}{ds:List D} (h:a env st=some (ws,s)) (hd:oX ws=some ds) (hl:ds.length<=1000:=by decide):fz a env st=some (ds,s):=by
 simp only [fz,h,hd,hl,Option.bind_some,if_true]
theorem d7 {f:Ef}{env:Ev}{st s:Sto}{ds:List D} (h:f env st=some (.d (.tup ds),s)):ba f env st=some (ds,s):=by
 simp only [ba,h,Option.bind_some]
theorem gW {e:Ef}{z:Int}{m:Nat}{env:Ev}{st s:Sto} (he:e env st=some (.d (.int z),s)) (h0:0<=z) (h1:z<=1000) (hm:z.toNat=m):cC (ae e aj) env st=some (cx 0 m,s):=by
 have hb:-(2 ^ 62)<=z/\z < 2 ^ 62:=⟨Int.le_trans (by decide) h0,Int.lt_of_le_of_lt h1 (by decide)⟩
 have h2:=ah (b:=aj) he rfl
 simp only [cC,h2,Option.bind_some,hb,and_self,if_true,hm]
theorem iw {f:Ef}{env:Ev}{st s:Sto}{ds:List D} (h:f env st=some (.d (.lst ds),s)):ba f env st=some (ds,s):=by
 simp only [ba,h,Option.bind_some,gz,Option.map_some]
theorem gs {f:Ef}{env:Ev}{st s:Sto}{ds:List D} (h:f env st=some (.d (.tup ds),s)):ba f env st=some (ds,s):=by
 simp only [ba,h,Option.bind_some,gz,Option.map_some]
theorem rG {c:Tf}{a b:Ef}{env:Ev}{st s:Sto}{r:Option (W×Sto)} (h:c env st=some (true,s)) (ha:a env s=r):oN c a b env st=r:=by
 simp only [oN,h,Option.bind_some,if_true,ha]
theorem rF {c:Tf}{a b:Ef}{env:Ev}{st s:Sto}{r:Option (W×Sto)} (h:c env st=some (false,s)) (hb:b env s=r):oN c a b env st=r:=by
 simp only [oN,h,Option.bind_some,Bool.false_eq_true,if_false,hb]
theorem wE (s:Sto) (ns:List Int):jT s [.d (.lst (ns.map D.int))]=some (.int ns.sum):=by
 show (aQ (ns.map D.int)).map (λns=>D.int ns.sum)=_
 rw [bp];rfl
theorem yL (s:Sto) {a b:Int} (h:0<=b):yr s (.d (.int a)) (.d (.int b))=some (.int (a / 2 ^ b.toNat)):=if_pos h
theorem jl (s:Sto) (a b:Int):dEq s (.d (.int a)) (.d (.int b))=some (.bl (a==b)):=by
 show ((eqK (.fl (.int a)) (.fl (.int b))).map λk=>D.bl k)=_
 rfl
theorem sB (s:Sto) (a b:Str):dEq s (.d (.str a)) (.d (.str b))=some (.bl (a==b)):=by
 show ((eqK (.fl (.str a)) (.fl (.str b))).map λk=>D.bl k)=_
 rfl
theorem vI (s:Sto) {a b:List D} (h:a.length+b.length<=1000000):dL s (.d (.lst a)) (.d (.lst b))=some (.lst (a++b)):=if_pos h
theorem vV (s:Sto) {a b:List D} (h:a.length+b.length<=1000000):dL s (.d (.tup a)) (.d (.tup b))=some (.tup (a++b)):=if_pos h
theorem qq {st:Sto}{k:Int} (hk0:0<=k) (hk:k<=60):m_power_of_two [.d (.int k)] st=some (.d (.int (2 ^ k.toNat)),st):=by
 obtain⟨env',s2,e2,o,rfl,rfl⟩:=cf (g:=.nm 2) (body:=fY) (ds:=cx 0 k.toNat) (λi env s=>∃ o,env=[some (.d (.int k)),some (.d (.int (2 ^ i))),o]/\s=st) (env:=[some (.d (.int k)),some (.d (.int 1)),none]) (st:=st)
  ⟨none,rfl,rfl⟩ (λi d env s hd ⟨o,e,es⟩=>by
   subst e es
   obtain⟨rfl,hi⟩:=cZ hd
   have km:PySem.IntMulOk (2 ^ i:Int) 2:=eI (by decide)
   have e1:(2 ^ i:Int)*2=2 ^ (i+1):=by rw [Int.pow_succ]
   refine⟨_,[some (.d (.int k)),some (.d (.int (2 ^ (i+1)))),some (.d (.int i))],s,rfl,.inl ?_,_,rfl,rfl⟩
   generalize (2 ^ i:Int)=p at km e1
   rw [<-e1]
   exact aC (i:=1) (al rfl rfl (gN _ km)))
 rw [bU] at e2
 generalize (2 ^ k.toNat:Int)=q at e2 ⊢
 exact ay (n:=3) (k:=1) (b:=b_power_of_two) rfl (am (aC (i:=1) (w:=.d (.int 1)) rfl) (am (dq (gW rfl hk0 (by lia) rfl) e2) (aB rfl)))
theorem ug {j:Nat} (h:j<=20):(0:Int) < 2 ^ j/\(2:Int) ^ j < 1073741824:=by
 have h1:∀ m:Nat,m<=20->2 ^ m<=2 ^ 20:=λm hm=>Nat.pow_le_pow_right (by decide) hm
 have h2:(2:Nat) ^ 20=1048576:=by decide
 have h3:=h1 j h
 have h4:((2 ^ j:Nat):Int)=(2:Int) ^ j:=by push_cast;rfl
 have h5:0 < 2 ^ j:=Nat.pow_pos (by decide)
 lia
theorem yt {st:Sto}{row k:Int} (k0:0<=k) (k1:k<=20):m_on_in [.d (.int row),.d (.int k)] st=some (.d (.int (onI row k)),st):=by
 have h:=ug (j:=k.toNat) (by lia)
 have e:=qq (st:=st) k0 (by lia)
 unfold onI
 generalize (2 ^ k.toNat:Int)=q at h e ⊢
 exact ay (n:=2) (k:=2) (b:=b_on_in) rfl (aB (al (al rfl (ar rfl e) (oA _ ⟨h.1,h.2⟩)) rfl (gU _ (by decide))))
noncomputable def aP (b:Bool) (t:List Int) (row:Int):Int:=if b=true then (if ef row t=(t.length:Int) then 1 else 0) else (if ef row t % 2=1 then -1 else 1)
noncomputable def ax (b:Bool):Str:=if b=true then "both" else "odd"
theorem ke (b:Bool):(ax b==("both" : Str))=b:=by cases b<;>decide
theorem vc {st:Sto}{b:Bool}{t:List Int}{row:Int} (ht:∀ k ∈ t,0<=k/\k<=20) (hl:t.length<=1000):m_value_of [.d (.str (ax b)),.d (ai t),.d (.int row)] st=some (.d (.int (aP b t row)),st):=by
 have key:lcI (.nm 0) bN eL [none,some (.d (.int row))] (t.map D.int) st=some ((t.map D.int).map λd=>match d with | .int k=>.int (onI row k) | d=>d,st):=d3 _ λd hd=>by
  obtain⟨k,hk,rfl⟩:=List.mem_map.mp hd
  exact⟨_,rfl,ar rfl (yt (st:=st) (row:=row) (ht k hk).1 (ht k hk).2)⟩
 have e1:((t.map D.int).map λd=>match d with | .int k=>.int (onI row k) | d=>d)=(t.map (onI row)).map D.int:=by rw [List.map_map,List.map_map];rfl
 rw [e1] at key
 have hsm:=wE st (t.map (onI row))
 rw [qt] at hsm
 have hlm:(t.map D.int).length<=1000000:=by rw [List.length_map];lia
 have hle:eD st [.d (ai t)]=some (.int (t.length:Int)):=by
  show some (D.int (((t.map D.int).length:Nat):Int))=_
  rw [List.length_map]
 have kb:dEq st (.d (.str (ax b))) (.d (.str "both"))=some (.bl b):=by rw [sB,ke]
 have hv:aP b t row=if b=true then (if (ef row t==(t.length:Int))=true then 1 else 0) else (if (ef row t % 2==(1:Int))=true then -1 else 1):=by simp only [aP,beq_iff_eq]
 rw [hv]
 have first:∀ (tl:Sf) (r:Option Fl),tl [some (.d (.str (ax b))),some (.d (ai t)),some (.d (.int row)),some (.d (.int (ef row t)))] st=r->aA (bI (.nm 3) (iCB jT (ae (aV (iLc 1 [2] (ba (iV 1)) (.nm 0) bN eL)) aj))) tl [some (.d (.str (ax b))),some (.d (ai t)),some (.d (.int row)),none] st=r:=λtl r h=>by
  have q:bI (.nm 3) (iCB jT (ae (aV (iLc 1 [2] (ba (iV 1)) (.nm 0) bN eL)) aj)) [some (.d (.str (ax b))),some (.d (ai t)),some (.d (.int row)),none] st=some (.nx [some (.d (.str (ax b))),some (.d (ai t)),some (.d (.int row)),some (.d (.int (ef row t)))] st):=aC (i:=3) (bg (ah (aF (bW (gs rfl) hlm key)) rfl) hsm)
  simp only [aA,q,Option.bind_some,h]
 generalize ax b=kd at *
 generalize ai t=tt at *
 cases b with
 | true=>
  cases hq:(ef row t==(t.length:Int)) with
  | true=>exact ay (n:=4) (k:=3) (b:=b_value_of) rfl (first _ _ (dZ (ii (az rfl rfl kb) (aB (rG (az rfl (bg rfl hle) (by rw [jl,hq])) rfl)))))
  | false=>exact ay (n:=4) (k:=3) (b:=b_value_of) rfl (first _ _ (dZ (ii (az rfl rfl kb) (aB (rF (az rfl (bg rfl hle) (by rw [jl,hq])) rfl)))))
 | false=>
  cases hq:(ef row t % 2==(1:Int)) with
  | true=>exact ay (n:=4) (k:=3) (b:=b_value_of) rfl (first _ _ (am (cA (az rfl rfl kb) rfl) (aB (rG (az (al rfl rfl (gU _ (by decide))) rfl (by rw [jl,hq])) rfl))))
  | false=>exact ay (n:=4) (k:=3) (b:=b_value_of) rfl (first _ _ (am (cA (az rfl rfl kb) rfl) (aB (rF (az (al rfl rfl (gU _ (by decide))) rfl (by rw [jl,hq])) rfl))))
theorem ig {st:Sto}{n:Int} (n0:0<=n) (n1:n<=6):m__law_all_terms [.d (.int n)] st=some (.d (.lst ((cM n.toNat).map ai)),st):=by
 obtain⟨env',s2,e2,o,rfl,rfl⟩:=cf (g:=.nm 2) (body:=eQ) (ds:=cx 0 n.toNat) (λi env s=>∃ o,env=[some (.d (.int n)),some (.d (.lst ((cD i).map ai))),o]/\s=st) (env:=[some (.d (.int n)),some (.d (.lst [.tup []])),none]) (st:=st)
  ⟨none,rfl,rfl⟩ (λi d env s hd ⟨o,e,es⟩=>by
   subst e es
   obtain⟨rfl,hi⟩:=cZ hd
   have hl:(cD i).length<=64:=by
    rw [ir]
    exact Nat.le_trans (Nat.pow_le_pow_right (by decide) (by lia:i<=6)) (by decide)
   have key:lcI (.nm 0) bN eR [none,some (.d (.int i))] ((cD i).map ai) s=some (((cD i).map ai).map λd=>match d with | .tup ds=>.tup (ds++[.int i]) | d=>d,s):=d3 _ λd hd=>by
    obtain⟨t,ht,rfl⟩:=List.mem_map.mp hd
    have htl:=fJ (gv i ht)
    have hk:(t.map D.int).length+1<=1000000:=by rw [List.length_map];lia
    exact⟨_,rfl,al rfl (cF (ds:=[.int i]) (ah rfl rfl) rfl (by show 1<=1000;decide)) (vV _ hk)⟩
   have e1:(((cD i).map ai).map λd=>match d with | .tup ds=>.tup (ds++[.int i]) | d=>d)=((cD i).map λt=>t++[(i:Int)]).map ai:=by
    rw [List.map_map,List.map_map]
    refine List.map_congr_left λt _=>?_
    show D.tup (t.map D.int++[.int i])=D.tup ((t++[(i:Int)]).map D.int)
    rw [List.map_append];rfl
   rw [e1] at key
   have e3:(cD (i+1)).map ai=(cD i).map ai++((cD i).map λt=>t++[(i:Int)]).map ai:=by rw [cD,List.map_append]
   have h1:((cD i).map ai).length<=1000000:=by rw [List.length_map];lia
   have h2:((cD i).map ai).length+(((cD i).map λt=>t++[(i:Int)]).map ai).length<=1000000:=by simp only [List.length_map];lia
   refine⟨_,[some (.d (.int n)),some (.d (.lst ((cD (i+1)).map ai))),some (.d (.int i))],s,rfl,.inl ?_,_,rfl,rfl⟩
   rw [e3]
   generalize ((cD i).map λt=>t++[(i:Int)]).map ai=B at key h2 ⊢
   generalize (cD i).map ai=A at key h1 h2 ⊢
   exact aC (i:=1) (al rfl (aF (bW (iw rfl) h1 key)) (vI _ h2)))
 rw [bU] at e2
 have hl:((cD n.toNat).map ai).length<=64:=by
  rw [List.length_map,ir]
  exact Nat.le_trans (Nat.pow_le_pow_right (by decide) (by lia:n.toNat<=6)) (by decide)
 have hs:ky ((cD n.toNat).map ai)=some ((cM n.toNat).map ai):=li _
 generalize (cD n.toNat).map ai=A at e2 hl hs
 generalize (cM n.toNat).map ai=B at hs ⊢
 have hst:h9 s2 [.d (.lst A)]=some B:=by
  show (if A.length<=64 then ky A else none)=_
  rw [if_pos hl,hs]
 have hq:iCL h9 (ae (iV 1) aj) [some (.d (.int n)),some (.d (.lst A)),o] s2=some (B,s2):=by
  have q:=ah (a:=iV 1) (b:=aj) (env:=[some (.d (.int n)),some (.d (.lst A)),o]) (st:=s2) (x:=.d (.lst A)) rfl rfl
  simp only [iCL,q,Option.bind_some,hst,Option.map_some]
 exact ay (n:=3) (k:=1) (b:=b__law_all_terms) rfl (am (aC (i:=1) (aF (fC (ds:=[.tup []]) (ah (cF (ds:=[]) rfl rfl (by decide)) rfl) rfl (by show 1<=1000;decide)))) (am (dq (gW rfl n0 (by lia) rfl) e2) (aB (aF hq))))
theorem xy {st:Sto}{fs:List D} (hl:fs.length<=1000):m_told_rows [.d (.tup fs)] st=some (.d (.tup ((dh 0 fs).map D.int)),st):=by
 have key:lcI (.tp [0,1]) iM iR [none,none] (bX 0 fs) st=some (((bX 0 fs).filter xR).map Bq,st):=gh _ _ λd hd=>by
  obtain⟨i,hi⟩:=List.mem_iff_getElem?.mp hd
  rw [gr] at hi
  obtain⟨e,he,rfl⟩:=Option.map_eq_some_iff.mp hi
  exact⟨_,rfl,az rfl rfl rfl,λ_=>rfl⟩
 rw [lj] at key
 have hz:(bX 0 fs).length<=1000000:=by rw [gf];lia
 exact ay (n:=1) (k:=1) (b:=b_told_rows) rfl (aB (bg (ah (aF (bW rfl hz key)) rfl) rfl))
theorem yg {st:Sto}{fs:List D}{j:Nat}{d:D} (hd:fs[j]?=some d) (hv:vm d) (hn:d≠.non):m_sign_at [.d (.tup fs),.d (.int (j:Int))] st=some (.d (.int (sgD d)),st):=by
 have e:atI fs (j:Int)=some d:=gH hd
 rcases hv with rfl | rfl | rfl
 ·exact absurd rfl hn
 ·exact ay (n:=2) (k:=2) (b:=b_sign_at) rfl (aB (rF (az (al rfl rfl (show atI fs (j:Int)=_ from e)) rfl (jl _ _ _)) rfl))
 ·exact ay (n:=2) (k:=2) (b:=b_sign_at) rfl (aB (rG (az (al rfl rfl (show atI fs (j:Int)=_ from e)) rfl (jl _ _ _)) rfl))
theorem sg1 {d:D}:sgD d=1\/sgD d=-1:=by
 unfold sgD
 split
 ·split
  ·exact .inl rfl
  ·exact .inr rfl
 ·exact .inl rfl
theorem uw {st:Sto}{fs:List D}{j:Nat}{d:D}{b:Bool}{t:List Int} (hd:fs[j]?=some d) (hv:vm d) (hn:d≠.non) (ht:∀ k ∈ t,0<=k/\k<=20) (hl:t.length<=1000) :
  m_signed_value [.d (.tup fs),.d (.str (ax b)),.d (ai t),.d (.int (j:Int))] st=some (.d (.int (sgD d*aP b t j)),st):=by
 have e1:=yg (st:=st) hd hv hn
 have e2:=vc (st:=st) (b:=b) (row:=j) ht hl
 have km:PySem.IntMulOk (sgD d) (aP b t j):=eK (by rcases sg1 (d:=d) with h | h<;>(rw [h];decide))
 generalize ax b=kd at e2 ⊢
 generalize ai t=tt at e2 ⊢
 exact ay (n:=4) (k:=4) (b:=b_signed_value) rfl (aB (al (ar rfl e1) (ar rfl e2) (gN _ km)))
theorem wu {st:Sto}{fs:List D}{b:Bool}{t:List Int} (hf:fs.length<=1000) (hv:∀ u ∈ fs,vm u) (ht:∀ k ∈ t,0<=k/\k<=20) (hl:t.length<=1000) :
  m_sum_by [.d (.tup fs),.d (.str (ax b)),.d (ai t)] st=some (.d (.int (sgS (aP b t) 0 fs)),st):=by
 have key:lcI (.nm 0) bN mF [none,some (.d (.tup fs)),some (.d (.str (ax b))),some (.d (ai t))] ((dh 0 fs).map D.int) st =
   some (((dh 0 fs).map D.int).map λd=>match d with | .int j=>.int (sgD (fs.getD j.toNat .non)*aP b t j) | d=>d,st):=d3 _ λd hd=>by
  obtain⟨j,hj,rfl⟩:=List.mem_map.mp hd
  obtain⟨m,rfl,hm,hn⟩:=nn fs 0 hj
  rw [Nat.zero_add]
  have he:=List.getElem?_eq_getElem hm
  have e:=uw (st:=st) (b:=b) he (hv _ (List.getElem_mem hm)) (λq=>hn (by rw [he,q])) ht hl
  have eg:fs.getD m .non=fs[m]:=by rw [List.getD_eq_getElem?_getD,he];rfl
  refine⟨_,rfl,?_⟩
  show _=some (W.d (D.int (sgD (fs.getD ((m:Int)).toNat .non)*aP b t m)),st)
  rw [Int.toNat_natCast,eg]
  generalize ax b=kd at e ⊢
  generalize ai t=tt at e ⊢
  exact ar rfl e
 have e1:(((dh 0 fs).map D.int).map λd=>match d with | .int j=>.int (sgD (fs.getD j.toNat .non)*aP b t j) | d=>d)=((dh 0 fs).map λj=>sgD (fs.getD j.toNat .non)*aP b t j).map D.int:=by rw [List.map_map,List.map_map];rfl
 rw [e1] at key
 have hs:aQ (((dh 0 fs).map λj=>sgD (fs.getD j.toNat .non)*aP b t j).map D.int)=some ((dh 0 fs).map λj=>sgD (fs.getD j.toNat .non)*aP b t j):=bp _
 have hsum:=pP (aP b t) fs fs 0 hv rfl
 have hz:((dh 0 fs).map D.int).length<=1000000:=by rw [List.length_map];have:=nU fs 0;lia
 have e2:=xy (st:=st) hf
 generalize ax b=kd at key ⊢
 generalize ai t=tt at key ⊢
 generalize ((dh 0 fs).map λj=>sgD (fs.getD j.toNat .non)*aP b t j)=L at key hs hsum
 generalize (dh 0 fs).map D.int=R at key hz e2
 have hsm:=wE st L
 rw [hsum] at hsm
 exact ay (n:=3) (k:=3) (b:=b_sum_by) rfl (aB (bg (ah (aF (bW (gs (ar rfl e2)) hz key)) rfl) hsm))
theorem fj (b:Bool) (row:Int):∀ (t:List Int) (a:Int),(t.foldl (λv k=>v*df b (onI row k)) a)=a*aP b t row
 | [],a=>by cases b<;>simp [aP,ef]
 | k::t,a=>by
  rw [List.foldl_cons,fj b row t]
  have hc:=o8 row t
  rw [Int.mul_assoc]
  congr 1
  cases b with
  | true=>
   simp only [df,if_true,aP,ef,List.length_cons]
   rcases mD row k with e | e
   ·simp only [e,Int.zero_mul]
    split
    ·push_cast at *;lia
    ·rfl
   ·simp only [e,Int.one_mul]
    split<;>split<;>first | rfl | (push_cast at *;lia)
  | false=>
   simp only [df,Bool.false_eq_true,if_false,aP,ef]
   rcases mD row k with e | e
   ·simp only [e,Int.zero_add]
    split<;>rfl
   ·simp only [e]
    split<;>split<;>first | rfl | lia
theorem vS (b:Bool) (t:List Int) (row:Int):-1<=aP b t row/\aP b t row<=1:=by
 unfold aP
 split<;>split<;>lia
theorem la {st:Sto}{b:Bool}{t:List Int}{row:Int} (ht:∀ k ∈ t,0<=k/\k<=20):m__law_term_value [.d (.str (ax b)),.d (ai t),.d (.int row)] st=some (.d (.int (aP b t row)),st):=by
 obtain⟨env',s2,e2,o4,o5,rfl,rfl⟩:=cf (g:=.nm 4) (body:=eB) (ds:=t.map D.int) (λi env s=>∃ o4 o5,env=[some (.d (.str (ax b))),some (.d (ai t)),some (.d (.int row)),some (.d (.int ((t.take i).foldl (λv k=>v*df b (onI row k)) 1))),o4,o5]/\s=st)
  (env:=[some (.d (.str (ax b))),some (.d (ai t)),some (.d (.int row)),some (.d (.int 1)),none,none]) (st:=st) ⟨none,none,rfl,rfl⟩ (λi d env s hd ⟨o4,o5,e,es⟩=>by
   subst e es
   rw [List.getElem?_map,Option.map_eq_some_iff] at hd
   obtain⟨k,hk,rfl⟩:=hd
   have hk0:=(ht k (List.mem_of_getElem? hk)).1
   obtain⟨hi,hk'⟩:=List.getElem?_eq_some_iff.mp hk
   have e1:(t.take (i+1)).foldl (λv k=>v*df b (onI row k)) 1=(t.take i).foldl (λv k=>v*df b (onI row k)) 1*df b (onI row k):=by
    rw [List.take_succ_eq_append_getElem hi,List.foldl_append,hk'];rfl
   have hf:∃ x,atI [D.int (1 - 2*onI row k),.int (onI row k)] (if b=true then 1 else 0)=some (.int (df b (onI row k)))/\x=df b (onI row k):=by
    cases b with
    | true=>exact⟨_,qi _ _ _,rfl⟩
    | false=>exact⟨_,qR _ _,rfl⟩
   obtain⟨_,hf,_⟩:=hf
   have km:∀ q,PySem.IntMulOk q (df b (onI row k)):=λq=>eI (by rcases mD row k with e | e<;>(rw [e];cases b<;>decide))
   have k2:∀ q,PySem.IntMulOk 2 q:=λq=>eK (by decide)
   refine⟨_,[some (.d (.str (ax b))),some (.d (ai t)),some (.d (.int row)),some (.d (.int ((t.take (i+1)).foldl (λv k=>v*df b (onI row k)) 1))),some (.d (.int k)),some (.d (.int (onI row k)))],s,rfl,.inl ?_,_,_,rfl,rfl⟩
   rw [e1]
   have kb:=ke b
   have eo:row / 2 ^ k.toNat % 2=onI row k:=rfl
   generalize (t.take i).foldl (λv k=>v*df b (onI row k)) 1=p
   generalize ax b=kd at kb ⊢
   generalize ai t=tt
   generalize df b (onI row k)=q at hf km ⊢
   have kb':dEq s (.d (.str kd)) (.d (.str "both"))=some (.bl b):=by rw [sB,kb]
   have hf':dIx s (.d (.lst [.int (1 - 2*onI row k),.int (onI row k)])) (.d (.int (if b=true then 1 else 0)))=some (.int q):=hf
   exact am (aC (i:=5) (w:=.d (.int (onI row k))) (al (al rfl rfl (yL _ hk0)) rfl (gU _ (by decide)))) (aC (i:=3) (al rfl (al (aF (fC (ds:=[.int (1 - 2*onI row k),.int (onI row k)]) (ah (al rfl (al rfl rfl (gN _ (k2 _))) rfl) (ah rfl rfl)) rfl (by show 2<=1000;decide))) (bg (ah (al rfl rfl kb') rfl) rfl) hf') (gN _ (km _)))))
 rw [List.length_map,List.take_length,fj,Int.one_mul] at e2
 generalize aP b t row=v at e2 ⊢
 generalize ax b=kd at e2 ⊢
 exact ay (n:=6) (k:=3) (b:=b__law_term_value) rfl (am (aC (i:=3) (w:=.d (.int 1)) rfl) (am (dq (gs rfl) e2) (aB rfl)))
noncomputable def cT (b:Bool) (ps:List Prt) (row:Int):Int:=(ps.map λp=>p.2*aP b p.1 row).sum
noncomputable def Bd (p:Prt):Prop:=Trm 6 p.1
theorem qN {n:Nat}{t:List Int} (h:Trm n t) (hn:n<=6):∀ k ∈ t,0<=k/\k<=20:=λk hk=>⟨(h.2 k hk).1,by have:=(h.2 k hk).2;lia⟩
theorem At {p:Prt} (h:Bd p):∀ k ∈ p.1,0<=k/\k<=20:=qN h (Nat.le_refl 6)
theorem B3 (b:Bool) (t:List Int) (row c:Int):PySem.IntMulOk c (aP b t row):=eI (by have:=vS b t row;lia)
theorem qL {st:Sto}{b:Bool}{ps:List Prt}{row:Int} (hp:∀ p ∈ ps,Bd p) (hl:ps.length<=1000):m__law_value [.d (bb (ax b) ps),.d (.int row)] st=some (.d (.int (cT b ps row)),st):=by
 have key:lcI (.tp [0,1]) bN hW [none,none,some (.d (bb (ax b) ps)),some (.d (.int row))] (ps.map au) st=some (ps.map λp=>.int (p.2*aP b p.1 row),st):=hJ _ λp hm=>by
  refine⟨_,rfl,?_⟩
  have e:=la (st:=st) (b:=b) (row:=row) (At (hp p hm))
  have km:=B3 b p.1 row p.2
  unfold bb
  generalize ps.map au=PP
  generalize ax b=kd at e ⊢
  generalize ai p.1=tt at e ⊢
  exact al rfl (ar (ah (al rfl rfl (show atI [D.str kd,.tup PP] 0=_ from qR _ _)) (ah rfl (ah rfl rfl))) e) (gN _ km)
 have hs:aQ (ps.map λp=>.int (p.2*aP b p.1 row))=some (ps.map λp=>p.2*aP b p.1 row):=by
  have:=bp (ps.map λp=>p.2*aP b p.1 row)
  rw [List.map_map] at this;exact this
 have hz:(ps.map au).length<=1000000:=by rw [List.length_map];lia
 unfold cT
 generalize ps.map (λp=>p.2*aP b p.1 row)=L at hs ⊢
 generalize (ps.map λp=>D.int (p.2*aP b p.1 row))=LD at key hs
 unfold bb at key ⊢
 generalize ps.map au=PP at key hz ⊢
 generalize ax b=kd at key ⊢
 have hsm:jT st [.d (.lst LD)]=some (.int L.sum):=by
  show (aQ LD).map (λns=>D.int ns.sum)=_
  rw [hs];rfl
 exact ay (n:=2) (k:=2) (b:=b__law_value) rfl (aB (bg (ah (aF (bW (gs (al rfl rfl (show atI [D.str kd,.tup PP] 1=_ from qi _ _ _))) hz key)) rfl) hsm))
end Own
end
section
set_option maxHeartbeats 1000000
namespace Own
open PySem L2
theorem gI (k:List Int) (d:D) (r:List (List Int×D)) (t:List Int):vM ((k,d)::r) t=if k=t then some d else vM r t:=by
 unfold vM
 by_cases e:k=t
 ·rw [List.find?_cons_of_pos (by simpa using e),if_pos e];rfl
 ·rw [List.find?_cons_of_neg (by simpa using e),if_neg e]
theorem tE (kvs:List (List Int×D)) (k:List Int):(kvs.any λp=>decide (p.1=k))=decide (k ∈ kvs.map Prod.fst):=by
 induction kvs with
 | nil=>rfl
 | cons p r ih=>
  rw [List.any_cons,ih,List.map_cons]
  by_cases e:p.1=k
  ·simp [e]
  ·have:¬ k=p.1:=λz=>e z.symm
   simp [e,this]
theorem pQ (kvs:List (List Int×D)) (k:List Int) (d:D):(gq kvs k d).map Prod.fst=if k ∈ kvs.map Prod.fst then kvs.map Prod.fst else kvs.map Prod.fst++[k]:=by
 unfold gq
 rw [tE]
 by_cases h:k ∈ kvs.map Prod.fst
 ·rw [if_pos (decide_eq_true h),if_pos h,List.map_map]
  refine List.map_congr_left λp _=>?_
  show (if p.1=k then (p.1,d) else p).1=p.1
  split<;>rfl
 ·rw [if_neg (by simpa using h),if_neg h,List.map_append];rfl
theorem oR (k:List Int) (d:D) (j:List Int):∀ kvs:List (List Int×D),k ∈ kvs.map Prod.fst->vM (kvs.map λp=>if p.1=k then (p.1,d) else p) j=if j=k then some d else vM kvs j
 | [],h=>by cases h
 | (k',d')::r,h=>by
  rw [List.map_cons]
  by_cases e:k'=k
  ·rw [if_pos e,gI,gI]
   subst e
   by_cases ej:k'=j
   ·rw [if_pos ej,if_pos ej.symm]
   ·rw [if_neg ej,if_neg (λz=>ej z.symm),if_neg ej]
    by_cases hm:k' ∈ r.map Prod.fst
    ·rw [oR k' d j r hm,if_neg (λz=>ej z.symm)]
    ·have:(r.map λp=>if p.1=k' then (p.1,d) else p)=r:=by
      conv=>rhs;rw [<-List.map_id r]
      refine List.map_congr_left λp hp=>?_
      rw [if_neg (λz=>hm (by rw [<-z];exact List.mem_map_of_mem hp))];rfl
     rw [this]
  ·rw [if_neg e,gI,gI]
   rw [List.map_cons,List.mem_cons] at h
   have hm:k ∈ r.map Prod.fst:=h.resolve_left λz=>e z.symm
   rw [oR k d j r hm]
   by_cases ej:k'=j
   ·rw [if_pos ej,if_pos ej,if_neg (λz=>e (ej.trans z))]
   ·rw [if_neg ej,if_neg ej]
theorem vn (k:List Int) (d:D) (j:List Int):∀ kvs:List (List Int×D),k ∉ kvs.map Prod.fst->vM (kvs++[(k,d)]) j=if j=k then some d else vM kvs j
 | [],_=>by
  show vM [(k,d)] j=_
  rw [gI]
  by_cases e:k=j
  ·rw [if_pos e,if_pos e.symm]
  ·rw [if_neg e,if_neg (λz=>e z.symm)]
 | (k',d')::r,h=>by
  rw [List.map_cons,List.mem_cons,not_or] at h
  rw [List.cons_append,gI,gI,vn k d j r h.2]
  by_cases ej:k'=j
  ·rw [if_pos ej,if_pos ej,if_neg (λz=>h.1 (z.symm.trans ej.symm))]
  ·rw [if_neg ej,if_neg ej]
theorem yS (kvs:List (List Int×D)) (k:List Int) (d:D) (j:List Int):vM (gq kvs k d) j=if j=k then some d else vM kvs j:=by
 unfold gq
 rw [tE]
 by_cases h:k ∈ kvs.map Prod.fst
 ·rw [if_pos (decide_eq_true h)];exact oR k d j kvs h
 ·rw [if_neg (by simpa using h)];exact vn k d j kvs h
noncomputable def bA (L:List Prt) (t:List Int):Int:=((L.filter λp=>decide (p.1=t)).map Prod.snd).sum
theorem rq (L:List Prt) (p:Prt) (t:List Int):bA (L++[p]) t=bA L t+if p.1=t then p.2 else 0:=by
 unfold bA
 rw [List.filter_append,List.map_append,List.sum_append]
 congr 1
 by_cases e:p.1=t<;>simp [e]
theorem i4 {L:List Prt}{t:List Int} (h:t ∉ L.map Prod.fst):bA L t=0:=by
 unfold bA
 rw [List.filter_eq_nil_iff.mpr]
 ·rfl
 ·intro p hp e
  exact h (by rw [<-of_decide_eq_true e];exact List.mem_map_of_mem hp)
structure GK (kvs:List (List Int×D)) (L:List Prt):Prop where
 nd:(kvs.map Prod.fst).Nodup
 mem:∀ t,t ∈ kvs.map Prod.fst↔t ∈ L.map Prod.fst
 val:∀ t,vM kvs t=if t ∈ L.map Prod.fst then some (.int (bA L t)) else none
theorem GK.nil:GK [] []:=⟨List.nodup_nil,λt=>Iff.rfl,λt=>by simp [vM]⟩
theorem GK.getD {kvs:List (List Int×D)}{L:List Prt} (G:GK kvs L) (t:List Int):(vM kvs t).getD (.int 0)=.int (bA L t):=by
 rw [G.val t]
 by_cases h:t ∈ L.map Prod.fst
 ·rw [if_pos h];rfl
 ·rw [if_neg h,i4 h];rfl
theorem GK.put {kvs:List (List Int×D)}{L:List Prt} (G:GK kvs L) (p:Prt):GK (gq kvs p.1 (.int (bA L p.1+p.2))) (L++[p]):=by
 refine⟨?_,λt=>?_,λt=>?_⟩
 ·rw [pQ]
  split
  ·exact G.nd
  ·rename_i h
   rw [List.nodup_append]
   exact⟨G.nd,by simp,λa ha b hb e=>h (by rw [List.mem_singleton] at hb;rw [<-hb,<-e];exact ha)⟩
 ·rw [pQ,List.map_append,List.mem_append]
  split
  ·rename_i h
   rw [G.mem t]
   refine⟨.inl,λz=>z.elim id λz=>?_⟩
   have:t=p.1:=by simpa using z
   rw [this];exact (G.mem p.1).mp h
  ·rw [List.mem_append,G.mem t];rfl
 ·rw [yS,rq,G.val t,List.map_append]
  by_cases e:t=p.1
  ·subst e
   rw [if_pos rfl,if_pos rfl,if_pos (List.mem_append_right _ (by simp))]
  ·have hs:(bA L t+if p.1=t then p.2 else 0)=bA L t:=by rw [if_neg (λz=>e z.symm),Int.add_zero]
   rw [if_neg e,hs]
   have:(t ∈ List.map Prod.fst L++List.map Prod.fst [p])↔t ∈ L.map Prod.fst:=by simp [e]
   by_cases h:t ∈ L.map Prod.fst
   ·rw [if_pos h,if_pos (this.mpr h)]
   ·rw [if_neg h,if_neg (λz=>h (this.mp z))]
theorem so {α:Type} [DecidableEq α]:∀ {l m:List α},l.Nodup->(∀ x ∈ l,x ∈ m)->l.length<=m.length
 | [],m,_,_=>Nat.zero_le _
 | x::l,m,hn,hs=>by
  have hn':=List.nodup_cons.mp hn
  have hx:=hs x List.mem_cons_self
  have:=so (l:=l) (m:=m.erase x) hn'.2 λy hy=>(List.mem_erase_of_ne (λe=>hn'.1 (by rw [<-e];exact hy))).mpr (hs y (List.mem_cons_of_mem _ hy))
  rw [List.length_erase_of_mem hx] at this
  have hp:0 < m.length:=List.length_pos_of_mem hx
  rw [List.length_cons];lia
noncomputable def ksI (m:Nat):List Int:=(xU m).map λk=>((k:Nat):Int)
theorem tF {m:Nat}{z:Int}:z ∈ ksI m↔∃ k:Nat,z=k/\k < 6/\m.testBit k=true:=by
 unfold ksI
 rw [List.mem_map]
 exact⟨λ⟨k,h,e⟩=>⟨k,e.symm,(rC.mp h).1,(rC.mp h).2⟩,λ⟨k,e,h1,h2⟩=>⟨k,rC.mpr ⟨h1,h2⟩,e.symm⟩⟩
theorem sA (m:Nat):Trm 6 (ksI m):=by
 refine⟨?_,λk hk=>?_⟩
 ·unfold ksI xU
  rw [List.pairwise_map]
  have:(List.range 6).Pairwise (· < ·):=List.pairwise_lt_range
  exact (this.filter _).imp λ{a b} h=>by lia
 ·obtain⟨j,rfl,h,_⟩:=tF.mp hk
  lia
theorem uH (l:List Int):bO l=kz (l.map Int.toNat):=by unfold bO kz;rw [List.foldl_map]
theorem cV {t:List Int} (h:Trm 6 t) (j:Nat):(bO t).testBit j=decide ((j:Int) ∈ t):=by
 rw [uH,lQ]
 apply decide_eq_decide.mpr
 rw [List.mem_map]
 constructor
 ·rintro⟨z,hz,e⟩
  have:=(h.2 z hz).1
  have:(j:Int)=z:=by lia
  rw [this];exact hz
 ·intro hj
  exact⟨j,hj,by simp⟩
theorem t4 {t:List Int} (h:Trm 6 t):bO t < 64:=by
 refine Nat.lt_pow_two_of_testBit (n:=6) _ λj hj=>?_
 rw [cV h,decide_eq_false_iff_not]
 intro z
 have:=(h.2 _ z).2
 lia
theorem mP {t:List Int} (h:Trm 6 t):ksI (bO t)=t:=by
 have hm:∀ z,z ∈ ksI (bO t)↔z ∈ t:=λz=>by
  rw [tF]
  constructor
  ·rintro⟨k,rfl,_,hk⟩
   rw [cV h] at hk
   exact of_decide_eq_true hk
  ·intro hz
   have h1:=h.2 z hz
   obtain⟨k,rfl⟩:=Int.eq_ofNat_of_zero_le h1.1
   exact⟨k,rfl,by lia,by rw [cV h];exact decide_eq_true hz⟩
 have hn:∀ {l:List Int},l.Pairwise (· < ·)->l.Nodup:=λhl=>hl.imp λ{a b} hab e=>by lia
 refine List.Perm.eq_of_pairwise (le:=(· < ·)) (λa b _ _ h1 h2=>by lia) (sA _).1 h.1 ?_
 exact (List.perm_ext_iff_of_nodup (hn (sA _).1) (hn h.1)).mpr hm
theorem lu {l:List (List Int)} (hn:l.Nodup) (h:∀ t ∈ l,Trm 6 t):l.length<=64:=by
 have:=so (m:=(List.range 64).map ksI) hn λt ht=>List.mem_map.mpr ⟨bO t,List.mem_range.mpr (t4 (h t ht)),mP (h t ht)⟩
 rw [List.length_map,List.length_range] at this
 exact this
noncomputable def ltL (a b:List Int):Prop:=b9 a b=true
theorem zo {a b:List Int} (h:leL a b) (hne:a≠b):ltL a b:=by
 unfold ltL
 cases e:b9 a b with
 | true=>rfl
 | false=>exact absurd (ie a b e h) hne
theorem gp {l:List (List Int)} (hn:l.Nodup):(bv l).Pairwise ltL:=by
 have h2:(bv l).Nodup:=(bf l).nodup_iff.mpr hn
 exact (cO l).imp₂ (λa b h1 h2=>zo h1 h2) h2
noncomputable def aZ (ks:List (List Int)) (L:List Prt):List Prt:=(ks.filter λt=>decide (bA L t≠0)).map λt=>(t,bA L t)
theorem xu (s:Sto) (a:Int):dNe s (.d (.int a)) (.d (.int 0))=some (.bl (decide (a≠0))):=by
 show some (D.bl (!(a==0)))=_
 by_cases h:a=0<;>simp [h]
theorem sC {st:Sto}{kd:Str}{n:Nat}{kvs:List (List Int×D)}{L:List Prt} (hm:mgt st n=some kvs) (G:GK kvs L) (h6:∀ p ∈ L,Trm 6 p.1) :
  m_poly_from [.d (.str kd),.h n] st=some (.d (bb kd (aZ (bv (kvs.map Prod.fst)) L)),st):=by
 have htr:∀ t ∈ kvs.map Prod.fst,Trm 6 t:=λt ht=>by
  obtain⟨p,hp,rfl⟩:=List.mem_map.mp ((G.mem t).mp ht)
  exact h6 p hp
 have hlen:kvs.length<=64:=by
  have:=lu G.nd htr
  rw [List.length_map] at this;exact this
 have hsl:(bv (kvs.map Prod.fst)).length<=64:=by rw [(bf _).length_eq,List.length_map];exact hlen
 have hmem:∀ t ∈ bv (kvs.map Prod.fst),vM kvs t=some (.int (bA L t)):=λt ht=>by
  rw [G.val t,if_pos ((G.mem t).mp ((bf _).mem_iff.mp ht))]
 have mix:∀ t ∈ bv (kvs.map Prod.fst),tN (iV 1) (iV 0) [some (.d (ai t)),some (.h n)] st=some (.d (.int (bA L t)),st):=λt ht=>by
  have e1:aQ (t.map D.int)=some t:=bp t
  have e2:=hmem t ht
  simp only [tN,iV,ai,List.getD_cons_zero,List.getD_cons_succ,Option.map_some,Option.bind_some,hm,e1,e2]
 have key:=gh (g:=.nm 0) (tt:=iO) (te:=iI) (env:=[none,some (.h n)]) (st:=st) (λd=>match d with | .tup ds=>(match aQ ds with | some t=>decide (bA L t≠0) | none=>false) | _=>false) (λd=>match d with | .tup ds=>(match aQ ds with | some t=>au (t,bA L t) | none=>d) | d=>d) (ds:=(bv (kvs.map Prod.fst)).map ai) λd hd=>by
  obtain⟨t,ht,rfl⟩:=List.mem_map.mp hd
  have e1:aQ (t.map D.int)=some t:=bp t
  refine⟨_,rfl,?_,λ_=>?_⟩
  ·show _=some ((match aQ (t.map D.int) with | some t=>decide (bA L t≠0) | none=>false),st)
   rw [e1]
   exact az (mix t ht) rfl (xu _ _)
  ·show _=some (W.d (match aQ (t.map D.int) with | some t=>au (t,bA L t) | none=>ai t),st)
   rw [e1]
   exact cF (ah rfl (ah (mix t ht) rfl)) rfl (by show 2<=1000;decide)
 have e:((((bv (kvs.map Prod.fst)).map ai).filter (λd=>match d with | .tup ds=>(match aQ ds with | some t=>decide (bA L t≠0) | none=>false) | _=>false)).map (λd=>match d with | .tup ds=>(match aQ ds with | some t=>au (t,bA L t) | none=>d) | d=>d))=(aZ (bv (kvs.map Prod.fst)) L).map au:=by
  unfold aZ
  rw [List.filter_map,List.map_map,List.map_map]
  have e1:∀ t:List Int,aQ (t.map D.int)=some t:=bp
  congr 1
  ·funext t
   show (match aQ (t.map D.int) with | some t=>au (t,bA L t) | none=>ai t)=au (t,bA L t)
   rw [e1]
  ·refine List.filter_congr λt _=>?_
   show (match aQ (t.map D.int) with | some t=>decide (bA L t≠0) | none=>false)=_
   rw [e1]
 rw [e] at key
 have hso:jG (iV 1) [some (.d (.str kd)),some (.h n)] st=some ((bv (kvs.map Prod.fst)).map ai,st):=by
  simp only [jG,iV,List.getD_cons_zero,List.getD_cons_succ,Option.map_some,Option.bind_some,hm,hlen,if_true]
 have hit:ba (aV (jG (iV 1))) [some (.d (.str kd)),some (.h n)] st=some ((bv (kvs.map Prod.fst)).map ai,st):=by
  simp only [ba,aV,hso,Option.map_some,Option.bind_some]
 have hz:((bv (kvs.map Prod.fst)).map ai).length<=1000000:=by rw [List.length_map];lia
 unfold bb
 exact ay (n:=2) (k:=2) (b:=b_poly_from) rfl (aB (cF (ah rfl (ah (bg (ah (aF (bW hit hz key)) rfl) rfl) rfl)) rfl (by show 2<=1000;decide)))
theorem ip (st:Sto) (kvs:List (List Int×D)):mgt (st++[.m kvs]) st.length=some kvs:=by
 unfold mgt
 rw [List.getElem?_append_right (Nat.le_refl _),Nat.sub_self];rfl
theorem uS {st:Sto}{n:Nat}{ds:List D} (h:lg st n=some ds) (u:Sto):lg (st++u) n=some ds:=by
 have hn:st[n]?=some (.l ds):=sM h
 have hlt:=(List.getElem?_eq_some_iff.mp hn).1
 unfold lg
 rw [List.getElem?_append_left hlt,hn]
theorem wy {st:Sto}{kvs:List (List Int×D)}{L:List Prt}{a0 a1:Option W}{p:Prt} (G:GK kvs L) (hl:kvs.length < 1000) :
  bZ [a0,a1,some (.h st.length),some (.d (ai p.1)),some (.d (.int p.2))] (st++[.m kvs])=some (.nx [a0,a1,some (.h st.length),some (.d (ai p.1)),some (.d (.int p.2))] (st++[.m (gq kvs p.1 (.int (bA L p.1+p.2)))])):=by
 have e1:aQ (p.1.map D.int)=some p.1:=bp p.1
 have e2:=ip st kvs
 have e3:=G.getD p.1
 have e4:(st++[C.m kvs]).set st.length (.m (gq kvs p.1 (.int (bA L p.1+p.2))))=st++[.m (gq kvs p.1 (.int (bA L p.1+p.2)))]:=by
  rw [List.set_append_right _ _ (Nat.le_refl _),Nat.sub_self];rfl
 have g:kh (iV 2) (iV 3) (iC (.int 0)) [a0,a1,some (.h st.length),some (.d (ai p.1)),some (.d (.int p.2))] (st++[.m kvs])=some (.d (.int (bA L p.1)),st++[.m kvs]):=by
  simp only [kh,iV,iC,ai,List.getD_cons_zero,List.getD_cons_succ,Option.map_some,Option.bind_some,e1,e2,e3]
 have g2:=al (g:=dL) (b:=iV 4) (y:=.d (.int p.2)) (d:=.int (bA L p.1+p.2)) g rfl rfl
 simp only [ai] at g2 ⊢
 simp only [bZ,nO,g2,iV,List.getD_cons_zero,List.getD_cons_succ,Option.map_some,Option.bind_some,e1,e2,hl,if_true,e4]
noncomputable def xm (st:Sto) (w:W) (L:List Prt):Prop:=w=.d (.tup (L.map au))\/w=.d (.lst (L.map au))\/∃ n,w=.h n/\lg st n=some (L.map au)
theorem uT {kvs:List (List Int×D)}{L:List Prt} (G:GK kvs L) (h6:∀ p ∈ L,Trm 6 p.1):kvs.length<=64:=by
 have:=lu G.nd λt ht=>by
  obtain⟨p,hp,rfl⟩:=List.mem_map.mp ((G.mem t).mp ht)
  exact h6 p hp
 rw [List.length_map] at this;exact this
theorem xZ {st:Sto}{kd:Str}{w:W}{L:List Prt} (hw:xm st w L) (h6:∀ p ∈ L,Trm 6 p.1) :
  ∃ ks:List (List Int),ks.Pairwise ltL/\ks.Nodup/\(∀ t,t ∈ ks↔t ∈ L.map Prod.fst)/\m_gathered [.d (.str kd),w] st=some (.d (bb kd (aZ ks L)),st):=by
 have step:∀ (i:Nat) (d:D) (env:Ev) (s:Sto),(L.map au)[i]?=some d->(∃ o3 o4 kvs,env=[some (.d (.str kd)),some w,some (.h st.length),o3,o4]/\s=st++[.m kvs]/\GK kvs (L.take i))->
   ∃ e1 e2 s2,gg (.tp [3,4]) (.d d) env=some e1/\(bZ e1 s=some (.nx e2 s2)\/bZ e1 s=some (.ct e2 s2))/\∃ o3 o4 kvs,e2=[some (.d (.str kd)),some w,some (.h st.length),o3,o4]/\s2=st++[.m kvs]/\GK kvs (L.take (i+1)):=by
  rintro i d env s hd ⟨o3,o4,kvs,rfl,rfl,G⟩
  obtain⟨p,hp,rfl⟩:=jX hd
  have hlen:=uT G λq hq=>h6 q (List.mem_of_mem_take hq)
  have htk:L.take (i+1)=L.take i++[p]:=by rw [List.take_add_one,hp];rfl
  exact⟨_,_,_,rfl,.inl (wy G (by lia)),_,_,_,rfl,rfl,by rw [htk];exact G.put p⟩
 have fin:∀ (kvs:List (List Int×D)) (o3 o4:Option W),GK kvs L->pV (iV 1) (.tp [3,4]) bZ [some (.d (.str kd)),some w,some (.h st.length),none,none] (st++[.m []])=some (.nx [some (.d (.str kd)),some w,some (.h st.length),o3,o4] (st++[.m kvs]))->
   ∃ ks:List (List Int),ks.Pairwise ltL/\ks.Nodup/\(∀ t,t ∈ ks↔t ∈ L.map Prod.fst)/\m_gathered [.d (.str kd),w] st=some (.d (bb kd (aZ ks L)),st):=by
  intro kvs o3 o4 G hF
  refine⟨bv (kvs.map Prod.fst),gp G.nd,(bf _).nodup_iff.mpr G.nd,λt=>((bf _).mem_iff).trans (G.mem t),?_⟩
  have hf:=sC (st:=st++[.m kvs]) (kd:=kd) (ip st kvs) G h6
  have hq:=ge (n:=5) (k:=2) (b:=b_gathered) (ws:=[.d (.str kd),w]) (st:=st) (s:=st++[.m kvs]) (x:=bb kd (aZ (bv (kvs.map Prod.fst)) L)) rfl
   (am (aC (w:=.h st.length) (s:=st++[C.m []]) rfl) (am hF (aB (ar rfl hf))))
  have ht:(st++[C.m kvs]).take st.length=st:=by rw [List.take_left'];rfl
  rw [ht] at hq
  exact hq
 rcases hw with rfl | rfl | ⟨n,rfl,hn⟩
 ·obtain⟨e',s',hF,o3,o4,kvs,rfl,rfl,G⟩:=cf (g:=.tp [3,4]) (body:=bZ) (ds:=L.map au) (λi env s=>∃ o3 o4 kvs,env=[some (.d (.str kd)),some (.d (.tup (L.map au))),some (.h st.length),o3,o4]/\s=st++[.m kvs]/\GK kvs (L.take i)) (env:=[some (.d (.str kd)),some (.d (.tup (L.map au))),some (.h st.length),none,none]) (st:=st++[.m []]) ⟨none,none,[],rfl,rfl,GK.nil⟩ step
  rw [List.length_map,List.take_length] at G
  exact fin kvs o3 o4 G hF
 ·obtain⟨e',s',hF,o3,o4,kvs,rfl,rfl,G⟩:=cf (g:=.tp [3,4]) (body:=bZ) (ds:=L.map au) (λi env s=>∃ o3 o4 kvs,env=[some (.d (.str kd)),some (.d (.lst (L.map au))),some (.h st.length),o3,o4]/\s=st++[.m kvs]/\GK kvs (L.take i)) (env:=[some (.d (.str kd)),some (.d (.lst (L.map au))),some (.h st.length),none,none]) (st:=st++[.m []]) ⟨none,none,[],rfl,rfl,GK.nil⟩ step
  rw [List.length_map,List.take_length] at G
  exact fin kvs o3 o4 G hF
 ·obtain⟨e',s',hF,o3,o4,kvs,rfl,rfl,G⟩:=pZ (n:=n) (all:=L.map au) (g:=.tp [3,4]) (body:=bZ) (ds:=L.map au) (λi env s=>∃ o3 o4 kvs,env=[some (.d (.str kd)),some (.h n),some (.h st.length),o3,o4]/\s=st++[.m kvs]/\GK kvs (L.take i)) (env:=[some (.d (.str kd)),some (.h n),some (.h st.length),none,none]) (st:=st++[.m []]) ⟨none,none,[],rfl,rfl,GK.nil⟩ (by
   rintro i env s ⟨o3,o4,kvs,rfl,rfl,G⟩
   exact uS hn _) step
  rw [List.length_map,List.take_length] at G
  refine fin kvs o3 o4 G ?_
  have:=uS hn [C.m []]
  simp only [pV,iV,List.getD_cons_zero,List.getD_cons_succ,Option.map_some,Option.bind_some,this]
  exact hF
theorem gY {α:Type}:∀ l:List α,(l.map λ_=>(0:Int)).sum=0
 | []=>rfl
 | x::l=>by rw [List.map_cons,List.sum_cons,gY l];rfl
theorem lv (p:Prt) (L:List Prt) (t:List Int):bA (p::L) t=(if p.1=t then p.2 else 0)+bA L t:=by
 unfold bA
 rw [List.filter_cons]
 by_cases e:p.1=t
 ·rw [if_pos (decide_eq_true e),if_pos e,List.map_cons,List.sum_cons]
 ·rw [if_neg (by simpa using e),if_neg e,Int.zero_add]
theorem lF (f:List Int->Int) (c:Int) (t:List Int):∀ ks:List (List Int),ks.Nodup->t ∈ ks->(ks.map λk=>(if t=k then c else 0)*f k).sum=c*f t
 | [],_,h=>by cases h
 | k::ks,hn,h=>by
  have hn':=List.nodup_cons.mp hn
  rw [List.map_cons,List.sum_cons]
  by_cases e:t=k
  ·subst e
   rw [if_pos rfl]
   have:(ks.map λk=>(if t=k then c else 0)*f k).sum=0:=by
    have:(ks.map λk=>(if t=k then c else 0)*f k)=ks.map λ_=>(0:Int):=List.map_congr_left λk hk=>by
     rw [if_neg (λz=>hn'.1 (by rw [z];exact hk)),Int.zero_mul]
    rw [this,gY]
   rw [this,Int.add_zero]
  ·rw [if_neg e,Int.zero_mul,Int.zero_add]
   exact lF f c t ks hn'.2 ((List.mem_cons.mp h).resolve_left e)
theorem oJ {α:Type} (f g:α->Int):∀ l:List α,(l.map λx=>f x+g x).sum=(l.map f).sum+(l.map g).sum
 | []=>rfl
 | x::l=>by rw [List.map_cons,List.map_cons,List.map_cons,List.sum_cons,List.sum_cons,List.sum_cons,oJ f g l];lia
theorem md (f:List Int->Int) {ks:List (List Int)} (hn:ks.Nodup):∀ L:List Prt,(∀ p ∈ L,p.1 ∈ ks)->(ks.map λt=>bA L t*f t).sum=(L.map λp=>p.2*f p.1).sum
 | [],_=>by
  have:(ks.map λt=>bA [] t*f t)=ks.map λ_=>(0:Int):=List.map_congr_left λt _=>by show (0:Int)*_=0;rw [Int.zero_mul]
  rw [this,gY];rfl
 | p::L,h=>by
  rw [List.map_cons,List.sum_cons,<-md f hn L λq hq=>h q (List.mem_cons_of_mem _ hq)]
  have e:(ks.map λt=>bA (p::L) t*f t)=ks.map λt=>(if p.1=t then p.2 else 0)*f t+bA L t*f t:=List.map_congr_left λt _=>by
   rw [lv,Int.add_mul]
  rw [e,oJ,lF f p.2 p.1 ks hn (h p List.mem_cons_self)]
theorem nq (f:List Int->Int) (ks:List (List Int)) (L:List Prt):((aZ ks L).map λp=>p.2*f p.1).sum=(ks.map λt=>bA L t*f t).sum:=by
 unfold aZ
 rw [List.map_map]
 induction ks with
 | nil=>rfl
 | cons t ks ih=>
  rw [List.filter_cons]
  by_cases h:bA L t=0
  ·rw [if_neg (by simp [h]),List.map_cons,List.sum_cons,h,Int.zero_mul,Int.zero_add];exact ih
  ·rw [if_pos (by simp [h]),List.map_cons,List.map_cons,List.sum_cons,List.sum_cons,ih];rfl
theorem qw {b:Bool}{row:Int}{ks:List (List Int)}{L:List Prt} (hn:ks.Nodup) (hm:∀ t,t ∈ ks↔t ∈ L.map Prod.fst):cT b (aZ ks L) row=cT b L row:=by
 unfold cT
 rw [nq (λt=>aP b t row),md (λt=>aP b t row) hn L λp hp=>(hm p.1).mpr (List.mem_map_of_mem hp)]
noncomputable def iT (ps:List Prt):Prop:=(∀ p ∈ ps,Trm 6 p.1/\p.2≠0)/\(ps.map Prod.fst).Pairwise ltL/\ps.length<=64
theorem nQ {ks:List (List Int)}{L:List Prt} (hs:ks.Pairwise ltL) (hn:ks.Nodup) (hm:∀ t,t ∈ ks↔t ∈ L.map Prod.fst) (h6:∀ p ∈ L,Trm 6 p.1):iT (aZ ks L):=by
 have htr:∀ t ∈ ks,Trm 6 t:=λt ht=>by
  obtain⟨p,hp,rfl⟩:=List.mem_map.mp ((hm t).mp ht)
  exact h6 p hp
 refine⟨λp hp=>?_,?_,?_⟩
 ·unfold aZ at hp
  obtain⟨t,ht,rfl⟩:=List.mem_map.mp hp
  have:=List.mem_filter.mp ht
  exact⟨htr t this.1,of_decide_eq_true this.2⟩
 ·unfold aZ
  rw [List.map_map]
  have:(Prod.fst ∘ λt=>(t,bA L t))=(id:List Int->List Int):=rfl
  rw [this,List.map_id]
  exact hs.filter _
 ·unfold aZ
  rw [List.length_map]
  exact Nat.le_trans (List.length_filter_le _ _) (lu hn htr)
end Own
end
section
set_option maxHeartbeats 1000000
namespace Own
open PySem L2
theorem qP (ds:List D) (j:Nat):jO ds (some (j:Int)) none=ds.drop j:=by
 unfold jO
 rw [HT.sIx_nat,HT.sIx_none]
 by_cases h:j<=ds.length
 ·rw [Nat.min_eq_left h,List.take_of_length_le (by rw [List.length_drop];exact Nat.le_refl _)]
 ·rw [Nat.min_eq_right (by lia),List.drop_eq_nil_of_le (Nat.le_refl _),List.drop_eq_nil_of_le (by lia),List.take_nil]
theorem ix0 (s:Sto) (a:D) (l:List D):dIx s (.d (.tup (a::l))) (.d (.int 0))=some a:=by simp only [dIx,gz,Option.bind_some,qR]
theorem ix1 (s:Sto) (a b:D) (l:List D):dIx s (.d (.tup (a::b::l))) (.d (.int 1))=some b:=by simp only [dIx,gz,Option.bind_some,qi]
theorem qU {st:Sto} (i:Int):m__law_is_whole [.d (.int i)] st=some (.d (.bl true),st):=by
 rfl
theorem mM {f:Ef}{env:Ev}{st s:Sto}{k:Bool} (h:f env st=some (.d (.bl k),s)):iZ jc f env st=some (k,s):=by
 simp only [iZ,h,Option.bind_some,jc,Option.map_some]
theorem ic {f:Tf}{env:Ev}{st s:Sto}{k:Bool} (h:f env st=some (k,s)):e8 f env st=some (!k,s):=by
 simp only [e8,h,Option.bind_some,Option.map_some]
theorem kr {a b:Tf}{env:Ev}{st s s':Sto}{k:Bool} (ha:a env st=some (false,s)) (hb:b env s=some (k,s')):kN a b env st=some (k,s'):=by
 simp only [kN,ha,hb,Option.bind_some,Bool.false_eq_true,if_false]
theorem xJ {a:Af}{env:Ev}{st s:Sto}{bs:List Bool} (h:a env st=some ([.d (.lst (bs.map D.bl))],s)):iCB rE a env st=some (.d (.bl (bs.all id)),s):=by
 refine bg h ?_
 show (jV (bs.map D.bl)).map (λns=>D.bl (ns.all id))=_
 rw [mm];rfl
noncomputable def ups {α:Type} (R:α->α->Bool):List α->Bool
 | x::y::r=>R x y && ups R (y::r)
 | _=>true
theorem rm {α:Type}{R:α->α->Bool}:∀ {l:List α},l.Pairwise (λa b=>R a b=true)->ups R l=true
 | [],_=>rfl
 | [x],_=>rfl
 | x::y::r,h=>by
  have h':=List.pairwise_cons.mp h
  rw [ups,h'.1 y List.mem_cons_self,Bool.true_and]
  exact rm h'.2
theorem rn {α:Type}{te:Ef}{env:Ev}{st:Sto} (F:α->D) (R:α->α->Bool) (h:∀ a b,∃ e1,gg (.tp [0,1]) (.d (.tup [F a,F b])) env=some e1/\te e1 st=some (.d (.bl (R a b)),st)) :
  ∀ l:List α,∃ bs:List Bool,lcI (.tp [0,1]) bN te env (fT (l.map F) ((l.map F).drop 1)) st=some (bs.map D.bl,st)/\bs.all id=ups R l
 | []=>⟨[],rfl,rfl⟩
 | [x]=>⟨[],rfl,rfl⟩
 | x::y::r=>by
  obtain⟨bs,h1,h2⟩:=rn F R h (y::r)
  obtain⟨e1,g1,g2⟩:=h x y
  refine⟨R x y::bs,?_,by rw [List.all_cons,h2,ups];rfl⟩
  have e:fT ((x::y::r).map F) (((x::y::r).map F).drop 1)=.tup [F x,F y]::fT ((y::r).map F) (((y::r).map F).drop 1):=rfl
  rw [e]
  unfold lcI
  rw [g1,Option.bind_some,show bN e1 st=some (true,st) from rfl,Option.bind_some,if_pos rfl,g2,Option.bind_some,h1];rfl
theorem oj:∀ (a b:List D),(fT a b).length<=a.length
 | [],_=>Nat.le_refl _
 | _::_,[]=>Nat.zero_le _
 | x::a,y::b=>by rw [fT,List.length_cons,List.length_cons];have:=oj a b;lia
theorem uk {st:Sto}{t:List Int} (h:Trm 6 t):m__law_is_term [.d (ai t)] st=some (.d (.bl true),st):=by
 have hl:=fJ h
 have k1:lcI (.nm 0) bN fZ [none] (t.map D.int) st=some ((t.map λ_=>true).map D.bl,st):=by
  rw [List.map_map]
  have:t.map (D.bl ∘ λ_=>true)=(t.map D.int).map λ_=>D.bl true:=by rw [List.map_map];rfl
  rw [this]
  refine d3 _ λd hd=>?_
  obtain⟨k,hk,rfl⟩:=List.mem_map.mp hd
  have h1:=h.2 k hk
  refine⟨_,rfl,?_⟩
  have e:=qU (st:=st) k
  have c1:decide (0<=k)=true:=decide_eq_true h1.1
  have c2:decide (k < 6)=true:=decide_eq_true h1.2
  have q1:aE m__law_is_whole (ae (iV 0) aj) [some (.d (.int k))] st=some (.d (.bl true),st):=ar rfl e
  have q2:jM dLe dLt (iC (.int 0)) (iV 0) (iC (.int 6)) [some (.d (.int k))] st=some (.d (.bl true),st):=by
   have r1:dLe st (.d (.int 0)) (.d (.int k))=some (.bl true):=by rw [<-c1];rfl
   have r2:dLt st (.d (.int k)) (.d (.int 6))=some (.bl true):=by rw [<-c2];rfl
   have v0:iV 0 [some (.d (.int k))] st=some (.d (.int k),st):=rfl
   have v1:∀ x:D,iC x [some (.d (.int k))] st=some (.d x,st):=λx=>rfl
   simp only [jM,v0,v1,r1,r2,Option.bind_some,vK,if_true,Option.map_some]
  show nC (aE m__law_is_whole (ae (iV 0) aj)) (jM dLe dLt (iC (.int 0)) (iV 0) (iC (.int 6))) [some (.d (.int k))] st=_
  simp only [nC,q1,q2,Option.bind_some,blW,if_true]
 obtain⟨bs,k2,k3⟩:=rn (te:=gt) (env:=[none,none]) (st:=st) D.int (λa b=>decide (a < b)) (λa b=>⟨_,rfl,rfl⟩) t
 have a1:(t.map λ_=>true).all id=true:=by rw [List.all_map];exact List.all_eq_true.mpr λ_ _=>rfl
 have a2:bs.all id=true:=by rw [k3];exact rm (h.1.imp λ{a b} hab=>decide_eq_true hab)
 have hz1:(t.map D.int).length<=1000000:=by rw [List.length_map];lia
 have hz2:(fT (t.map D.int) ((t.map D.int).drop 1)).length<=1000000:=by
  have:=oj (t.map D.int) ((t.map D.int).drop 1)
  lia
 have s1:iSl (iV 0) (iPs (iC (.int 1))) iPn [some (.d (ai t))] st=some (.d (.tup ((t.map D.int).drop 1)),st):=by
  show some (W.d (.tup (jO (t.map D.int) (some (1:Int)) none)),st)=_
  rw [show (1:Int)=((1:Nat):Int) from rfl,qP]
 have z1:kl (ae (iV 0) (ae (iSl (iV 0) (iPs (iC (.int 1))) iPn) aj)) [some (.d (ai t))] st=some (fT (t.map D.int) ((t.map D.int).drop 1),st):=by
  have:=ah (a:=iV 0) (b:=ae (iSl (iV 0) (iPs (iC (.int 1))) iPn) aj) (env:=[some (.d (ai t))]) (st:=st) rfl (ah s1 rfl)
  simp only [kl,this,Option.bind_some]
  rfl
 have q1:=xJ (bs:=t.map λ_=>true) (ah (b:=aj) (aF (bW (k:=1) (js:=[]) (env:=[some (.d (ai t))]) (d7 (f:=iV 0) rfl) hz1 k1)) rfl)
 have q2:=xJ (bs:=bs) (ah (b:=aj) (aF (bW (k:=2) (js:=[]) (env:=[some (.d (ai t))]) z1 hz2 k2)) rfl)
 rw [a1] at q1
 rw [a2] at q2
 have i1:iCB jB (ae (iV 0) (ae (iC (.ty "tuple")) aj)) [some (.d (ai t))] st=some (.d (.bl true),st):=rfl
 exact ay (n:=1) (k:=1) (b:=b__law_is_term) rfl (am (cA (kr (ic (mM i1)) (ic (mM q1))) rfl) (aB q2))
theorem i5 (s:Sto) (a b:Str):dEq s (.d (.str a)) (.d (.str b))=some (.bl (a==b)):=by
 first | exact sB s a b | exact jl s a b
theorem yW (s:Sto) (a b:Str):dNe s (.d (.str a)) (.d (.str b))=some (.bl (!(a==b))):=by
 show ((eqK (.fl (.str a)) (.fl (.str b))).map λk=>D.bl (!k))=_
 rfl
theorem jE (s:Sto) (a b:Int):dEq s (.d (.int a)) (.d (.int b))=some (.bl (a==b)):=by
 first | exact sB s a b | exact jl s a b
theorem rS (s:Sto) (a b:Int):dNe s (.d (.int a)) (.d (.int b))=some (.bl (!(a==b))):=by
 show ((eqK (.fl (.int a)) (.fl (.int b))).map λk=>D.bl (!k))=_
 rfl
theorem tO {st:Sto}{a0:Option W}{p:Prt} (h:Trm 6 p.1) (h0:p.2≠0):dX [a0,some (.d (au p))] st=some (.nx [a0,some (.d (au p))] st):=by
 have e1:=uk (st:=st) h
 have e2:=qU (st:=st) p.2
 have f0:(p.2==(0:Int))=false:=by simp [h0]
 unfold au
 generalize ai p.1=tt at e1 ⊢
 have i1:iCB jB (ae (iV 1) (ae (iC (.ty "tuple")) aj)) [a0,some (.d (.tup [tt,.int p.2]))] st=some (.d (.bl true),st):=rfl
 have n2:di dNe (iCB eD (ae (iV 1) aj)) (iC (.int 2)) [a0,some (.d (.tup [tt,.int p.2]))] st=some (false,st):=az (x:=.d (.int 2)) (y:=.d (.int 2)) rfl rfl (by rw [rS];rfl)
 exact am (cA (kr (ic (mM i1)) (kr n2 (ic (mM (ar (ah (al rfl rfl (ix0 _ _ _)) rfl) e1))))) rfl) (cA (kr (ic (mM (ar (ah (al rfl rfl (ix1 _ _ _ _)) rfl) e2))) (az (al rfl rfl (ix1 _ _ _ _)) rfl (by rw [jE,f0]))) rfl)
theorem tT {st:Sto}{b:Bool}{ps:List Prt} (h:iT ps):m__law_is_poly [.d (bb (ax b) ps)] st=some (.d (.bl true),st):=by
 obtain⟨h1,h2,h3⟩:=h
 obtain⟨e',s',hF,o,rfl,rfl⟩:=cf (g:=.nm 1) (body:=dX) (ds:=ps.map au) (λi env s=>∃ o,env=[some (.d (bb (ax b) ps)),o]/\s=st) (env:=[some (.d (bb (ax b) ps)),none]) (st:=st) ⟨none,rfl,rfl⟩ (by
  rintro i d env s hd ⟨o,rfl,rfl⟩
  rw [List.getElem?_map,Option.map_eq_some_iff] at hd
  obtain⟨p,hp,rfl⟩:=hd
  have:=h1 p (List.mem_of_getElem? hp)
  exact⟨_,_,_,rfl,.inl (tO this.1 this.2),_,rfl,rfl⟩)
 obtain⟨bs,k2,k3⟩:=rn (te:=gj) (env:=[none,none]) (st:=s') au (λa b=>b9 a.1 b.1) (λa b=>⟨_,rfl,al (al rfl rfl (ix0 _ _ _)) (al rfl rfl (ix0 _ _ _)) (by
  show (aQ (a.1.map D.int)).bind (λns=>(aQ (b.1.map D.int)).map λms=>D.bl (b9 ns ms))=_
  rw [bp,bp];rfl)⟩) ps
 have a2:bs.all id=true:=by
  rw [k3]
  refine rm ?_
  rw [List.pairwise_map] at h2
  exact h2
 have hz2:(fT (ps.map au) ((ps.map au).drop 1)).length<=1000000:=by
  have:=oj (ps.map au) ((ps.map au).drop 1)
  rw [List.length_map] at this
  lia
 unfold bb at hF ⊢
 generalize ps.map au=PP at *
 have s1:iSl (iOp dIx (iV 0) (iC (.int 1))) (iPs (iC (.int 1))) iPn [some (.d (.tup [.str (ax b),.tup PP])),o] s'=some (.d (.tup (PP.drop 1)),s'):=by
  have e0:iOp dIx (iV 0) (iC (.int 1)) [some (.d (.tup [.str (ax b),.tup PP])),o] s'=some (.d (.tup PP),s'):=al rfl rfl (ix1 _ _ _ _)
  simp only [iSl,e0,Option.bind_some,iPs,iPn,iC,Option.map_some]
  show (dSl s' (.d (.tup PP)) (some (1:Int)) none).map (λd=>(W.d d,s'))=_
  show some (W.d (.tup (jO PP (some (1:Int)) none)),s')=_
  rw [show (1:Int)=((1:Nat):Int) from rfl,qP]
 have z1:kl (ae (iOp dIx (iV 0) (iC (.int 1))) (ae (iSl (iOp dIx (iV 0) (iC (.int 1))) (iPs (iC (.int 1))) iPn) aj)) [some (.d (.tup [.str (ax b),.tup PP])),o] s'=some (fT PP (PP.drop 1),s'):=by
  have:=ah (a:=iOp dIx (iV 0) (iC (.int 1))) (b:=ae (iSl (iOp dIx (iV 0) (iC (.int 1))) (iPs (iC (.int 1))) iPn) aj) (env:=[some (.d (.tup [.str (ax b),.tup PP])),o]) (st:=s') (al rfl rfl (ix1 _ _ _ _)) (ah s1 rfl)
  simp only [kl,this,Option.bind_some,wZ,Option.map_some]
 have q2:=xJ (bs:=bs) (ah (b:=aj) (aF (bW (k:=2) (js:=[]) (env:=[some (.d (.tup [.str (ax b),.tup PP])),o]) z1 hz2 k2)) rfl)
 rw [a2] at q2
 have i1:iCB jB (ae (iV 0) (ae (iC (.ty "tuple")) aj)) [some (.d (.tup [.str (ax b),.tup PP])),none] s'=some (.d (.bl true),s'):=rfl
 have n2:di dNe (iCB eD (ae (iV 0) aj)) (iC (.int 2)) [some (.d (.tup [.str (ax b),.tup PP])),none] s'=some (false,s'):=az (x:=.d (.int 2)) (y:=.d (.int 2)) rfl rfl (by rw [rS];rfl)
 have i2:iCB jB (ae (iOp dIx (iV 0) (iC (.int 0))) (ae (iC (.ty "str")) aj)) [some (.d (.tup [.str (ax b),.tup PP])),none] s'=some (.d (.bl true),s'):=bg (ah (al rfl rfl (ix0 _ _ _)) rfl) rfl
 have i3:iCB jB (ae (iOp dIx (iV 0) (iC (.int 1))) (ae (iC (.ty "tuple")) aj)) [some (.d (.tup [.str (ax b),.tup PP])),none] s'=some (.d (.bl true),s'):=bg (ah (al rfl rfl (ix1 _ _ _ _)) rfl) rfl
 have n3:di oP (iOp dIx (iV 0) (iC (.int 0))) (bm (ae (iC (.str "both")) (ae (iC (.str "odd")) aj))) [some (.d (.tup [.str (ax b),.tup PP])),none] s'=some (false,s'):=by
  refine az (al rfl rfl (ix0 _ _ _)) (cF (ds:=[.str "both",.str "odd"]) rfl rfl (by decide)) ?_
  have hin:inD (.str (ax b)) [.str "both",.str "odd"]=true:=by cases b<;>decide
  show (if dA (.str (ax b))=true/\[D.str "both",.str "odd"].all dA=true then some (D.bl (!inD (.str (ax b)) [.str "both",.str "odd"])) else none)=_
  rw [if_pos ⟨rfl,rfl⟩,hin];rfl
 exact ay (n:=2) (k:=1) (b:=b__law_is_poly) rfl (am (cA (kr (ic (mM i1)) (kr n2 (ic (mM i2)))) rfl) (am (cA (kr n3 (ic (mM i3))) rfl)
  (am (dq (d7 (al rfl rfl (ix1 _ _ _ _))) hF) (aB q2))))
noncomputable def spF (s k:Int) (q:Prt):Prt:=(q.1++[k],q.2*s)
noncomputable def spS (s:Int) (L:List Prt) (k:Int):List Prt:=L++L.map (spF s k)
noncomputable def spL (s c:Int) (t:List Int):List Prt:=t.foldl (spS s) [(([]:List Int),c)]
theorem pO (b:Bool) (row:Int) (a c:List Prt):cT b (a++c) row=cT b a row+cT b c row:=by unfold cT;rw [List.map_append,List.sum_append]
theorem gu (b:Bool) (row:Int) (q:Prt) (L:List Prt):cT b (q::L) row=q.2*aP b q.1 row+cT b L row:=by unfold cT;rw [List.map_cons,List.sum_cons]
theorem jK (b:Bool) (t:List Int) (k row:Int):aP b (t++[k]) row=aP b t row*df b (onI row k):=by
 have h1:=fj b row (t++[k]) 1
 have h2:=fj b row t 1
 rw [List.foldl_append,h2,Int.one_mul,Int.one_mul] at h1
 exact h1.symm
theorem uB (b:Bool) (t:List Int) (k row:Int):aP b (k::t) row=df b (onI row k)*aP b t row:=by
 have h1:=fj b row (k::t) 1
 rw [List.foldl_cons,fj,Int.one_mul,Int.one_mul] at h1
 exact h1.symm
theorem nK (b:Bool) (row s k:Int):∀ L:List Prt,cT b (L.map (spF s k)) row=cT b L row*(s*df b (onI row k))
 | []=>by show (0:Int)=0*_;rw [Int.zero_mul]
 | q::L=>by
  have ih:=nK b row s k L
  rw [List.map_cons,gu,gu,ih,Int.add_mul]
  congr 1
  show q.2*s*aP b (q.1++[k]) row=_
  rw [jK,Int.mul_assoc,Int.mul_assoc]
  congr 1
  rw [<-Int.mul_assoc,Int.mul_comm s,Int.mul_assoc]
theorem vq (b:Bool) (row s k:Int) (L:List Prt):cT b (spS s L k) row=cT b L row*(1+s*df b (onI row k)):=by
 unfold spS
 rw [pO,nK,Int.mul_add,Int.mul_one]
theorem o6 (b:Bool) (row s:Int):∀ (t:List Int) (L:List Prt),cT b (t.foldl (spS s) L) row=t.foldl (λv k=>v*(1+s*df b (onI row k))) (cT b L row)
 | [],_=>rfl
 | k::t,L=>by rw [List.foldl_cons,List.foldl_cons,o6 b row s t,vq]
theorem wF (c row:Int) (t:List Int):cT true (spL (-2) c t) row=c*aP false t row:=by
 unfold spL
 rw [o6,<-fj]
 have e:cT true [(([]:List Int),c)] row=c:=by simp [cT,aP,ef]
 have h:∀ k,(1+-2*df true (onI row k))=df false (onI row k):=λk=>by
  simp only [df,if_true,Bool.false_eq_true,if_false];lia
 simp only [h,e]
theorem yG (row:Int):∀ (t:List Int) (a:Int),t.foldl (λv k=>v*(2*df true (onI row k))) a=a*(2 ^ t.length*aP true t row)
 | [],a=>by simp [aP,ef]
 | k::t,a=>by
  rw [List.foldl_cons,yG row t,uB,List.length_cons,Int.pow_succ,Int.mul_assoc]
  congr 1
  generalize df true (onI row k)=f
  generalize aP true t row=v
  generalize (2:Int) ^ t.length=p
  rw [Int.mul_assoc 2 f,Int.mul_left_comm f p v,<-Int.mul_assoc 2 p,Int.mul_comm 2 p]
theorem xr (c row:Int) (t:List Int):cT false (spL (-1) c t) row=c*(2 ^ t.length*aP true t row):=by
 unfold spL
 rw [o6,<-yG]
 have e:cT false [(([]:List Int),c)] row=c:=by simp [cT,aP,ef]
 have h:∀ k,(1+-1*df false (onI row k))=2*df true (onI row k):=λk=>by
  simp only [df,if_true,Bool.false_eq_true,if_false];lia
 simp only [h,e]
theorem sR (s:Int):∀ (t u:List Int) (L:List Prt),(∀ q ∈ L,q.1.Sublist u)->∀ q ∈ t.foldl (spS s) L,q.1.Sublist (u++t)
 | [],u,L,h,q,hq=>by rw [List.append_nil];exact h q hq
 | k::t,u,L,h,q,hq=>by
  have:=sR s t (u++[k]) (spS s L k) (λp hp=>by
   unfold spS at hp
   rcases List.mem_append.mp hp with hp | hp
   ·exact (h p hp).trans (List.sublist_append_left _ _)
   ·obtain⟨x,hx,rfl⟩:=List.mem_map.mp hp
    exact (h x hx).append (List.Sublist.refl _)) q hq
  rw [List.append_assoc] at this
  exact this
theorem oh {s c:Int}{t:List Int}{q:Prt} (h:q ∈ spL s c t):q.1.Sublist t:=by
 have:=sR s t [] [(([]:List Int),c)] (λp hp=>by rw [List.mem_singleton.mp hp];exact List.Sublist.refl _) q h
 exact this
theorem xX {t u:List Int} (h:Trm 6 t) (hs:u.Sublist t):Trm 6 u:=⟨h.1.sublist hs,λk hk=>h.2 k (hs.subset hk)⟩
theorem sE (s:Int):∀ (t:List Int) (L:List Prt),(t.foldl (spS s) L).length=L.length*2 ^ t.length
 | [],L=>by simp
 | k::t,L=>by
  rw [List.foldl_cons,sE s t,List.length_cons,Nat.pow_succ,spS,List.length_append,List.length_map]
  rw [Nat.mul_comm (2 ^ t.length) 2,<-Nat.mul_assoc]
  congr 1;lia
theorem sU {s c:Int}{t:List Int} (h:t.length<=6):(spL s c t).length<=64:=by
 unfold spL
 rw [sE]
 have:2 ^ t.length<=2 ^ 6:=Nat.pow_le_pow_right (by decide) h
 simpa using this
theorem vZ {s c:Int}{t:List Int}{i:Nat}{k:Int} (h:t[i]?=some k):spL s c (t.take (i+1))=spS s (spL s c (t.take i)) k:=by
 unfold spL
 rw [List.take_add_one,h,List.foldl_append];rfl
theorem nL {st:Sto}{t:List Int}{c s:Int} (ht:Trm 6 t) (hs:s.natAbs<=2):m_spread [.d (ai t),.d (.int c),.d (.int s)] st=some (.d (.lst ((spL s c t).map au)),st):=by
 have tl:=fJ ht
 obtain⟨e',s',hF,o,rfl,rfl⟩:=cf (g:=.nm 4) (body:=lI) (ds:=t.map D.int) (λi env s'=>∃ o,env=[some (.d (ai t)),some (.d (.int c)),some (.d (.int s)),some (.d (.lst ((spL s c (t.take i)).map au))),o]/\s'=st)
  (env:=[some (.d (ai t)),some (.d (.int c)),some (.d (.int s)),some (.d (.lst [au ([],c)])),none]) (st:=st) ⟨none,rfl,rfl⟩ (by
  rintro i d env s' hd ⟨o,rfl,rfl⟩
  rw [List.getElem?_map,Option.map_eq_some_iff] at hd
  obtain⟨k,hk,rfl⟩:=hd
  have key:lcI (.tp [0,1]) bN mo [none,none,some (.d (.int k)),some (.d (.int s))] ((spL s c (t.take i)).map au) s'=some (((spL s c (t.take i)).map (spF s k)).map au,s'):=by
   rw [List.map_map]
   refine hJ _ λq hm=>⟨_,rfl,?_⟩
   have ql:q.1.length<=6:=Nat.le_trans ((oh hm).trans (List.take_sublist _ _)).length_le tl
   have ha:dL s' (.d (ai q.1)) (.d (.tup [.int k]))=some (ai (q.1++[k])):=by
    show (if (q.1.map D.int).length+[D.int k].length<=1000000 then some (D.tup (q.1.map D.int++[.int k])) else none)=_
    rw [if_pos (by rw [List.length_map,List.length_singleton];lia),ai,List.map_append];rfl
   have hm2:dO s' (.d (.int q.2)) (.d (.int s))=some (.int (q.2*s)):=by
    show (if PySem.IntMulOk q.2 s then some (D.int (q.2*s)) else none)=_
    rw [if_pos (eI (by lia))]
   exact cF (ah (al (x:=.d (ai q.1)) (y:=.d (.tup [.int k])) rfl (cF (ah rfl rfl) rfl (by show 1<=1000;decide)) ha) (ah (al (x:=.d (.int q.2)) (y:=.d (.int s)) rfl rfl hm2) rfl)) rfl (by show 2<=1000;decide)
  have ll:(spL s c (t.take i)).length<=64:=sU (Nat.le_trans (List.length_take_le _ _) (Nat.le_trans (Nat.le_of_lt (List.getElem?_eq_some_iff.mp hk).1) tl))
  have hz:((spL s c (t.take i)).map au).length<=1000000:=by rw [List.length_map];lia
  have hz2:((spL s c (t.take i)).map au).length+(((spL s c (t.take i)).map (spF s k)).map au).length<=1000000:=by rw [List.length_map,List.length_map,List.length_map];lia
  refine⟨_,_,_,rfl,.inl ?_,some (.d (.int k)),rfl,rfl⟩
  rw [vZ hk,spS,List.map_append]
  generalize ((spL s c (t.take i)).map (spF s k)).map au=B at *
  generalize (spL s c (t.take i)).map au=A at *
  have ha:dL s' (.d (.lst A)) (.d (.lst B))=some (.lst (A++B)):=by
   show (if A.length+B.length<=1000000 then some (D.lst (A++B)) else none)=_
   rw [if_pos hz2]
  exact aC (i:=3) (al rfl (aF (bW (k:=2) (js:=[4,2]) (ds:=A) rfl hz key)) ha))
 rw [List.length_map,List.take_length] at hF
 generalize (spL s c t).map au=R at hF ⊢
 exact ay (n:=5) (k:=3) (b:=b_spread) rfl (am (aC (i:=3) (w:=.d (.lst [au ([],c)])) (s:=s') (aF (fC (ah (cF (ah (cF rfl rfl (by show 0<=1000;decide)) (ah rfl rfl)) rfl (by show 2<=1000;decide)) rfl) rfl (by show 1<=1000;decide)))) (am (dq (d7 rfl) hF) (aB rfl)))
theorem yH {o:Ef}{a:Af}{env:Ev}{st s1 s2:Sto}{n:Nat}{ds ds0 xs:List D} (ho:o env st=some (.h n,s1)) (ha:a env s1=some ([.d (.lst xs)],s2)) (h0:lg s1 n=some ds0) (hg:lg s2 n=some ds) (hz:ds.length+xs.length<=1000000):nS (mE lA o a) env st=some (.nx env (s2.set n (.l (ds++xs)))):=by
 simp only [nS,mE,ho,ha,h0,hg,lA,hz,if_true,Option.bind_some,Option.map_some]
noncomputable def gC (ps:List Prt):Int:=hV (ps.map λp=>(p.1.length:Int)) 0
theorem t9 {st:Sto}{kd:Str}{ps:List Prt} (hl:ps.length<=1000):m_degree_of [.d (bb kd ps)] st=some (.d (.int (gC ps)),st):=by
 have key:lcI (.tp [0,1]) bN fR [none,none] (ps.map au) st=some (ps.map λp=>.int (p.1.length:Int),st):=hJ _ λp hm=>by
  refine⟨_,rfl,?_⟩
  have e:((p.1.map D.int).length:Int)=(p.1.length:Int):=by rw [List.length_map]
  exact bg (ah rfl rfl) (by show some (D.int (((p.1.map D.int).length:Nat):Int))=_;rw [e])
 have hs:aQ (ps.map λp=>.int (p.1.length:Int))=some (ps.map λp=>(p.1.length:Int)):=by
  have:=bp (ps.map λp=>(p.1.length:Int))
  rw [List.map_map] at this;exact this
 have hz:(ps.map au).length<=1000000:=by rw [List.length_map];lia
 have hm:=uW (ps.map λp=>(p.1.length:Int)) λn hn=>by
  obtain⟨p,_,rfl⟩:=List.mem_map.mp hn
  lia
 unfold gC
 generalize ps.map (λp=>(p.1.length:Int))=L at hs hm ⊢
 generalize (ps.map λp=>D.int (p.1.length:Int))=LD at key hs
 unfold bb
 generalize ps.map au=PP at key hz ⊢
 have hix:iOp dIx (iV 0) (iC (.int 1)) [some (.d (.tup [.str kd,.tup PP]))] st=some (.d (.tup PP),st):=al rfl rfl (ix1 _ _ _ _)
 have hq:aV (iLc 2 [] (ba (iOp dIx (iV 0) (iC (.int 1)))) (.tp [0,1]) bN fR) [some (.d (.tup [.str kd,.tup PP]))] st=some (.d (.lst LD),st):=aF (bW (gs hix) hz key)
 have hls:lsI st (.d (.lst LD))=some L:=hs
 refine ay (n:=1) (k:=1) (b:=b_degree_of) rfl (aB ?_)
 have hc:iC (.int 0) [some (.d (.tup [.str kd,.tup PP]))] st=some (.d (.int 0),st):=rfl
 show mz _ _ [some (.d (.tup [.str kd,.tup PP]))] st=_
 simp only [mz,hq,hc,hls,hm,Option.bind_some,Option.map_some]
theorem wO {ps:List Prt}{p:Prt} (h:p ∈ ps):(p.1.length:Int)<=gC ps:=(oK _ 0).2 _ (List.mem_map_of_mem (f:=λp:Prt=>(p.1.length:Int)) h)
theorem AT (ps:List Prt):0<=gC ps:=(oK _ 0).1
theorem BC {ps:List Prt} (h:∀ p ∈ ps,Trm 6 p.1):gC ps<=6:=sF _ _ (by decide) λn hn=>by
 obtain⟨p,hp,rfl⟩:=List.mem_map.mp hn
 have:=fJ (h p hp)
 lia
theorem vR {j:Nat} (h:j<=6):(0:Int) < 2 ^ j/\(2:Int) ^ j<=64:=by
 have h3:2 ^ j<=2 ^ 6:=Nat.pow_le_pow_right (by decide) h
 have h2:(2:Nat) ^ 6=64:=by decide
 have h4:((2 ^ j:Nat):Int)=(2:Int) ^ j:=by push_cast;rfl
 have h5:0 < 2 ^ j:=Nat.pow_pos (by decide)
 lia
noncomputable def wR (b:Bool) (d:Int):Int:=if b=true then 2 ^ d.toNat else 1
noncomputable def Ah (b:Bool) (d:Int) (p:Prt):Int:=if b=true then p.2*2 ^ (d - (p.1.length:Int)).toNat else p.2
noncomputable def g9 (b:Bool) (d:Int) (p:Prt):List Prt:=spL (if b=true then -1 else -2) (Ah b d p) p.1
noncomputable def bV (b:Bool) (d:Int) (ps:List Prt):List Prt:=(ps.map (g9 b d)).flatten
theorem uG {b:Bool}{d row:Int}{p:Prt} (h:(p.1.length:Int)<=d):cT (!b) (g9 b d p) row=wR b d*(p.2*aP b p.1 row):=by
 cases b with
 | true=>
  simp only [g9,Ah,wR,if_true,Bool.not_true]
  rw [xr,Int.mul_assoc,<-Int.mul_assoc (2 ^ (d - (p.1.length:Int)).toNat),<-Int.pow_add,show (d - (p.1.length:Int)).toNat+p.1.length=d.toNat by lia]
  rw [Int.mul_left_comm]
 | false=>
  simp only [g9,Ah,wR,Bool.false_eq_true,if_false,Bool.not_false]
  rw [wF,Int.one_mul]
theorem qu {b:Bool}{d row:Int}:∀ {ps:List Prt},(∀ p ∈ ps,(p.1.length:Int)<=d)->cT (!b) (bV b d ps) row=wR b d*cT b ps row
 | [],_=>by show (0:Int)=_*0;rw [Int.mul_zero]
 | p::ps,h=>by
  have ih:=qu (b:=b) (d:=d) (row:=row) (ps:=ps) λq hq=>h q (List.mem_cons_of_mem _ hq)
  have e:bV b d (p::ps)=g9 b d p++bV b d ps:=by unfold bV;rw [List.map_cons,List.flatten_cons]
  rw [e,pO,ih,uG (h p List.mem_cons_self),gu,Int.mul_add]
theorem pT {b:Bool}{d:Int}{ps:List Prt}{q:Prt} (h:q ∈ bV b d ps):∃ p ∈ ps,q ∈ g9 b d p:=by
 unfold bV at h
 obtain⟨l,hl,hq⟩:=List.mem_flatten.mp h
 obtain⟨p,hp,rfl⟩:=List.mem_map.mp hl
 exact⟨p,hp,hq⟩
theorem mq {b:Bool}{d:Int}{ps:List Prt} (h6:∀ p ∈ ps,Trm 6 p.1):∀ q ∈ bV b d ps,Trm 6 q.1:=λq hq=>by
 obtain⟨p,hp,hq⟩:=pT hq
 exact xX (h6 p hp) (oh hq)
theorem mx {b:Bool}{d:Int}{p:Prt} (h:Trm 6 p.1):(g9 b d p).length<=64:=sU (fJ h)
theorem mt {b:Bool}{d:Int}:∀ {ps:List Prt},(∀ p ∈ ps,Trm 6 p.1)->(bV b d ps).length<=ps.length*64
 | [],_=>Nat.zero_le _
 | p::ps,h=>by
  have ih:=mt (b:=b) (d:=d) (ps:=ps) λq hq=>h q (List.mem_cons_of_mem _ hq)
  have e:bV b d (p::ps)=g9 b d p++bV b d ps:=by unfold bV;rw [List.map_cons,List.flatten_cons]
  have:=mx (b:=b) (d:=d) (h p List.mem_cons_self)
  rw [e,List.length_append,List.length_cons];lia
theorem nA {b:Bool}{d:Int}{ps:List Prt}{i:Nat}{p:Prt} (h:ps[i]?=some p):bV b d (ps.take (i+1))=bV b d (ps.take i)++g9 b d p:=by
 unfold bV
 rw [List.take_add_one,h,List.map_append,List.flatten_append]
 simp
theorem oB (st:Sto) (ds:List D):lg (st++[C.l ds]) st.length=some ds:=by
 unfold lg
 rw [List.getElem?_append_right (Nat.le_refl _),Nat.sub_self];rfl
theorem qv (st:Sto) (x y:C):(st++[x]).set st.length y=st++[y]:=by
 rw [List.set_append_right _ _ (Nat.le_refl _),Nat.sub_self];rfl
theorem iy (st:Sto) (x:C):(st++[x]).take st.length=st:=by rw [List.take_left'];rfl
theorem pA (s:Sto) (t:List Int):eD s [.d (ai t)]=some (.int (t.length:Int)):=by
 show some (D.int (((t.map D.int).length:Nat):Int))=_
 rw [List.length_map]
theorem y8 (s:Sto) {a b:Int} (h:-(2 ^ 64) < b/\b < 2 ^ 64):dO s (.d (.int a)) (.d (.int b))=some (.int (a*b)):=by
 show (if PySem.IntMulOk a b then some (D.int (a*b)) else none)=_
 rw [if_pos (eI h)]
theorem sY (st:Sto) (kd:Str) (L:List Prt) (h6:∀ p ∈ L,Trm 6 p.1):∃ ks:List (List Int),ks.Pairwise ltL/\ks.Nodup/\(∀ t,t ∈ ks↔t ∈ L.map Prod.fst)/\m_gathered [.d (.str kd),.h st.length] (st++[C.l (L.map au)])=some (.d (bb kd (aZ ks L)),st++[C.l (L.map au)]):=
 xZ (.inr (.inr ⟨_,rfl,oB _ _⟩)) h6
theorem rH {st:Sto}{kd:Str}{ps:List Prt} (h6:∀ p ∈ ps,Trm 6 p.1) (lp:ps.length<=64) :
  ∃ ks:List (List Int),ks.Pairwise ltL/\ks.Nodup/\(∀ t,t ∈ ks↔t ∈ (bV true (gC ps) ps).map Prod.fst)/\m_odd_from_both [.d (bb kd ps)] st=some (.d (bb (ax false) (aZ ks (bV true (gC ps) ps))),st):=by
 have hdeg:=t9 (st:=st) (kd:=kd) (ps:=ps) (by lia)
 have d0:=AT ps
 have d6:=BC h6
 have dg:=λp (hp:p ∈ ps)=>wO hp
 generalize gC ps=d at *
 obtain⟨e',s',hF,o3,o4,rfl,rfl⟩:=cf (g:=.tp [3,4]) (body:=fG) (ds:=ps.map au) (λi env s=>∃ o3 o4,env=[some (.d (bb kd ps)),some (.d (.int d)),some (.h st.length),o3,o4]/\s=st++[.l ((bV true d (ps.take i)).map au)])
  (env:=[some (.d (bb kd ps)),some (.d (.int d)),some (.h st.length),none,none]) (st:=st++[.l []]) ⟨none,none,rfl,rfl⟩ (by
  rintro i x env s hd ⟨o3,o4,rfl,rfl⟩
  obtain⟨p,hpi,rfl⟩:=jX hd
  have hmem:=List.mem_of_getElem? hpi
  have hln:(bV true d (ps.take i)).length<=64*64:=Nat.le_trans (mt λp hp=>h6 p (List.mem_of_mem_take hp)) (Nat.mul_le_mul_right _ (Nat.le_trans (List.length_take_le _ _) (Nat.le_trans (Nat.le_of_lt (List.getElem?_eq_some_iff.mp hpi).1) lp)))
  have hpl:=mx (b:=true) (d:=d) (h6 p hmem)
  have hz:((bV true d (ps.take i)).map au).length+((g9 true d p).map au).length<=1000000:=by
   rw [List.length_map,List.length_map];lia
  have hg2:=oB st ((bV true d (ps.take i)).map au)
  have hset:(st++[C.l ((bV true d (ps.take i)).map au)]).set st.length (.l ((bV true d (ps.take i)).map au++(g9 true d p).map au))=st++[.l ((bV true d (ps.take (i+1))).map au)]:=by
   rw [qv,nA hpi,List.map_append]
  refine⟨_,_,_,rfl,.inl ?_,some (.d (ai p.1)),some (.d (.int p.2)),rfl,rfl⟩
  rw [<-hset]
  have hsp:=nL (st:=st++[C.l ((bV true d (ps.take i)).map au)]) (c:=p.2*2 ^ (d - (p.1.length:Int)).toNat) (s:=-1) (h6 p hmem) (by decide)
  have hdl:=dg p hmem
  have hpw:=qq (st:=st++[C.l ((bV true d (ps.take i)).map au)]) (k:=d - (p.1.length:Int)) (by lia) (by lia)
  have h64:=vR (j:=(d - (p.1.length:Int)).toNat) (by lia)
  have hml:=y8 (st++[C.l ((bV true d (ps.take i)).map au)]) (a:=p.2) (b:=2 ^ (d - (p.1.length:Int)).toNat) (by lia)
  have hlen:=pA (st++[C.l ((bV true d (ps.take i)).map au)]) p.1
  have e:spL (-1) (p.2*2 ^ (d - (p.1.length:Int)).toNat) p.1=g9 true d p:=rfl
  rw [e] at hsp
  generalize (g9 true d p).map au=RL at *
  generalize (bV true d (ps.take i)).map au=AC at *
  generalize st++[C.l AC]=S at *
  generalize (2:Int) ^ (d - (p.1.length:Int)).toNat=PW at *
  generalize bb kd ps=PP at *
  exact yH (o:=iV 2) rfl (ah (ar (ah rfl (ah (al rfl (ar (ah (al rfl (bg (ah rfl rfl) hlen) rfl) rfl) hpw) hml) (ah rfl rfl))) hsp) rfl) hg2 hg2 hz)
 rw [List.length_map,List.take_length] at hF
 obtain⟨ks,k1,k2,k3,k4⟩:=sY st (ax false) (bV true d ps) (mq h6)
 refine⟨ks,k1,k2,k3,?_⟩
 generalize aZ ks (bV true d ps)=R at k4 ⊢
 have hq2:=ge (n:=5) (k:=1) (b:=b_odd_from_both) (ws:=[.d (bb kd ps)]) (st:=st) (s:=st++[C.l ((bV true d ps).map au)]) (x:=bb (ax false) R) rfl
  (am (aC (i:=1) (ar rfl hdeg)) (am (aC (w:=.h st.length) (s:=st++[C.l []]) rfl) (am (dq (d7 (al rfl rfl (ix1 _ _ _ _))) hF) (aB (ar rfl k4)))))
 rw [iy] at hq2
 exact hq2
theorem pz {st:Sto}{kd:Str}{ps:List Prt} (h6:∀ p ∈ ps,Trm 6 p.1) (lp:ps.length<=64) (d:Int) :
  ∃ ks:List (List Int),ks.Pairwise ltL/\ks.Nodup/\(∀ t,t ∈ ks↔t ∈ (bV false d ps).map Prod.fst)/\m_both_from_odd [.d (bb kd ps)] st=some (.d (bb (ax true) (aZ ks (bV false d ps))),st):=by
 obtain⟨e',s',hF,o3,o4,rfl,rfl⟩:=cf (g:=.tp [2,3]) (body:=fK) (ds:=ps.map au) (λi env s=>∃ o3 o4,env=[some (.d (bb kd ps)),some (.h st.length),o3,o4]/\s=st++[.l ((bV false d (ps.take i)).map au)])
  (env:=[some (.d (bb kd ps)),some (.h st.length),none,none]) (st:=st++[.l []]) ⟨none,none,rfl,rfl⟩ (by
  rintro i x env s hd ⟨o3,o4,rfl,rfl⟩
  obtain⟨p,hpi,rfl⟩:=jX hd
  have hmem:=List.mem_of_getElem? hpi
  have hln:(bV false d (ps.take i)).length<=64*64:=Nat.le_trans (mt λp hp=>h6 p (List.mem_of_mem_take hp)) (Nat.mul_le_mul_right _ (Nat.le_trans (List.length_take_le _ _) (Nat.le_trans (Nat.le_of_lt (List.getElem?_eq_some_iff.mp hpi).1) lp)))
  have hpl:=mx (b:=false) (d:=d) (h6 p hmem)
  have hz:((bV false d (ps.take i)).map au).length+((g9 false d p).map au).length<=1000000:=by
   rw [List.length_map,List.length_map];lia
  have hg2:=oB st ((bV false d (ps.take i)).map au)
  have hset:(st++[C.l ((bV false d (ps.take i)).map au)]).set st.length (.l ((bV false d (ps.take i)).map au++(g9 false d p).map au))=st++[.l ((bV false d (ps.take (i+1))).map au)]:=by
   rw [qv,nA hpi,List.map_append]
  refine⟨_,_,_,rfl,.inl ?_,some (.d (ai p.1)),some (.d (.int p.2)),rfl,rfl⟩
  rw [<-hset]
  have hsp:=nL (st:=st++[C.l ((bV false d (ps.take i)).map au)]) (c:=p.2) (s:=-2) (h6 p hmem) (by decide)
  have e:spL (-2) p.2 p.1=g9 false d p:=rfl
  rw [e] at hsp
  generalize (g9 false d p).map au=RL at *
  generalize (bV false d (ps.take i)).map au=AC at *
  generalize st++[C.l AC]=S at *
  generalize bb kd ps=PP at *
  exact yH (o:=iV 1) rfl (ah (ar (ah rfl (ah rfl (ah rfl rfl))) hsp) rfl) hg2 hg2 hz)
 rw [List.length_map,List.take_length] at hF
 obtain⟨ks,k1,k2,k3,k4⟩:=sY st (ax true) (bV false d ps) (mq h6)
 refine⟨ks,k1,k2,k3,?_⟩
 generalize aZ ks (bV false d ps)=R at k4 ⊢
 have hq2:=ge (n:=4) (k:=1) (b:=b_both_from_odd) (ws:=[.d (bb kd ps)]) (st:=st) (s:=st++[C.l ((bV false d ps).map au)]) (x:=bb (ax true) R) rfl
  (am (aC (w:=.h st.length) (s:=st++[C.l []]) rfl) (am (dq (d7 (al rfl rfl (ix1 _ _ _ _))) hF) (aB (ar rfl k4))))
 rw [iy] at hq2
 exact hq2
theorem qX {st:Sto}{b:Bool}{ps:List Prt} (h6:∀ p ∈ ps,Trm 6 p.1) (lp:ps.length<=64) :
  ∃ ks:List (List Int),ks.Pairwise ltL/\ks.Nodup/\(∀ t,t ∈ ks↔t ∈ (bV b (gC ps) ps).map Prod.fst)/\m_other_kind [.d (bb (ax b) ps)] st=some (.d (bb (ax !b) (aZ ks (bV b (gC ps) ps))),st):=by
 have kb:=ke b
 cases b with
 | true=>
  obtain⟨ks,k1,k2,k3,k4⟩:=rH (st:=st) (kd:=ax true) h6 lp
  refine⟨ks,k1,k2,k3,?_⟩
  exact ay (n:=1) (k:=1) (b:=b_other_kind) rfl (dZ (ii (az (x:=.d (.str (ax true))) (al rfl rfl (ix0 _ _ _)) rfl (by rw [i5,kb])) (aB (ar rfl k4))))
 | false=>
  obtain⟨ks,k1,k2,k3,k4⟩:=pz (st:=st) (kd:=ax false) h6 lp (gC ps)
  refine⟨ks,k1,k2,k3,?_⟩
  exact ay (n:=1) (k:=1) (b:=b_other_kind) rfl (am (cA (az (x:=.d (.str (ax false))) (al rfl rfl (ix0 _ _ _)) rfl (by rw [i5,kb])) rfl) (aB (ar rfl k4)))
theorem mQ {α:Type} (a:α->Int) (c:Int):∀ l:List α,(l.map λx=>a x*c).sum=(l.map a).sum*c
 | []=>by show (0:Int)=0*c;rw [Int.zero_mul]
 | x::l=>by rw [List.map_cons,List.map_cons,List.sum_cons,List.sum_cons,mQ a c l,Int.add_mul]
theorem qS {α:Type} (a:α->Int) (c:Int):∀ l:List α,(l.map λx=>c*a x).sum=c*(l.map a).sum
 | []=>by show (0:Int)=c*0;rw [Int.mul_zero]
 | x::l=>by rw [List.map_cons,List.map_cons,List.sum_cons,List.sum_cons,qS a c l,Int.mul_add]
theorem p8 {α β:Type} (F:α->β->Int) (m:List β):∀ l:List α,(l.map λt=>(m.map λr=>F t r).sum).sum=(m.map λr=>(l.map λt=>F t r).sum).sum
 | []=>by
  show (0:Int)=(m.map λ_=>(0:Int)).sum
  rw [gY]
 | t::l=>by
  rw [List.map_cons,List.sum_cons,p8 F m l,<-oJ]
  rfl
theorem nF (s:Nat->Int) (C:Int) (x:Nat):∀ l:List Nat,l.Nodup->x ∈ l->(l.map λr=>s r*(if r=x then C else 0)).sum=s x*C
 | [],_,h=>by cases h
 | r::l,hn,h=>by
  rw [List.map_cons,List.sum_cons]
  rw [List.nodup_cons] at hn
  by_cases e:r=x
  ·subst e
   have:(l.map λy=>s y*(if y=r then C else 0))=l.map λ_=>(0:Int):=List.map_congr_left λy hy=>by
    rw [if_neg (λz:y=r=>hn.1 (z ▸ hy)),Int.mul_zero]
   rw [this,gY,if_pos rfl,Int.add_zero]
  ·rw [if_neg e,Int.mul_zero,Int.zero_add]
   exact nF s C x l hn.2 ((List.mem_cons.mp h).resolve_left λz=>e z.symm)
noncomputable def orP (r q:Int):Nat->Int
 | 0=>1
 | n+1=>orP r q n*(1+df false (onI r n)*df false (onI q n))
theorem yX (r q:Int):∀ n:Nat,((cD n).map λt=>aP false t r*aP false t q).sum=orP r q n
 | 0=>by simp [cD,orP,aP,ef]
 | n+1=>by
  rw [cD,List.map_append,List.sum_append,List.map_map,yX r q n,orP,Int.mul_add,Int.mul_one]
  congr 1
  rw [<-yX r q n,<-mQ]
  congr 1
  refine List.map_congr_left λt _=>?_
  show aP false (t++[(n:Int)]) r*aP false (t++[(n:Int)]) q=_
  rw [jK,jK]
  generalize aP false t r=a
  generalize aP false t q=b
  generalize df false (onI r n)=c
  generalize df false (onI q n)=d
  rw [Int.mul_assoc,Int.mul_left_comm c b d,<-Int.mul_assoc]
theorem wc (r q k:Int):df false (onI r k)*df false (onI q k)=if onI r k=onI q k then 1 else -1:=by
 rcases mD r k with a | a<;>rcases mD q k with b | b<;>rw [a,b]<;>decide
theorem qV (r q:Int) {k:Nat} (h:onI r k≠onI q k):∀ n:Nat,k < n->orP r q n=0
 | 0,hk=>by lia
 | n+1,hk=>by
  rw [orP]
  by_cases e:k=n
  ·subst e
   rw [wc,if_neg h];show _*(0:Int)=0;rw [Int.mul_zero]
  ·rw [qV r q h n (by lia),Int.zero_mul]
theorem q9 (r:Int):∀ n:Nat,orP r r n=2 ^ n
 | 0=>rfl
 | n+1=>by rw [orP,q9 r n,wc,if_pos rfl,Int.pow_succ];rfl
theorem tL (r k:Nat):onI (r:Int) (k:Int)=((r / 2 ^ k % 2:Nat):Int):=by
 unfold onI
 rw [Int.toNat_natCast];push_cast;rfl
theorem qk {n r q:Nat} (hr:r < 2 ^ n) (hq:q < 2 ^ n) (h:r≠q):∃ k,k < n/\onI (r:Int) (k:Int)≠onI (q:Int) (k:Int):=by
 apply Classical.byContradiction
 intro hc
 refine h (Nat.eq_of_testBit_eq λk=>?_)
 by_cases hk:k < n
 ·have:onI (r:Int) (k:Int)=onI (q:Int) (k:Int):=Classical.byContradiction λz=>hc ⟨k,hk,z⟩
  rw [tL,tL] at this
  have h2:r / 2 ^ k % 2=q / 2 ^ k % 2:=by lia
  rw [Nat.testBit_eq_decide_div_mod_eq,Nat.testBit_eq_decide_div_mod_eq,h2]
 ·have hp:2 ^ n<=2 ^ k:=Nat.pow_le_pow_right (by decide) (by lia)
  rw [Nat.testBit_lt_two_pow (Nat.lt_of_lt_of_le hr hp),Nat.testBit_lt_two_pow (Nat.lt_of_lt_of_le hq hp)]
theorem vB {n r q:Nat} (hr:r < 2 ^ n) (hq:q < 2 ^ n):((cD n).map λt=>aP false t (r:Int)*aP false t (q:Int)).sum=if r=q then 2 ^ n else 0:=by
 rw [yX]
 by_cases e:r=q
 ·subst e;rw [if_pos rfl,q9]
 ·obtain⟨k,hk,hd⟩:=qk hr hq e
  rw [if_neg e,qV _ _ hd n hk]
theorem t7 (s:Nat->Int) {n row:Nat} (h:row < 2 ^ n):((cD n).map λt=>((List.range (2 ^ n)).map λr:Nat=>s r*aP false t (r:Int)).sum*aP false t (row:Int)).sum=2 ^ n*s row:=by
 have e1:((cD n).map λt=>((List.range (2 ^ n)).map λr:Nat=>s r*aP false t (r:Int)).sum*aP false t (row:Int))=(cD n).map λt=>((List.range (2 ^ n)).map λr:Nat=>s r*aP false t (r:Int)*aP false t (row:Int)).sum:=List.map_congr_left λt _=>(mQ _ _ _).symm
 rw [e1,p8]
 have e2:((List.range (2 ^ n)).map λr:Nat=>((cD n).map λt=>s r*aP false t (r:Int)*aP false t (row:Int)).sum)=(List.range (2 ^ n)).map λr:Nat=>s r*(if r=row then 2 ^ n else 0):=List.map_congr_left λr hr=>by
  rw [<-vB (List.mem_range.mp hr) h,<-qS]
  congr 1
  refine List.map_congr_left λt _=>?_
  rw [Int.mul_assoc]
 rw [e2,nF s (2 ^ n) row _ List.nodup_range (List.mem_range.mpr h),Int.mul_comm]
theorem sG (row:Int):∀ t:List Int,ef row t=(t.length:Int)↔∀ k ∈ t,onI row k=1
 | []=>by simp [ef]
 | k::t=>by
  have ih:=sG row t
  have hc:=o8 row t
  rw [ef,List.length_cons]
  constructor
  ·intro h j hj
   rcases mD row k with e | e
   ·rw [e] at h;push_cast at h;lia
   ·rcases List.mem_cons.mp hj with rfl | hj
    ·exact e
    ·exact ih.mp (by rw [e] at h;push_cast at h;lia) j hj
  ·intro h
   rw [h k List.mem_cons_self,ih.mpr λj hj=>h j (List.mem_cons_of_mem _ hj)];push_cast;lia
theorem qY {t:List Int} (ht:Trm 6 t) {k:Int} (k0:0<=k):onI (bO t:Nat) k=1↔k ∈ t:=by
 obtain⟨j,rfl⟩:=Int.eq_ofNat_of_zero_le k0
 have h:=cV ht j
 rw [Nat.testBit_eq_decide_div_mod_eq] at h
 have h2:(bO t / 2 ^ j % 2=1)↔((j:Int) ∈ t):=by
  constructor
  ·intro e;rw [decide_eq_true e] at h;exact of_decide_eq_true h.symm
  ·intro e;rw [decide_eq_true e] at h;exact of_decide_eq_true h
 unfold onI
 rw [show ((j:Int)).toNat=j from Int.toNat_natCast j,<-h2]
 constructor
 ·intro e
  have:(((bO t / 2 ^ j % 2:Nat)):Int)=1:=by push_cast;exact e
  lia
 ·intro e
  have:(((bO t / 2 ^ j % 2:Nat)):Int)=1:=by rw [e];rfl
  push_cast at this;exact this
theorem nD {t u:List Int} (ht:Trm 6 t) (hu:Trm 6 u):aP true u (bO t:Nat)=if (∀ k ∈ u,k ∈ t) then 1 else 0:=by
 have e:(ef (bO t:Nat) u=(u.length:Int))↔∀ k ∈ u,k ∈ t:=by
  rw [sG]
  exact⟨λh k hk=>(qY ht (hu.2 k hk).1).mp (h k hk),λh k hk=>(qY ht (hu.2 k hk).1).mpr (h k hk)⟩
 simp only [aP,if_true]
 by_cases h:∀ k ∈ u,k ∈ t
 ·rw [if_pos (e.mpr h),if_pos h]
 ·rw [if_neg (λz=>h (e.mp z)),if_neg h]
theorem tV {t u:List Int} (ht:Trm 6 t) (hu:Trm 6 u) (h:∀ k ∈ u,k ∈ t) (hne:u≠t):bO u < bO t:=by
 have e:bO u ||| bO t=bO t:=Nat.eq_of_testBit_eq λj=>by
  rw [Nat.testBit_or,cV ht,cV hu]
  by_cases hj:(j:Int) ∈ u
  ·rw [decide_eq_true hj,decide_eq_true (h _ hj)];rfl
  ·rw [decide_eq_false hj];rfl
 have h1:bO u<=bO t:=by
  have:=Nat.left_le_or (n:=bO u) (m:=bO t)
  rwa [e] at this
 refine Nat.lt_of_le_of_ne h1 λz=>hne ?_
 rw [<-mP hu,<-mP ht,z]
theorem tw {N:Int}{f:Prt->Int}:∀ {l:List Prt},(∀ q ∈ l,N∣f q)->N∣(l.map f).sum
 | [],_=>Int.dvd_zero _
 | q::l,h=>by
  rw [List.map_cons,List.sum_cons]
  exact Int.dvd_add (h q List.mem_cons_self) (tw λx hx=>h x (List.mem_cons_of_mem _ hx))
theorem tD {N:Int}{f:Prt->Int}{p:Prt}:∀ {l:List Prt},(l.map Prod.fst).Nodup->p ∈ l->(∀ q ∈ l,q.1≠p.1->N∣f q)->N∣(l.map f).sum->N∣f p
 | [],_,h,_,_=>by cases h
 | q::l,hn,hp,ho,hs=>by
  rw [List.map_cons,List.nodup_cons] at hn
  rw [List.map_cons,List.sum_cons] at hs
  by_cases e:q.1=p.1
  ·have hq:p=q:=(List.mem_cons.mp hp).resolve_right λz=>hn.1 (e ▸ List.mem_map_of_mem z)
   subst hq
   have h2:=tw (N:=N) (f:=f) (l:=l) λx hx=>ho x (List.mem_cons_of_mem _ hx) λz=>hn.1 (z ▸ List.mem_map_of_mem hx)
   exact (Int.dvd_add_left h2).mp hs
  ·have h1:=ho q List.mem_cons_self e
   exact tD hn.2 ((List.mem_cons.mp hp).resolve_left λz=>e (z ▸ rfl)) (λx hx=>ho x (List.mem_cons_of_mem _ hx)) ((Int.dvd_add_right h1).mp hs)
theorem vY {N:Int}{rs:List Prt} (hk:(rs.map Prod.fst).Nodup) (h6:∀ p ∈ rs,Trm 6 p.1) (hv:∀ p ∈ rs,N∣cT true rs (bO p.1:Nat)):∀ p ∈ rs,N∣p.2:=by
 have key:∀ (m:Nat) (p:Prt),p ∈ rs->bO p.1=m->N∣p.2:=by
  intro m
  induction m using Nat.strongRecOn with
  | _ m ih=>
   intro p hp hm
   have:=tD (N:=N) (f:=λq=>q.2*aP true q.1 (bO p.1:Nat)) hk hp (λq hq hne=>by
    rw [nD (h6 p hp) (h6 q hq)]
    by_cases hs:∀ k ∈ q.1,k ∈ p.1
    ·rw [if_pos hs,Int.mul_one]
     exact ih (bO q.1) (by rw [<-hm];exact tV (h6 p hp) (h6 q hq) hs hne) q hq rfl
    ·rw [if_neg hs,Int.mul_zero];exact Int.dvd_zero _) (hv p hp)
   rw [nD (h6 p hp) (h6 p hp),if_pos (λk hk=>hk),Int.mul_one] at this
   exact this
 exact λp hp=>key _ p hp rfl
end Own
end
section
set_option maxHeartbeats 1000000
namespace Own
open PySem L2
theorem AO {c:Tf}{b:Sf}{n:Nat}{env:Ev}{st s:Sto} (h:c env st=some (false,s)):d9 c b (n+1) env st=some (.nx env s):=by
 unfold d9
 rw [h,Option.bind_some,if_neg Bool.false_ne_true]
theorem Bh {c:Tf}{b:Sf}{n:Nat}{env e:Ev}{st s s2:Sto} (h:c env st=some (true,s)) (hb:b env s=some (.nx e s2)):d9 c b (n+1) env st=d9 c b n e s2:=by
 rw [d9,h,Option.bind_some,if_pos rfl,hb,Option.bind_some]
theorem xk {st:Sto}{f:D}{L:Int}{n:Nat} (hL:L=((2 ^ n:Nat):Int)) (hf:∀ s,eD s [.d f]=some (.int L)):∀ (g j fuel:Nat) (many:Int),j+g=n->n<=60->g < fuel->d9 cY em fuel [some (.d f),some (.d (.int many)),some (.d (.int ((2 ^ j:Nat):Int)))] st=some (.nx [some (.d f),some (.d (.int (many+g))),some (.d (.int ((2 ^ n:Nat):Int)))] st):=by
 intro g
 induction g with
 | zero=>
  intro j fuel many hj hn hf'
  obtain⟨k,rfl⟩:∃ k,fuel=k+1:=⟨fuel - 1,by lia⟩
  have e:j=n:=by lia
  subst e
  have hc:cY [some (.d f),some (.d (.int many)),some (.d (.int ((2 ^ j:Nat):Int)))] st=some (false,st):=by
   refine az rfl (bg rfl (hf st)) ?_
   show some (D.bl (decide (((2 ^ j:Nat):Int) < L)))=_
   rw [hL];simp
  rw [AO hc]
  simp
 | succ g ih=>
  intro j fuel many hj hn hf'
  obtain⟨k,rfl⟩:∃ k,fuel=k+1:=⟨fuel - 1,by lia⟩
  have e:=ih (j+1) k (many+1) (by lia) hn (by lia)
  have hlt:2 ^ j < 2 ^ n:=Nat.pow_lt_pow_right (by decide) (by lia)
  have hc:cY [some (.d f),some (.d (.int many)),some (.d (.int ((2 ^ j:Nat):Int)))] st=some (true,st):=by
   refine az rfl (bg rfl (hf st)) ?_
   show some (D.bl (decide (((2 ^ j:Nat):Int) < L)))=_
   rw [hL,decide_eq_true (by lia)]
  have e2:((2 ^ (j+1):Nat):Int)=((2 ^ j:Nat):Int)*2:=by rw [Nat.pow_succ];push_cast;rfl
  have km:PySem.IntMulOk (((2 ^ j:Nat):Int)) 2:=eI (by decide)
  have hb:em [some (.d f),some (.d (.int many)),some (.d (.int ((2 ^ j:Nat):Int)))] st=some (.nx [some (.d f),some (.d (.int (many+1))),some (.d (.int ((2 ^ (j+1):Nat):Int)))] st):=by
   rw [e2]
   refine am (aC (al rfl rfl ?_)) rfl
   show (if IntMulOk _ 2 then some (D.int (((2 ^ j:Nat):Int)*2)) else none)=_
   rw [if_pos km]
  rw [Bh hc hb,e]
  have e3:many+1+(g:Int)=many+((g+1:Nat):Int):=by push_cast;lia
  rw [e3]
theorem pq {st:Sto}{f:List Int}{n:Nat} (hf:f.length=2 ^ n) (hn:n<=6):m_switches_of [.d (ai f)] st=some (.d (.int n),st):=by
 have e:=xk (st:=st) (f:=ai f) (L:=((2 ^ n:Nat):Int)) (n:=n) rfl (λs=>by
  show some (D.int ((f.map D.int).length:Int))=_
  rw [List.length_map,hf]) n 0 1000000000000000000000000000000 0 (by lia) (by lia) (by lia)
 rw [Int.zero_add] at e
 exact ay rfl (am (e:=[some (.d (ai f)),some (.d (.int 0)),none]) (s:=st) rfl (am (e:=[some (.d (ai f)),some (.d (.int 0)),some (.d (.int 1))]) (s:=st) rfl (am e rfl)))
theorem rT {st:Sto}{n m:Int} (n0:0<=n) (n1:n<=6) (m0:0<=m):m_terms_to [.d (.int n),.d (.int m)] st=some (.d (.tup (((cM n.toNat).filter λt=>decide ((t.length:Int)<=m)).map ai)),st):=by
 obtain⟨env',s2,e2,o,rfl,rfl⟩:=cf (g:=.nm 3) (body:=jt) (ds:=cx 0 n.toNat) (λi env s=>∃ o,env=[some (.d (.int n)),some (.d (.int m)),some (.d (.lst ((dN m i).map ai))),o]/\s=st) (env:=[some (.d (.int n)),some (.d (.int m)),some (.d (.lst [.tup []])),none]) (st:=st)
  ⟨none,rfl,rfl⟩ (λi d env s hd ⟨o,e,es⟩=>by
   subst e es
   obtain⟨rfl,hi⟩:=cZ hd
   have hl:(dN m i).length<=64:=Nat.le_trans (pv m m0 i) (Nat.le_trans (Nat.pow_le_pow_right (by decide) (by lia:i<=6)) (by decide))
   have ht:∀ t ∈ dN m i,t.length<=i:=λt ht=>by
    rw [kW m m0] at ht
    exact fJ (gv i (List.mem_filter.mp ht).1)
   have key:lcI (.nm 0) jf jw [none,some (.d (.int m)),some (.d (.int i))] ((dN m i).map ai) s =
     some ((((dN m i).map ai).filter λd=>match d with | .tup ds=>decide ((ds.length:Int) < m) | _=>false).map λd=>match d with | .tup ds=>.tup (ds++[.int i]) | d=>d,s):=gh _ _ λd hd=>by
    obtain⟨t,htm,rfl⟩:=List.mem_map.mp hd
    have htl:=ht t htm
    have hk:(t.map D.int).length+1<=1000000:=by rw [List.length_map];lia
    exact⟨_,rfl,az (bg rfl rfl) rfl rfl,λ_=>al rfl (cF (ds:=[.int i]) (ah rfl rfl) rfl (by show 1<=1000;decide)) (vV _ hk)⟩
   have e1:((((dN m i).map ai).filter λd=>match d with | .tup ds=>decide ((ds.length:Int) < m) | _=>false).map λd=>match d with | .tup ds=>.tup (ds++[.int i]) | d=>d) =
     (((dN m i).filter λt=>decide ((t.length:Int) < m)).map λt=>t++[(i:Int)]).map ai:=by
    rw [List.filter_map,List.map_map,List.map_map]
    have e0:((λd=>match d with | .tup ds=>decide ((ds.length:Int) < m) | _=>false) ∘ ai)=λt:List Int=>decide ((t.length:Int) < m):=by
     funext t
     show decide (((t.map D.int).length:Int) < m)=_
     rw [List.length_map]
    rw [e0]
    refine List.map_congr_left λt _=>?_
    show D.tup (t.map D.int++[.int i])=D.tup ((t++[(i:Int)]).map D.int)
    rw [List.map_append];rfl
   rw [e1] at key
   have e3:(dN m (i+1)).map ai=(dN m i).map ai++(((dN m i).filter λt=>decide ((t.length:Int) < m)).map λt=>t++[(i:Int)]).map ai:=by rw [dN,List.map_append]
   have h1:((dN m i).map ai).length<=1000000:=by rw [List.length_map];lia
   have h2:((dN m i).map ai).length+((((dN m i).filter λt=>decide ((t.length:Int) < m)).map λt=>t++[(i:Int)]).map ai).length<=1000000:=by
    have:=List.length_filter_le (λt:List Int=>decide ((t.length:Int) < m)) (dN m i)
    simp only [List.length_map];lia
   refine⟨_,[some (.d (.int n)),some (.d (.int m)),some (.d (.lst ((dN m (i+1)).map ai))),some (.d (.int i))],s,rfl,.inl ?_,_,rfl,rfl⟩
   rw [e3]
   generalize (((dN m i).filter λt=>decide ((t.length:Int) < m)).map λt=>t++[(i:Int)]).map ai=B at key h2 ⊢
   generalize (dN m i).map ai=A at key h1 h2 ⊢
   exact aC (i:=2) (al rfl (aF (bW (iw rfl) h1 key)) (vI _ h2)))
 rw [bU] at e2
 have hl:((dN m n.toNat).map ai).length<=64:=by
  rw [List.length_map]
  exact Nat.le_trans (pv m m0 _) (Nat.le_trans (Nat.pow_le_pow_right (by decide) (by lia:n.toNat<=6)) (by decide))
 have hs:ky ((dN m n.toNat).map ai)=some (((cM n.toNat).filter λt=>decide ((t.length:Int)<=m)).map ai):=by
  have e9:bv (dN m n.toNat)=(cM n.toNat).filter λt=>decide ((t.length:Int)<=m):=by rw [kW m m0,m6];rfl
  rw [li,e9]
 generalize (dN m n.toNat).map ai=A at e2 hl hs
 generalize ((cM n.toNat).filter λt=>decide ((t.length:Int)<=m)).map ai=B at hs ⊢
 have hst:h9 s2 [.d (.lst A)]=some B:=by
  show (if A.length<=64 then ky A else none)=_
  rw [if_pos hl,hs]
 have hq:iCL h9 (ae (iV 2) aj) [some (.d (.int n)),some (.d (.int m)),some (.d (.lst A)),o] s2=some (B,s2):=by
  have q:=ah (a:=iV 2) (b:=aj) (env:=[some (.d (.int n)),some (.d (.int m)),some (.d (.lst A)),o]) (st:=s2) (x:=.d (.lst A)) rfl rfl
  simp only [iCL,q,Option.bind_some,hst,Option.map_some]
 exact ay (n:=4) (k:=2) (b:=b_terms_to) rfl (am (aC (i:=2) (aF (fC (ds:=[.tup []]) (ah (cF (ds:=[]) rfl rfl (by decide)) rfl) rfl (by show 1<=1000;decide)))) (am (dq (gW rfl n0 (by lia) rfl) e2) (aB (bg (ah (aF hq) rfl) rfl))))
noncomputable def sI (v:Int):Int:=if v=1 then 1 else -1
theorem jQ (g:Int->Int):∀ (f:List Int) (i:Nat),sgS g i (f.map D.int)=((List.range f.length).map λr:Nat=>sI (f.getD r 0)*g ((i+r:Nat):Int)).sum
 | [],_=>rfl
 | v::f,i=>by
  rw [List.map_cons,List.length_cons,List.range_succ_eq_map,List.map_cons,List.sum_cons,List.map_map]
  show sgD (.int v)*g i+sgS g (i+1) (f.map D.int)=_
  rw [jQ g f (i+1)]
  congr 1
  congr 1
  refine List.map_congr_left λr _=>?_
  show sI (f.getD r 0)*g ((i+1+r:Nat):Int)=sI ((v::f).getD (r+1) 0)*g ((i+(r+1):Nat):Int)
  rw [List.getD_cons_succ,show i+1+r=i+(r+1) by lia]
theorem uJ {α:Type} (f:α->Int) {l m:List α} (h:l.Perm m):(l.map f).sum=(m.map f).sum:=by
 induction h with
 | nil=>rfl
 | cons x _ ih=>rw [List.map_cons,List.map_cons,List.sum_cons,List.sum_cons,ih]
 | swap x y l=>simp only [List.map_cons,List.sum_cons];lia
 | trans _ _ a b=>exact a.trans b
noncomputable def exN (f:List Int) (t:List Int):Int:=sgS (aP false t) 0 (f.map D.int)
noncomputable def exL (f:List Int) (n:Nat):List Prt:=(cM n).map λt=>(t,exN f t)
theorem xq {f:List Int}{n row:Nat} (hf:f.length=2 ^ n) (h:row < 2 ^ n):cT false (exL f n) (row:Int)=2 ^ n*sI (f.getD row 0):=by
 unfold cT exL
 rw [List.map_map,<-t7 (λr=>sI (f.getD r 0)) h]
 refine (uJ _ (bf (cD n))).trans ?_
 congr 1
 refine List.map_congr_left λt _=>?_
 show exN f t*aP false t row=_
 rw [exN,jQ,hf]
 congr 2
 refine List.map_congr_left λr _=>?_
 rw [Nat.zero_add]
theorem dS:∀ n:Nat,(cD n).Nodup
 | 0=>by simp [cD]
 | n+1=>by
  rw [cD,List.nodup_append]
  refine⟨dS n,?_,?_⟩
  ·refine List.Pairwise.map _ (λa b hab=>?_) (dS n)
   intro e
   exact hab (List.append_cancel_right e)
  ·intro a ha b hb e
   subst e
   obtain⟨t,_,rfl⟩:=List.mem_map.mp hb
   have:=(gv n ha).2 (n:Int) (List.mem_append_right _ (List.mem_singleton.mpr rfl))
   lia
theorem lC (n:Nat):(cM n).Nodup:=(bf _).nodup_iff.mpr (dS n)
theorem eS (f:List Int) (n:Nat):(exL f n).map Prod.fst=cM n:=by
 unfold exL
 rw [List.map_map]
 conv=>rhs;rw [<-List.map_id (cM n)]
 rfl
theorem sk {f:List Int}{n:Nat}:∀ p ∈ exL f n,Trm n p.1:=λp hp=>by
 obtain⟨t,ht,rfl⟩:=List.mem_map.mp hp
 exact fk ht
theorem lR {st:Sto}{f:List Int}{n:Nat} (hf:f.length=2 ^ n) (hn:n<=6) (hv:∀ v ∈ f,v=0\/v=1) :
  ∃ ks:List (List Int),ks.Pairwise ltL/\ks.Nodup/\(∀ t,t ∈ ks↔t ∈ (exL f n).map Prod.fst)/\m_exact_by_odd [.d (ai f)] st=some (.d (bb (ax false) (aZ ks (exL f n))),st):=by
 have h6:∀ p ∈ exL f n,Trm 6 p.1:=λp hp=>(sk p hp).mono hn
 have hsw:=pq (st:=st) hf hn
 have h64:f.length<=64:=by rw [hf];exact Nat.le_trans (Nat.pow_le_pow_right (by decide) hn) (by decide)
 have hvf:∀ u ∈ f.map D.int,vm u:=λu hu=>by
  obtain⟨v,h,rfl⟩:=List.mem_map.mp hu
  rcases hv v h with rfl | rfl
  ·exact .inr (.inl rfl)
  ·exact .inr (.inr rfl)
 obtain⟨e',s',hF,o3,kvs,rfl,rfl,G⟩:=cf (g:=.nm 3) (body:=dR) (ds:=(cM n).map ai) (λi env s=>∃ o3 kvs,env=[some (.d (ai f)),some (.d (.int n)),some (.h st.length),o3]/\s=st++[.m kvs]/\GK kvs ((exL f n).take i))
  (env:=[some (.d (ai f)),some (.d (.int n)),some (.h st.length),none]) (st:=st++[.m []]) ⟨none,[],rfl,rfl,GK.nil⟩ (by
  rintro i d env s hd ⟨o3,kvs,rfl,rfl,G⟩
  rw [List.getElem?_map,Option.map_eq_some_iff] at hd
  obtain⟨t,ht,rfl⟩:=hd
  have htr:=(fk (List.mem_of_getElem? ht)).mono hn
  have hp:(exL f n)[i]?=some (t,exN f t):=by unfold exL;rw [List.getElem?_map,ht];rfl
  have htk:(exL f n).take (i+1)=(exL f n).take i++[(t,exN f t)]:=by rw [List.take_add_one,hp];rfl
  have hnew:t ∉ ((exL f n).take i).map Prod.fst:=λhm=>by
   rw [List.map_take,eS] at hm
   have hnd:=lC n
   rw [<-List.take_append_drop i (cM n),List.nodup_append] at hnd
   exact hnd.2.2 t hm t (List.mem_iff_getElem?.mpr ⟨0,by rw [List.getElem?_drop];exact ht⟩) rfl
  have G2:=G.put (t,exN f t)
  rw [i4 hnew,Int.zero_add] at G2
  have hlen:=uT G λq hq=>h6 q (List.mem_of_mem_take hq)
  have hs:=wu (st:=st++[C.m kvs]) (fs:=f.map D.int) (b:=false) (t:=t) (by rw [List.length_map];lia) hvf (qN htr (Nat.le_refl 6)) (by have:=fJ htr;lia)
  refine⟨_,_,_,rfl,.inl ?_,some (.d (ai t)),gq kvs t (.int (exN f t)),rfl,rfl,by rw [htk];exact G2⟩
  have e1:aQ (t.map D.int)=some t:=bp t
  have e2:=ip st kvs
  have e4:(st++[C.m kvs]).set st.length (.m (gq kvs t (.int (exN f t))))=st++[.m (gq kvs t (.int (exN f t)))]:=by
   rw [List.set_append_right _ _ (Nat.le_refl _),Nat.sub_self];rfl
  have hl:kvs.length < 1000:=by lia
  have g2:aE m_sum_by (ae (iV 0) (ae (iC (.str "odd")) (ae (iV 3) aj))) [some (.d (ai f)),some (.d (.int n)),some (.h st.length),some (.d (ai t))] (st++[C.m kvs])=some (.d (.int (exN f t)),st++[C.m kvs]):=ar rfl hs
  simp only [ai] at g2 ⊢
  simp only [dR,nO,g2,iV,List.set_cons_succ,List.set_cons_zero,List.getD_cons_zero,List.getD_cons_succ,Option.map_some,Option.bind_some,e1,e2,hl,if_true,e4])
 rw [List.length_map,<-eS f n,List.length_map,List.take_length] at G
 refine⟨bv (kvs.map Prod.fst),gp G.nd,(bf _).nodup_iff.mpr G.nd,λt=>((bf _).mem_iff).trans (G.mem t),?_⟩
 have hfr:m_poly_from [.d (.str "odd"),.h st.length] (st++[C.m kvs])=some (.d (bb (ax false) (aZ (bv (kvs.map Prod.fst)) (exL f n))),st++[C.m kvs]):=sC (kd:=ax false) (ip st kvs) G h6
 generalize aZ (bv (kvs.map Prod.fst)) (exL f n)=R at hfr ⊢
 have hto:=rT (st:=st++[C.m []]) (n:=n) (m:=n) (by lia) (by lia) (by lia)
 have hflt:((cM (n:Int).toNat).filter λt=>decide ((t.length:Int)<=(n:Int)))=cM n:=by
  rw [Int.toNat_natCast]
  refine List.filter_eq_self.mpr λt ht=>?_
  have:=fJ (fk ht)
  exact decide_eq_true (by lia)
 rw [hflt] at hto
 have hq:=ge (n:=4) (k:=1) (b:=b_exact_by_odd) (ws:=[.d (ai f)]) (st:=st) (s:=st++[C.m kvs]) (x:=bb (ax false) R) rfl
  (am (aC (i:=1) (ar rfl hsw)) (am (aC (i:=2) (w:=.h st.length) (s:=st++[C.m []]) rfl) (am (dq (d7 (ar rfl hto)) hF) (aB (ar rfl hfr)))))
 rw [iy] at hq
 exact hq
end Own
end
section
set_option maxHeartbeats 1000000
namespace Own
open PySem L2
theorem nw {ks:List (List Int)}{L:List Prt}{p:Prt} (h:p ∈ aZ ks L):p.1 ∈ ks:=by
 unfold aZ at h
 obtain⟨t,ht,rfl⟩:=List.mem_map.mp h
 exact (List.mem_filter.mp ht).1
theorem zR {n:Nat}{t:List Int} (h:Trm n t) (hn:n<=6):bO t < 2 ^ n:=Nat.lt_pow_two_of_testBit _ λj hj=>by
 rw [cV (h.mono hn)]
 exact decide_eq_false λhm=>by have:=(h.2 _ hm).2;lia
theorem nr {st:Sto}{kd:Str}{ps:List Prt}{q:Int} (lp:ps.length<=64) (hq:0 < q/\q < 1073741824):m_parted [.d (bb kd ps),.d (.int q)] st=some (.d (bb kd (ps.map λp:Prt=>((p.1,p.2 / q):Prt))),st):=by
 have key:lcI (.tp [0,1]) bN mC [none,none,some (.d (.int q))] (ps.map au) st=some ((ps.map λp:Prt=>((p.1,p.2 / q):Prt)).map au,st):=by
  rw [List.map_map]
  refine hJ _ λr hm=>⟨_,rfl,?_⟩
  exact cF (ah rfl (ah (al (x:=.d (.int r.2)) (y:=.d (.int q)) (d:=.int (r.2 / q)) rfl rfl (by
   show (if 0 < q/\q < 1073741824 then some (D.int (r.2 / q)) else none)=_
   rw [if_pos hq])) rfl)) rfl (by show 2<=1000;decide)
 have hz:(ps.map au).length<=1000000:=by rw [List.length_map];lia
 unfold bb
 generalize (ps.map λp:Prt=>((p.1,p.2 / q):Prt)).map au=LL at *
 generalize ps.map au=PP at *
 exact ay (n:=2) (k:=2) (b:=b_parted) rfl (aB (cF (ah (al rfl rfl (ix0 _ _ _)) (ah (bg (ah (aF (bW (d7 (al rfl rfl (ix1 _ _ _ _))) hz key)) rfl) rfl) rfl)) rfl (by show 2<=1000;decide)))
theorem pJ {b:Bool}{row N:Int}:∀ {ps:List Prt},(∀ p ∈ ps,N∣p.2)->N*cT b (ps.map λp:Prt=>((p.1,p.2 / N):Prt)) row=cT b ps row
 | [],_=>by show N*(0:Int)=0;rw [Int.mul_zero]
 | p::ps,h=>by
  have ih:=pJ (b:=b) (row:=row) (ps:=ps) λq hq=>h q (List.mem_cons_of_mem _ hq)
  rw [List.map_cons,gu,gu,Int.mul_add,ih]
  congr 1
  show N*(p.2 / N*aP b p.1 row)=_
  rw [<-Int.mul_assoc,Int.mul_ediv_cancel' (h p List.mem_cons_self)]
theorem gy (a:List Int):¬ ltL a a:=by
 intro h
 unfold ltL at h
 induction a with
 | nil=>simp [b9] at h
 | cons x a ih=>exact ih (by simpa [b9] using h)
theorem n4 {rs:List Prt} (h:iT rs):(rs.map Prod.fst).Nodup:=by
 show (rs.map Prod.fst).Pairwise (·≠·)
 refine h.2.1.imp λ{a b} (hab:ltL a b) (e:a=b)=>?_
 rw [e] at hab
 exact gy b hab
theorem vT {N:Int}{rs:List Prt} (h:iT rs) (hd:∀ p ∈ rs,N∣p.2):iT (rs.map λp:Prt=>((p.1,p.2 / N):Prt)):=by
 refine⟨λp hp=>?_,?_,by rw [List.length_map];exact h.2.2⟩
 ·obtain⟨q,hq,rfl⟩:=List.mem_map.mp hp
  refine⟨(h.1 q hq).1,λe=>(h.1 q hq).2 ?_⟩
  have:=Int.mul_ediv_cancel' (hd q hq)
  rw [show q.2 / N=0 from e,Int.mul_zero] at this
  exact this.symm
 ·rw [List.map_map]
  exact h.2.1
theorem mL {st:Sto}{f:List Int}{n:Nat}{b:Bool} (hf:f.length=2 ^ n) (hn:n<=6) (hv:∀ v ∈ f,v=0\/v=1) :
  ∃ rs:List Prt,iT rs/\(∀ row:Nat,row < 2 ^ n->cT b rs (row:Int)=(if b=true then 1 else 2 ^ n)*sI (f.getD row 0))/\m_exact_of [.d (ai f),.d (.str (ax b))] st=some (.d (bb (ax b) rs),st)
   /\(b=false->∃ ks:List (List Int),ks.Nodup/\(∀ t,t ∈ ks↔t ∈ cM n)/\rs=aZ ks (exL f n)):=by
 obtain⟨ks,k1,k2,k3,k4⟩:=lR (st:=st) hf hn hv
 have h6:∀ p ∈ exL f n,Trm 6 p.1:=λp hp=>(sk p hp).mono hn
 have pok:=nQ k1 k2 k3 h6
 have hval:∀ row:Nat,row < 2 ^ n->cT false (aZ ks (exL f n)) (row:Int)=2 ^ n*sI (f.getD row 0):=λrow hr=>by rw [qw k2 k3,xq hf hr]
 have hlen:eD st [.d (ai f)]=some (.int ((2:Int) ^ n)):=by
  rw [pA,hf];push_cast;rfl
 have hN:(0:Int) < 2 ^ n/\(2:Int) ^ n<=64:=vR hn
 cases b with
 | false=>
  refine⟨_,pok,λrow hr=>by rw [hval row hr];rfl,?_,λ_=>⟨ks,k2,λt=>by rw [k3,eS],rfl⟩⟩
  generalize bb (ax false) (aZ ks (exL f n))=P at *
  exact ay (n:=3) (k:=2) (b:=b_exact_of) rfl (am (aC (i:=2) (ar rfl k4)) (dZ (ii (az (x:=.d (.str (ax false))) rfl rfl (by rw [i5];rfl)) (aB rfl))))
 | true=>
  have htn:∀ p ∈ aZ ks (exL f n),Trm n p.1:=λp hp=>by
   have:=(k3 _).mp (nw hp)
   rw [eS] at this
   exact fk this
  obtain⟨js,j1,j2,j3,j4⟩:=qX (st:=st) (b:=false) (λp hp=>(pok.1 p hp).1) pok.2.2
  have ht6:=mq (b:=false) (d:=gC (aZ ks (exL f n))) λp hp=>(pok.1 p hp).1
  have rok:=nQ j1 j2 j3 ht6
  have rval:∀ row,cT true (aZ js (bV false (gC (aZ ks (exL f n))) (aZ ks (exL f n)))) row=cT false (aZ ks (exL f n)) row:=λrow=>by
   rw [qw j2 j3]
   have:=qu (b:=false) (row:=row) (d:=gC (aZ ks (exL f n))) (ps:=aZ ks (exL f n)) λp hp=>wO hp
   rw [show wR false (gC (aZ ks (exL f n)))=1 from rfl,Int.one_mul] at this
   exact this
  have rtn:∀ p ∈ aZ js (bV false (gC (aZ ks (exL f n))) (aZ ks (exL f n))),Trm n p.1:=λp hp=>by
   have:=(j3 _).mp (nw hp)
   obtain⟨q,hq,e⟩:=List.mem_map.mp this
   obtain⟨r,hr,hq⟩:=pT hq
   rw [<-e]
   have hs:=oh hq
   exact⟨(htn r hr).1.sublist hs,λk hk=>(htn r hr).2 k (hs.subset hk)⟩
  have hd:=vY (N:=2 ^ n) (n4 rok) (λp hp=>(rok.1 p hp).1) λp hp=>by
   rw [rval,hval _ (zR (rtn p hp) hn)]
   exact Int.dvd_mul_right _ _
  have hpt:=nr (st:=st) (kd:=ax true) (q:=2 ^ n) rok.2.2 (by lia)
  refine⟨_,vT rok hd,λrow hr=>?_,?_,λe=>by cases e⟩
  ·have h1:=pJ (b:=true) (row:=row) hd
   rw [rval,hval row hr] at h1
   rw [if_pos rfl,Int.one_mul]
   exact Int.eq_of_mul_eq_mul_left (by lia) h1
  ·generalize bb (ax true) ((aZ js (bV false (gC (aZ ks (exL f n))) (aZ ks (exL f n)))).map λp:Prt=>((p.1,p.2 / 2 ^ n):Prt))=P2 at *
   generalize aZ js (bV false (gC (aZ ks (exL f n))) (aZ ks (exL f n)))=RR at *
   generalize aZ ks (exL f n)=PP at *
   exact ay (n:=3) (k:=2) (b:=b_exact_of) rfl (am (aC (i:=2) (ar rfl k4)) (am (cA (az (x:=.d (.str (ax true))) rfl rfl (by rw [i5];rfl)) rfl) (aB (ar (ah (ar rfl j4) (ah (bg (ah rfl rfl) hlen) rfl)) hpt))))
end Own
end
section
set_option maxHeartbeats 1000000
namespace Own
open PySem L2
theorem kT (t:List Int):∀ L:List Prt,bA L t=(L.map λp=>p.2*(if p.1=t then 1 else 0)).sum
 | []=>rfl
 | p::L=>by
  rw [lv,List.map_cons,List.sum_cons,kT t L]
  congr 1
  by_cases e:p.1=t
  ·rw [if_pos e,if_pos e,Int.mul_one]
  ·rw [if_neg e,if_neg e,Int.mul_zero]
theorem rX {ks:List (List Int)}{L:List Prt} (hn:ks.Nodup) (hm:∀ t,t ∈ ks↔t ∈ L.map Prod.fst) (t:List Int):bA (aZ ks L) t=bA L t:=by
 rw [kT,nq (λu=>if u=t then 1 else 0),md (λu=>if u=t then 1 else 0) hn L λp hp=>(hm _).mpr (List.mem_map_of_mem hp),kT]
theorem wH {f:List Int}{n:Nat}{t:List Int} (ht:t ∈ cM n):bA (exL f n) t=exN f t:=by
 rw [kT]
 unfold exL
 rw [List.map_map]
 have:=lF (exN f) 1 t (cM n) (lC n) ht
 rw [Int.one_mul] at this
 rw [<-this]
 congr 1
 refine List.map_congr_left λu _=>?_
 show exN f u*(if u=t then 1 else 0)=_
 by_cases e:u=t
 ·subst e;rw [if_pos rfl,Int.mul_comm]
 ·rw [if_neg e,if_neg (λz=>e z.symm),Int.mul_comm]
theorem qo:∀ rs:List Prt,jI (rs.map au)=some (rs.map λp=>(p.1,D.int p.2))
 | []=>rfl
 | p::rs=>by
  have e1:wG (au p)=some (p.1,.int p.2):=by
   show (aQ (p.1.map D.int)).map (λl=>(l,D.int p.2))=_
   rw [bp];rfl
  rw [List.map_cons,jI,e1,qo rs];rfl
noncomputable def dcM (rs:List Prt):List (List Int×D):=(rs.map λp=>(p.1,D.int p.2)).foldl (λm p=>gq m p.1 p.2) []
theorem yy:∀ (rs L:List Prt) (kvs:List (List Int×D)),GK kvs L->((L++rs).map Prod.fst).Nodup->GK ((rs.map λp=>(p.1,D.int p.2)).foldl (λm p=>gq m p.1 p.2) kvs) (L++rs)
 | [],L,kvs,G,_=>by rw [List.append_nil];exact G
 | p::rs,L,kvs,G,hn=>by
  rw [List.map_cons,List.foldl_cons]
  have hnew:p.1 ∉ L.map Prod.fst:=λhm=>by
   rw [List.map_append,List.nodup_append] at hn
   exact hn.2.2 _ hm _ (List.mem_map_of_mem List.mem_cons_self) rfl
  have G2:=G.put p
  rw [i4 hnew,Int.zero_add] at G2
  have e:L++p::rs=(L++[p])++rs:=by rw [List.append_assoc];rfl
  rw [e] at hn ⊢
  exact yy rs (L++[p]) _ G2 hn
theorem Aq {rs:List Prt} (h:iT rs):GK (dcM rs) rs:=by
 have:=yy rs [] [] GK.nil (n4 h)
 exact this
theorem pm1 {v:Int} (h:v=0\/v=1):atI [D.int (-1),.int 1] v=some (.int (sI v)):=by
 rcases h with rfl | rfl
 ·exact qR _ _
 ·exact qi _ _ _
theorem tB {f:List Int}{d:D} (h:d ∈ bX 0 (f.map D.int)):∃ (i:Nat) (v:Int),f[i]?=some v/\d=.tup [.int (i:Int),.int v]:=by
 obtain⟨i,hi⟩:=List.mem_iff_getElem?.mp h
 rw [gr] at hi
 obtain⟨e,he,rfl⟩:=Option.map_eq_some_iff.mp hi
 rw [List.getElem?_map,Option.map_eq_some_iff] at he
 obtain⟨v,hv,rfl⟩:=he
 exact⟨i,v,hv,by simp⟩
noncomputable def zZ (t:List Int):D->D
 | .tup [.int i,.int v]=>.int (sI v*aP false t i)
 | d=>d
theorem yh (t:List Int) (f:List Int):(bX 0 (f.map D.int)).map (zZ t)=((List.range f.length).map λr:Nat=>sI (f.getD r 0)*aP false t (r:Int)).map D.int:=by
 refine List.ext_getElem? λi=>?_
 rw [List.getElem?_map,gr,List.map_map,List.getElem?_map,List.getElem?_map]
 by_cases hi:i < f.length
 ·rw [List.getElem?_eq_getElem hi,List.getElem?_eq_getElem (by rw [List.length_range];exact hi),List.getElem_range]
  simp [zZ,List.getD_eq_getElem?_getD,hi]
 ·rw [List.getElem?_eq_none (by lia),List.getElem?_eq_none (by rw [List.length_range];lia)];rfl
theorem xg (t:List Int) (f:List Int):((List.range f.length).map λr:Nat=>sI (f.getD r 0)*aP false t (r:Int)).sum=exN f t:=by
 rw [exN,jQ]
 congr 1
 refine List.map_congr_left λr _=>?_
 rw [Nat.zero_add]
theorem zK {st:Sto}{f:List Int}{n:Nat}{t:List Int}{a1 a2 a4:Option W} (hf:f.length=2 ^ n) (hn:n<=6) (hv:∀ v ∈ f,v=0\/v=1) (ht:Trm 6 t) :
  iCB jT (ae (aV (iLc 2 [3] (gD (ae (iV 0) aj)) (.tp [0,1]) bN cL)) aj) [some (.d (ai f)),a1,a2,some (.d (ai t)),a4] st=some (.d (.int (exN f t)),st):=by
 have h64:f.length<=64:=by rw [hf];exact Nat.le_trans (Nat.pow_le_pow_right (by decide) hn) (by decide)
 have key:lcI (.tp [0,1]) bN cL [none,none,some (.d (ai t))] (bX 0 (f.map D.int)) st=some ((bX 0 (f.map D.int)).map (zZ t),st):=d3 _ λd hd=>by
  obtain⟨i,v,hi,rfl⟩:=tB hd
  refine⟨_,rfl,?_⟩
  have tv:=la (st:=st) (b:=false) (row:=(i:Int)) (qN ht (Nat.le_refl 6))
  have hx:=pm1 (hv v (List.mem_of_getElem? hi))
  have hm:dO st (.d (.int (sI v))) (.d (.int (aP false t i)))=some (.int (sI v*aP false t i)):=by
   show (if PySem.IntMulOk _ _ then some (D.int _) else none)=_
   rw [if_pos (eK (by unfold sI;split<;>decide))]
  have hix:dIx st (.d (.lst [.int (-1),.int 1])) (.d (.int v))=some (.int (sI v)):=by
   simp only [dIx,gz,Option.bind_some,hx]
  exact al (al (aF (fC (ds:=[.int (-1),.int 1]) (s:=st) rfl rfl (by decide))) rfl hix) (ar rfl tv) hm
 rw [yh] at key
 have he:gD (ae (iV 0) aj) [some (.d (ai f)),a1,a2,some (.d (ai t)),a4] st=some (bX 0 (f.map D.int),st):=rfl
 have hz:(bX 0 (f.map D.int)).length<=1000000:=by rw [gf,List.length_map];lia
 have hs:=bp ((List.range f.length).map λr:Nat=>sI (f.getD r 0)*aP false t (r:Int))
 have hd:=xg t f
 generalize ((List.range f.length).map λr:Nat=>sI (f.getD r 0)*aP false t (r:Int))=Z at *
 refine bg (ah (aF (bW he hz key)) rfl) ?_
 simp only [jT,hs,Option.map_some,hd]
end Own
end
section
set_option maxHeartbeats 1000000
namespace Own
open PySem L2
theorem tZ {st:Sto}{f:List Int}{n:Nat} (hf:f.length=2 ^ n) (hn:n<=6) (hv:∀ v ∈ f,v=0\/v=1):m__law_numbers_right [.d (ai f),.d (.int n)] st=some (.d (.bl true),st):=by
 obtain⟨rs,r1,_,r3,r4⟩:=mL (st:=st) (b:=false) hf hn hv
 obtain⟨ks,k1,k2,rfl⟩:=r4 rfl
 have G:=Aq r1
 have hget:∀ t ∈ cM n,(vM (dcM (aZ ks (exL f n))) t).getD (.int 0)=.int (exN f t):=λt ht=>by
  rw [G.getD t,rX k1 (λt=>by rw [k2,eS]),wH ht]
 generalize aZ ks (exL f n)=rs at *
 have ha:=ig (st:=st++[C.m (dcM rs)]) (n:=(n:Int)) (by lia) (by lia)
 rw [Int.toNat_natCast] at ha
 obtain⟨e',s',hF,o3,o4,rfl,rfl⟩:=cf (g:=.nm 3) (body:=dD) (ds:=(cM n).map ai) (λi env s=>∃ o3 o4,env=[some (.d (ai f)),some (.d (.int n)),some (.h st.length),o3,o4]/\s=st++[.m (dcM rs)])
  (env:=[some (.d (ai f)),some (.d (.int n)),some (.h st.length),none,none]) (st:=st++[.m (dcM rs)]) ⟨none,none,rfl,rfl⟩ (by
  rintro i d env s hd ⟨o3,o4,rfl,rfl⟩
  rw [List.getElem?_map,Option.map_eq_some_iff] at hd
  obtain⟨t,ht,rfl⟩:=hd
  have hm:=List.mem_of_getElem? ht
  have hdue:=λa1 a2 a4=>zK (st:=st++[C.m (dcM rs)]) (a1:=a1) (a2:=a2) (a4:=a4) hf hn hv ((fk hm).mono hn)
  have e1:aQ (t.map D.int)=some t:=bp t
  have e2:=ip st (dcM rs)
  have e3:=hget t hm
  have g:∀ a1 a4,kh (iV 2) (iV 3) (iC (.int 0)) [some (.d (ai f)),a1,some (.h st.length),some (.d (ai t)),a4] (st++[C.m (dcM rs)])=some (.d (.int (exN f t)),st++[C.m (dcM rs)]):=λa1 a4=>by
   simp only [kh,iV,iC,ai,List.getD_cons_zero,List.getD_cons_succ,Option.map_some,Option.bind_some,e1,e2,e3]
  refine⟨_,_,_,rfl,.inl ?_,some (.d (ai t)),some (.d (.int (exN f t))),rfl,rfl⟩
  exact am (aC (i:=4) (hdue _ _ _)) (cA (az (g _ _) rfl (by rw [rS,beq_self_eq_true];rfl)) rfl))
 have hdc:∀ env:Ev,iOp dIx (aE m_exact_of (ae (iV 0) (ae (iC (.str "odd")) aj))) (iC (.int 1)) env st=some (.d (.tup (rs.map au)),st)->lV (iOp dIx (aE m_exact_of (ae (iV 0) (ae (iC (.str "odd")) aj))) (iC (.int 1))) env st=some (.h st.length,st++[C.m (dcM rs)]):=λenv he=>by
  have hl:(rs.map λp=>(p.1,D.int p.2)).length<=64:=by rw [List.length_map];exact r1.2.2
  simp only [lV,he,Option.bind_some,qo,hl,if_true,dcM]
 have hit:∀ env:Ev,aE m__law_all_terms (ae (iV 1) aj) env (st++[C.m (dcM rs)])=some (.d (.lst ((cM n).map ai)),st++[C.m (dcM rs)])->ba (aE m__law_all_terms (ae (iV 1) aj)) env (st++[C.m (dcM rs)])=some ((cM n).map ai,st++[C.m (dcM rs)]):=λenv h=>by
  simp only [ba,h,Option.bind_some]
 have hq:=ge (n:=5) (k:=2) (b:=b__law_numbers_right) (ws:=[.d (ai f),.d (.int n)]) (st:=st) (s:=st++[C.m (dcM rs)]) (x:=.bl true) rfl
  (am (aC (i:=2) (hdc _ (al (ar rfl r3) rfl (ix1 _ _ _ _)))) (am (dq (hit _ (ar rfl ha)) hF) (aB rfl)))
 rw [iy] at hq
 exact hq
theorem wL {st:Sto}{f:List Int}{n:Nat}{b:Bool} (hf:f.length=2 ^ n) (hn:n<=6) (hv:∀ v ∈ f,v=0\/v=1):m__law_right [.d (ai f),.d (.int n),.d (.str (ax b))] st=some (.d (.bl true),st):=by
 obtain⟨rs,r1,r2,r3,_⟩:=mL (st:=st) (b:=b) hf hn hv
 have h64:f.length<=64:=by rw [hf];exact Nat.le_trans (Nat.pow_le_pow_right (by decide) hn) (by decide)
 have e1:=tT (st:=st) (b:=b) r1
 have hN:(0:Int) < 2 ^ n/\(2:Int) ^ n<=64:=vR hn
 obtain⟨F,hFd⟩:∃ F:Int,F=if b=true then 1 else 2 ^ n:=⟨_,rfl⟩
 have hF:-(2 ^ 64) < F/\F < 2 ^ 64:=by rw [hFd];split<;>lia
 rw [<-hFd] at r2
 have key:lcI (.tp [0,1]) bN fm [none,none,some (.d (bb (ax b) rs)),some (.d (.int F))] (bX 0 (f.map D.int)) st=some ((bX 0 (f.map D.int)).map λ_=>D.bl true,st):=d3 _ λd hd=>by
  obtain⟨i,v,hi,rfl⟩:=tB hd
  refine⟨_,rfl,?_⟩
  have hil:=(List.getElem?_eq_some_iff.mp hi).1
  have v1:=qL (st:=st) (b:=b) (ps:=rs) (row:=(i:Int)) (λp hp=>(r1.1 p hp).1) (by have:=r1.2.2;lia)
  rw [r2 i (by lia),show f.getD i 0=v by rw [List.getD_eq_getElem?_getD,hi];rfl] at v1
  have hix:dIx st (.d (.lst [.int (-1),.int 1])) (.d (.int v))=some (.int (sI v)):=by
   simp only [dIx,gz,Option.bind_some,pm1 (hv v (List.mem_of_getElem? hi))]
  have hm:dO st (.d (.int F)) (.d (.int (sI v)))=some (.int (F*sI v)):=by
   show (if PySem.IntMulOk _ _ then some (D.int _) else none)=_
   rw [if_pos (eK hF)]
  exact al (ar rfl v1) (al rfl (al (aF (fC (ds:=[.int (-1),.int 1]) (s:=st) rfl rfl (by decide))) rfl hix) hm) (by rw [jE,beq_self_eq_true])
 have hsh:kE st (.d (.int 1)) (.d (.int (n:Int)))=some (.int (1*2 ^ (n:Int).toNat)):=by
  show (if oy 1 (n:Int) then some (D.int (1*2 ^ (n:Int).toNat)) else none)=_
  rw [if_pos ⟨by lia,by lia,by decide⟩]
 rw [Int.toNat_natCast,Int.one_mul] at hsh
 have ek:dEq st (.d (.str (ax b))) (.d (.str "odd"))=some (.bl (!b)):=by
  rw [i5]
  cases b<;>rfl
 have hix:dIx st (.d (.lst [.int 1,.int (2 ^ n)])) (.d (.int (if (!b)=true then 1 else 0)))=some (.int F):=by
  rw [hFd]
  cases b with
  | true=>simp only [Bool.not_true,Bool.false_eq_true,if_false,if_true,dIx,gz,Option.bind_some,qR]
  | false=>simp only [Bool.not_false,Bool.false_eq_true,if_false,if_true,dIx,gz,Option.bind_some,qi]
 have hall:((bX 0 (f.map D.int)).map λ_=>D.bl true)=((bX 0 (f.map D.int)).map λ_=>true).map D.bl:=by rw [List.map_map];rfl
 have hall2:(((bX 0 (f.map D.int)).map λ_=>true).all id)=true:=List.all_eq_true.mpr λx hx=>by
  obtain⟨_,_,rfl⟩:=List.mem_map.mp hx
  rfl
 rw [hall] at key
 have hz:(bX 0 (f.map D.int)).length<=1000000:=by rw [gf,List.length_map];lia
 have he:∀ a b c d,gD (ae (iV 0) aj) [some (.d (ai f)),a,b,c,d] st=some (bX 0 (f.map D.int),st):=λ_ _ _ _=>rfl
 have nk:dNe st (.d (.str (ax b))) (.d (.str (ax b)))=some (.bl false):=by rw [yW,beq_self_eq_true];rfl
 have qa:=λenv (q:aV (iLc 2 [3,4] (gD (ae (iV 0) aj)) (.tp [0,1]) bN fm) env st=some (.d (.lst (((bX 0 (f.map D.int)).map λ_=>true).map D.bl)),st))=>xJ (bs:=(bX 0 (f.map D.int)).map λ_=>true) (ah (b:=aj) q rfl)
 rw [hall2] at qa
 unfold bb at *
 generalize rs.map au=RR at *
 generalize ((bX 0 (f.map D.int)).map λ_=>true).map D.bl=TT at *
 generalize bX 0 (f.map D.int)=EE at *
 exact ay (n:=5) (k:=3) (b:=b__law_right) rfl (am (aC (i:=3) (ar rfl r3)) (am (cA (kr (ic (mM (ar rfl e1))) (az (al rfl rfl (ix0 _ _ _)) rfl nk)) rfl)
  (am (aC (i:=4) (al (aF (fC (ah rfl (ah (al rfl rfl hsh) rfl)) rfl (by show 2<=1000;decide))) (bg (d:=.int (if (!b)=true then 1 else 0)) (ah (al rfl rfl ek) rfl) rfl) hix)) (aB (qa _ (aF (bW (he _ _ _ _) hz key)))))))
end Own
end
section
set_option maxHeartbeats 1000000
namespace Own
open PySem L2
theorem sS {n:Int} (n1:n<=6):(cM n.toNat).length<=64:=by
 rw [pG];exact Nat.le_trans (Nat.pow_le_pow_right (by decide) (by lia:n.toNat<=6)) (by decide)
noncomputable def V01 (u:D):Prop:=u=.int 0\/u=.int 1
theorem Ae {r:Int} (h0:0<=r) (h1:r < 2):V01 (.int r):=by
 have:r=0\/r=1:=by lia
 rcases this with rfl | rfl
 ·exact .inl rfl
 ·exact .inr rfl
theorem wj {te:Ef}{st:Sto}{n:Nat}{env:Ev}{m:Nat}{Z:Int} (hte:∀ s d,te (env.set 0 (some (.d d))) s=(m__law_take [.h n,.d (.int 2)] s).map λr=>(r.1,r.2)) (henv:env.length≠0) (h:Hd st n Z) (hZ:Z+m<=1000000) :
  ∃ us st',us.length=m/\(∀ u ∈ us,V01 u)/\Stw n st st'/\Hd st' n (Z+m)/\lcI (.nm 0) bN te env (cx 0 m) st=some (us,st'):=by
 obtain⟨us,s2,e2,t2,hd2,hl,hv⟩:=jz (g:=.nm 0) (tt:=bN) (te:=te) (env:=env) (ds:=cx 0 m)
  (λi ys s=>Stw n st s/\Hd s n (Z+i)/\ys.length=i/\∀ u ∈ ys,V01 u) (st:=st) (ys0:=[]) ⟨Stw.refl h.lt,h.mono (by lia),rfl,λ_ h=>nomatch h⟩ (λi d ys s hd ⟨p1,p2,p3,p4⟩=>by
   obtain⟨rfl,hi⟩:=cZ hd
   obtain⟨r,s2,r0,r1,t2,h2,e2⟩:=ix p2 (m:=2) (by lia) (by decide) (by decide)
   refine⟨env.set 0 (some (.d (.int i))),by cases env with | nil=>exact absurd rfl henv | cons a l=>rfl,.inl ⟨s,.int r,s2,rfl,?_,p1.trans t2,h2.mono (by push_cast;lia),by rw [List.length_append,p3];rfl,λu hu=>?_⟩⟩
   ·rw [hte,e2];rfl
   ·rcases List.mem_append.mp hu with z | z
    ·exact p4 u z
    ·rw [List.mem_singleton.mp z];exact Ae r0 r1)
 rw [bU] at hl hd2
 exact⟨us,s2,by simpa using hl,by simpa using hv,t2,hd2,e2⟩
theorem v8 {n:Int} (n0:0<=n) (n1:n<=6):∃ q:Int,(∀ s,kE s (.d (.int 1)) (.d (.int n))=some (.int q))/\q.toNat=2 ^ n.toNat/\(-(2 ^ 62)<=q/\q < 2 ^ 62)/\2 ^ n.toNat<=64:=by
 have h:n=0\/n=1\/n=2\/n=3\/n=4\/n=5\/n=6:=by lia
 rcases h with rfl | rfl | rfl | rfl | rfl | rfl | rfl
 ·exact⟨1,λs=>rfl,by decide,by decide,by decide⟩
 ·exact⟨2,λs=>rfl,by decide,by decide,by decide⟩
 ·exact⟨4,λs=>rfl,by decide,by decide,by decide⟩
 ·exact⟨8,λs=>rfl,by decide,by decide,by decide⟩
 ·exact⟨16,λs=>rfl,by decide,by decide,by decide⟩
 ·exact⟨32,λs=>rfl,by decide,by decide,by decide⟩
 ·exact⟨64,λs=>rfl,by decide,by decide,by decide⟩
theorem qI {st:Sto}{h:Nat}{n Z:Int} (hh:Hd st h Z) (hZ:Z+7<=1000000) (n0:0<=n) (n1:n<=6):∃ us st',us.length=2 ^ n.toNat/\(∀ u ∈ us,V01 u)/\Stw h st st'/\Hd st' h (Z+7)/\m__law_by_counts [.h h,.d (.int n)] st=some (.d (.lst us),st'):=by
 obtain⟨rs,s1,rl,rv,w1,h1,e1⟩:=wj (te:=fu) (n:=h) (env:=[none,some (.h h)]) (m:=(n+1).toNat) (st:=st) (Z:=Z) (λs d=>by
  have:∀ o:Option (W×Sto),o=o.map λr=>(r.1,r.2):=λo=>by cases o<;>rfl
  rw [<-this]
  rfl) (by simp) hh (by lia)
 obtain⟨q,c1,ct,c34,c5⟩:=v8 n0 n1
 have key:∃ us,us.length=2 ^ n.toNat/\(∀ u ∈ us,V01 u)/\lcI (.nm 0) bN dw [none,some (.d (.lst rs)),some (.d (.int n))] (cx 0 (2 ^ n.toNat)) s1=some (us,s1):=by
  obtain⟨us,s2,e2,rfl,hl,hv⟩:=jz (g:=.nm 0) (tt:=bN) (te:=dw) (env:=[none,some (.d (.lst rs)),some (.d (.int n))]) (ds:=cx 0 (2 ^ n.toNat))
   (λi ys s=>s=s1/\ys.length=i/\∀ u ∈ ys,V01 u) (st:=s1) (ys0:=[]) ⟨rfl,rfl,λ_ h=>nomatch h⟩ (λi d ys s hd ⟨p1,p2,p3⟩=>by
    subst p1
    obtain⟨rfl,hi⟩:=cZ hd
    have k1:lcI (.nm 0) eW eV [none,some (.d (.int i))] (cx 0 n.toNat) s=some (((cx 0 n.toNat).filter λd=>match d with | .int k=>onI i k==1 | _=>false).map id,s):=gh _ _ λd hd=>by
     obtain⟨j,hj⟩:=List.mem_iff_getElem?.mp hd
     obtain⟨rfl,hj'⟩:=cZ hj
     exact⟨_,rfl,az (al (al rfl rfl (yL _ (show (0:Int)<=(j:Int) by lia))) rfl (gU _ (by decide))) rfl (jl _ _ _),λ_=>rfl⟩
    have hle:(((cx 0 n.toNat).filter λd=>match d with | .int k=>onI i k==1 | _=>false).map id).length<=n.toNat:=by
     rw [List.length_map]
     refine Nat.le_trans (List.length_filter_le _ _) ?_
     rw [bU];exact Nat.le_refl _
    generalize (((cx 0 n.toNat).filter λd=>match d with | .int k=>onI i k==1 | _=>false).map id)=L at k1 hle
    have hlt:L.length < rs.length:=by lia
    have hat:atI rs (L.length:Int)=some rs[L.length]:=gH (List.getElem?_eq_getElem hlt)
    have hz:(cx 0 n.toNat).length<=1000000:=by rw [bU];lia
    have hb:-(2 ^ 62)<=n/\n < 2 ^ 62:=by lia
    refine⟨_,rfl,.inl ⟨s,rs[L.length],s,rfl,?_,rfl,by rw [List.length_append,p2];rfl,λu hu=>?_⟩⟩
    ·exact al rfl (bg (ah (aF (bW (gW rfl n0 (by lia) rfl) hz k1)) rfl) rfl) hat
    ·rcases List.mem_append.mp hu with z | z
     ·exact p3 u z
     ·rw [List.mem_singleton.mp z];exact rv _ (List.getElem_mem hlt))
  rw [bU] at hl
  exact⟨us,by simpa using hl,by simpa using hv,e2⟩
 obtain⟨us,ul,uv,e2⟩:=key
 refine⟨us,s1,ul,uv,w1,h1.mono (by lia),?_⟩
 have hb1:-(2 ^ 62)<=n+1/\n+1 < 2 ^ 62:=by lia
 have hz1:(cx 0 (n+1).toNat).length<=1000000:=by rw [bU];lia
 have hz2:(cx 0 (2 ^ n.toNat)).length<=1000000:=by rw [bU];lia
 rw [<-ct] at e2 hz2
 have hpos:0 < 2 ^ n.toNat:=Nat.pow_pos (by decide)
 exact ay (n:=3) (k:=2) (b:=b__law_by_counts) rfl (am (aC (i:=2) (aF (bW (gW (al rfl rfl rfl) (by lia) (by lia) rfl) hz1 e1))) (aB (aF (bW (gW (al rfl rfl (c1 _)) (by lia) (by lia) rfl) hz2 e2))))
theorem s0 (n:Nat):(cM n).map ai≠[]:=λe=>by
 have q:=congrArg List.length e
 rw [List.length_map,pG] at q
 exact absurd q (Nat.ne_of_gt (Nat.pow_pos (by decide)))
theorem va {te:Ef}{st:Sto}{h:Nat}{env:Ev}{m:Nat}{n Z:Int} (n0:0<=n) (n1:n<=6) (hte:∀ s d,te (env.set 0 (some (.d d))) s=(m__law_pick [.h h,.d (.lst ((cM n.toNat).map ai))] s).map λr=>(r.1,r.2)) (henv:env.length≠0) (hh:Hd st h Z) (hZ:Z+m<=1000000) :
  ∃ (ts:List (List Int)) (st':Sto),ts.length=m/\(∀ t ∈ ts,Trm 6 t)/\Stw h st st'/\Hd st' h (Z+m)/\lcI (.nm 0) bN te env (cx 0 m) st=some (ts.map ai,st'):=by
 obtain⟨us,s2,e2,t2,hd2,ts,hl,he,hv⟩:=jz (g:=.nm 0) (tt:=bN) (te:=te) (env:=env) (ds:=cx 0 m)
  (λi ys s=>Stw h st s/\Hd s h (Z+i)/\∃ ts:List (List Int),ts.length=i/\ys=ts.map ai/\∀ t ∈ ts,Trm 6 t) (st:=st) (ys0:=[]) ⟨Stw.refl hh.lt,hh.mono (by lia),[],rfl,rfl,λ_ h=>nomatch h⟩ (λi d ys s hd ⟨p1,p2,ts,p3,p5,p4⟩=>by
   obtain⟨rfl,hi⟩:=cZ hd
   obtain⟨d2,s2,m2,w2,h2,e2⟩:=sH (ds:=(cM n.toNat).map ai) p2 (by lia) (s0 _) (by rw [List.length_map];have:=sS n1;lia)
   obtain⟨t,ht,rfl⟩:=List.mem_map.mp m2
   refine⟨env.set 0 (some (.d (.int i))),by cases env with | nil=>exact absurd rfl henv | cons a l=>rfl,.inl ⟨s,ai t,s2,rfl,?_,p1.trans w2,h2.mono (by push_cast;lia),ts++[t],by rw [List.length_append,p3];rfl,by rw [p5,List.map_append];rfl,λu hu=>?_⟩⟩
   ·rw [hte,e2];rfl
   ·rcases List.mem_append.mp hu with z | z
    ·exact p4 u z
    ·rw [List.mem_singleton.mp z];exact (fk ht).mono (by lia))
 rw [bU] at hl hd2
 rw [List.nil_append] at he
 exact⟨ts,s2,hl,hv,t2,hd2,by rw [e2,he]⟩
noncomputable def z6:D->D
 | .int i=>.int (if decide (i > 0)=true then 1 else 0)
 | d=>d
theorem yI (o:Option (W×Sto)):o=o.map λr=>(r.1,r.2):=by cases o<;>rfl
theorem rY {st:Sto}{h:Nat}{n Z:Int} (hh:Hd st h Z) (hZ:Z+7<=1000000) (n0:0<=n) (n1:n<=6):∃ us st',us.length=2 ^ n.toNat/\(∀ u ∈ us,V01 u)/\Stw h st st'/\Hd st' h (Z+7)/\m__law_by_signs [.h h,.d (.int n)] st=some (.d (.lst us),st'):=by
 obtain⟨ts,s1,tl,tv,w1,h1,e1⟩:=va (te:=fP) (h:=h) (env:=[none,some (.h h),some (.d (.int n))]) (m:=3) (st:=st) (Z:=Z) n0 n1 (λs d=>by
  have ea:=ig (st:=s) n0 n1
  rw [<-yI]
  generalize (cM n.toNat).map ai=L at ea
  show aE m__law_pick (ae (iV 1) (ae (aE m__law_all_terms (ae (iV 2) aj)) aj)) [some (.d d),some (.h h),some (.d (.int n))] s=m__law_pick [.h h,.d (.lst L)] s
  have q:=ah (a:=iV 1) (b:=ae (aE m__law_all_terms (ae (iV 2) aj)) aj) (env:=[some (.d d),some (.h h),some (.d (.int n))]) (st:=s) (x:=.h h) rfl (ah (b:=aj) (ar rfl ea) rfl)
  simp only [aE,q,Option.bind_some]) (by simp) hh (by lia)
 obtain⟨q,c1,ct,c34,c5⟩:=v8 n0 n1
 have k1:∃ F:D->D,(∀ d,∃ i,F d=.int i)/\lcI (.nm 0) bN fL [none,some (.d (.lst (ts.map ai)))] (cx 0 q.toNat) s1=some ((cx 0 q.toNat).map F,s1):=by
  refine⟨λd=>match d with | .int r=>.int ((ts.map λt=>aP false t r).sum) | _=>.int 0,λd=>by cases d<;>exact⟨_,rfl⟩,d3 _ λd hd=>?_⟩
  obtain⟨i,hi⟩:=List.mem_iff_getElem?.mp hd
  obtain⟨rfl,hi'⟩:=cZ hi
  have k2:lcI (.nm 0) bN cS [none,some (.d (.int i))] (ts.map ai) s1=some ((ts.map λt=>aP false t i).map D.int,s1):=by
   have:∀ l:List (List Int),(∀ t ∈ l,Trm 6 t)->lcI (.nm 0) bN cS [none,some (.d (.int i))] (l.map ai) s1=some ((l.map λt=>aP false t i).map D.int,s1):=by
    intro l
    induction l with
    | nil=>intro _;rfl
    | cons t l ih=>
     intro hv
     have ht:=qN (hv t List.mem_cons_self) (Nat.le_refl 6)
     have et:=la (st:=s1) (b:=false) (row:=i) ht
     have et':cS [some (.d (ai t)),some (.d (.int i))] s1=some (.d (.int (aP false t i)),s1):=by
      have ek:ax false=("odd" : Str):=rfl
      rw [ek] at et
      generalize ai t=tt at et ⊢
      exact ar rfl et
     rw [List.map_cons,List.map_cons,List.map_cons]
     unfold lcI
     rw [show gg (.nm 0) (.d (ai t)) [none,some (.d (.int (i:Int)))]=some [some (.d (ai t)),some (.d (.int i))] from rfl,Option.bind_some,show bN _ s1=some (true,s1) from rfl,Option.bind_some,if_pos rfl,et',Option.bind_some,ih λu hu=>hv u (List.mem_cons_of_mem _ hu)]
     rfl
   exact this ts tv
  have hs:aQ ((ts.map λt=>aP false t i).map D.int)=some (ts.map λt=>aP false t i):=bp _
  have hz:(ts.map ai).length<=1000000:=by rw [List.length_map];lia
  refine⟨_,rfl,?_⟩
  show _=some (W.d (D.int ((ts.map λt=>aP false t i).sum)),s1)
  generalize ts.map (λt=>aP false t i)=L at k2 hs ⊢
  generalize ts.map ai=T at k2 hz
  exact bg (ah (aF (bW (iw rfl) hz k2)) rfl) (wE _ _)
 obtain⟨F,hF,k1⟩:=k1
 have k3:lcI (.nm 0) bN fF [none] ((cx 0 q.toNat).map F) s1=some (((cx 0 q.toNat).map F).map z6,s1):=d3 _ λd hd=>by
  obtain⟨e,_,rfl⟩:=List.mem_map.mp hd
  obtain⟨i,hi⟩:=hF e
  rw [hi]
  exact⟨_,rfl,bg (ah (al rfl rfl (zj _ rfl)) rfl) rfl⟩
 have hz1:(cx 0 q.toNat).length<=1000000:=by rw [bU];lia
 have hz2:((cx 0 q.toNat).map F).length<=1000000:=by rw [List.length_map];exact hz1
 refine⟨((cx 0 q.toNat).map F).map z6,s1,by rw [List.length_map,List.length_map,bU,ct],?_,w1,h1.mono (by lia),?_⟩
 rotate_left 1
 ·generalize ts.map ai=T at e1 k1
  generalize ((cx 0 q.toNat).map F).map z6=L2 at k3 ⊢
  generalize (cx 0 q.toNat).map F=L1 at k1 k3 hz2
  have hpos:0 < 2 ^ n.toNat:=Nat.pow_pos (by decide)
  exact ay (n:=4) (k:=2) (b:=b__law_by_signs) rfl (am (aC (i:=2) (aF (bW (gW (z:=3) (m:=3) rfl (by decide) (by decide) rfl) (by rw [bU];decide) e1))) (am (aC (i:=3) (aF (bW (gW (al rfl rfl (c1 _)) (by lia) (by lia) rfl) hz1 k1))) (aB (aF (bW (iw rfl) hz2 k3)))))
 ·intro u hu
  obtain⟨d,hd,rfl⟩:=List.mem_map.mp hu
  obtain⟨e,_,rfl⟩:=List.mem_map.mp hd
  obtain⟨i,hi⟩:=hF e
  rw [hi]
  show V01 (.int (if decide (i > 0)=true then 1 else 0))
  split
  ·exact .inr rfl
  ·exact .inl rfl
end Own
end
section
set_option maxHeartbeats 1000000
namespace Own
open PySem L2
theorem pW:∀ {us:List D},(∀ u ∈ us,V01 u)->∃ f:List Int,us=f.map D.int/\∀ v ∈ f,v=0\/v=1
 | [],_=>⟨[],rfl,λ_ h=>nomatch h⟩
 | u::us,h=>by
  obtain⟨f,rfl,hf⟩:=pW λx hx=>h x (List.mem_cons_of_mem _ hx)
  rcases h u List.mem_cons_self with rfl | rfl
  ·exact⟨0::f,rfl,λv hv=>by rcases List.mem_cons.mp hv with rfl | hv;exact .inl rfl;exact hf v hv⟩
  ·exact⟨1::f,rfl,λv hv=>by rcases List.mem_cons.mp hv with rfl | hv;exact .inr rfl;exact hf v hv⟩
theorem wX {st:Sto}{h:Nat}{n Z:Int} (hh:Hd st h Z) (hZ:Z+100<=1000000) (n0:0<=n) (n1:n<=6):∃ (f:List Int) (st':Sto),f.length=2 ^ n.toNat/\(∀ v ∈ f,v=0\/v=1)/\Stw h st st'/\Hd st' h (Z+100)/\m__law_full [.h h,.d (.int n)] st=some (.d (ai f),st'):=by
 obtain⟨q,c1,ct,c34,c5⟩:=v8 n0 n1
 have hz1:(cx 0 q.toNat).length<=1000000:=by rw [bU];lia
 have hr:∀ (env:Ev) (s:Sto),env.getD 1 none=some (.d (.int n))->cC (ae (iOp kE (iC (.int 1)) (iV 1)) aj) env s=some (cx 0 q.toNat,s):=λenv s he=>by
  have h1:iOp kE (iC (.int 1)) (iV 1) env s=some (.d (.int q),s):=by simp only [iOp,iC,iV,he,Option.map_some,Option.bind_some,c1]
  have h2:=ah (b:=aj) h1 rfl
  simp only [cC,h2,Option.bind_some,c34,and_self,if_true]
 have htup:∀ (s:Sto) (ds:List D),kF s [.d (.lst ds)]=some (.tup ds):=λs ds=>rfl
 obtain⟨way,s1,y0,y1,w1,h1,e1⟩:=ix hh (m:=5) (by lia) (by decide) (by decide)
 obtain⟨own,s2,o0,o1,w2,h2,e2⟩:=ix h1 (m:=2) (by lia) (by decide) (by decide)
 have own01:own=0\/own=1:=by lia
 have hset:bI (.tp [2,3]) (bm (ae (aE m__law_take (ae (iV 0) (ae (iC (.int 5)) aj))) (ae (aE m__law_take (ae (iV 0) (ae (iC (.int 2)) aj))) aj))) [some (.h h),some (.d (.int n)),none,none,none,none] st=some (.nx [some (.h h),some (.d (.int n)),some (.d (.int way)),some (.d (.int own)),none,none] s2):=by
  have:=cF (env:=[some (.h h),some (.d (.int n)),none,none,none,none]) (st:=st) (ah (a:=aE m__law_take (ae (iV 0) (ae (iC (.int 5)) aj))) (ar rfl e1) (ah (a:=aE m__law_take (ae (iV 0) (ae (iC (.int 2)) aj))) (b:=aj) (ar rfl e2) rfl)) rfl (by show 2<=1000;decide)
  simp only [bI,this,Option.bind_some,gg,lH,List.length_cons,List.length_nil,if_true,Option.map_some,List.set_cons_zero,List.set_cons_succ]
 have fin:∀ (us:List D) (s3:Sto),us.length=2 ^ n.toNat->(∀ u ∈ us,V01 u)->Stw h s2 s3->Hd s3 h (Z+100)->m__law_full [.h h,.d (.int n)] st=some (.d (.tup us),s3)->
   ∃ (f:List Int) (st':Sto),f.length=2 ^ n.toNat/\(∀ v ∈ f,v=0\/v=1)/\Stw h st st'/\Hd st' h (Z+100)/\m__law_full [.h h,.d (.int n)] st=some (.d (ai f),st'):=by
  intro us s3 ul uv w3 h3 e3
  obtain⟨f,rfl,hf⟩:=pW uv
  exact⟨f,s3,by rw [List.length_map] at ul;exact ul,hf,(w1.trans w2).trans w3,h3,e3⟩
 have ne:∀ (s:Sto) (k:Int),way≠k->dEq s (.d (.int way)) (.d (.int k))=some (.bl false):=λs k hk=>by rw [jE,show (way==k)=false by simp [hk]]
 have ye:∀ (s:Sto) (k:Int),way=k->dEq s (.d (.int way)) (.d (.int k))=some (.bl true):=λs k hk=>by rw [jE,hk,beq_self_eq_true]
 by_cases b0:way=0
 ·obtain⟨us,s3,ul,uv,w3,h3,e3⟩:=qI h2 (by lia) n0 n1
  exact fin us s3 ul uv w3 (h3.mono (by lia)) (ay (n:=6) (k:=2) (b:=b__law_full) rfl (am hset (dZ (ii (az rfl rfl (ye _ 0 b0)) (aB (bg (ah (ar rfl e3) rfl) (htup _ _)))))))
 by_cases b1:way=1
 ·obtain⟨us,s3,ul,uv,w3,h3,e3⟩:=rY h2 (by lia) n0 n1
  exact fin us s3 ul uv w3 (h3.mono (by lia)) (ay (n:=6) (k:=2) (b:=b__law_full) rfl (am hset (am (cA (az rfl rfl (ne _ 0 b0)) rfl) (dZ (ii (az rfl rfl (ye _ 1 b1)) (aB (bg (ah (ar rfl e3) rfl) (htup _ _))))))))
 by_cases b2:way=2
 ·have ha:=ig (st:=s2) n0 n1
  obtain⟨d,s3,m3,w3,h3,e3⟩:=sH (ds:=(cM n.toNat).map ai) h2 (by lia) (s0 _) (by rw [List.length_map];have:=sS n1;lia)
  obtain⟨t,ht,rfl⟩:=List.mem_map.mp m3
  have htr:=(fk ht).mono (by lia:n.toNat<=6)
  have key:lcI (.nm 0) bN iJ [none,some (.d (ai t)),some (.d (.int own))] (cx 0 q.toNat) s3=some ((cx 0 q.toNat).map λd=>match d with | .int i=>.int (if (aP false t i==1 - 2*own)=true then 1 else 0) | d=>d,s3):=d3 _ λd hd=>by
   obtain⟨i,hi⟩:=List.mem_iff_getElem?.mp hd
   obtain⟨rfl,hi'⟩:=cZ hi
   refine⟨_,rfl,?_⟩
   have tv:=la (st:=s3) (b:=false) (row:=(i:Int)) (qN htr (Nat.le_refl 6))
   have hm:dO s3 (.d (.int 2)) (.d (.int own))=some (.int (2*own)):=by
    show (if PySem.IntMulOk 2 own then some (D.int (2*own)) else none)=_
    rw [if_pos (eK (by decide))]
   exact bg (d:=.int (if (aP false t i==1 - 2*own)=true then 1 else 0)) (ah (al (ar rfl tv) (al rfl (al rfl rfl hm) rfl) (jE _ _ _)) rfl) rfl
  refine fin _ s3 (by rw [List.length_map,bU,ct]) (λu hu=>?_) w3 (h3.mono (by lia)) (ay (n:=6) (k:=2) (b:=b__law_full) rfl (am hset (am (cA (az rfl rfl (ne _ 0 b0)) rfl) (am (cA (az rfl rfl (ne _ 1 b1)) rfl) (dZ (ii (az rfl rfl (ye _ 2 b2)) (am (aC (i:=4) (ar (ah rfl (ah (ar rfl ha) rfl)) e3)) (aB (bg (ah (aF (bW (hr _ _ rfl) hz1 key)) rfl) (htup _ _))))))))))
  obtain⟨d,hd,rfl⟩:=List.mem_map.mp hu
  obtain⟨i,hi⟩:=List.mem_iff_getElem?.mp hd
  obtain⟨rfl,_⟩:=cZ hi
  show V01 (.int (if _ then 1 else 0))
  split
  ·exact .inr rfl
  ·exact .inl rfl
 by_cases b3:way=3
 ·have hq0:0 < q/\q < 1073741824:=by
   have:0 < 2 ^ n.toNat:=Nat.pow_pos (by decide)
   lia
  obtain⟨sp,s3,p0,p1,w3,h3,e3⟩:=ix h2 (m:=q) (by lia) hq0.1 hq0.2
  have key:lcI (.nm 0) bN iS [none,some (.d (.int own)),some (.d (.int sp))] (cx 0 q.toNat) s3=some ((cx 0 q.toNat).map λd=>match d with | .int i=>.int (if (i==sp)=true then own else 1 - own) | d=>d,s3):=d3 _ λd hd=>by
   obtain⟨i,hi⟩:=List.mem_iff_getElem?.mp hd
   obtain⟨rfl,hi'⟩:=cZ hi
   refine⟨_,rfl,?_⟩
   have hix:dIx s3 (.d (.lst [.int (1 - own),.int own])) (.d (.int (if ((i:Int)==sp)=true then 1 else 0)))=some (.int (if ((i:Int)==sp)=true then own else 1 - own)):=by
    cases ((i:Int)==sp) with
    | true=>simp only [if_true,dIx,gz,Option.bind_some,qi]
    | false=>simp only [Bool.false_eq_true,if_false,dIx,gz,Option.bind_some,qR]
   exact al (aF (fC (ds:=[.int (1 - own),.int own]) (s:=s3) rfl rfl (by show 2<=1000;decide))) (bg (d:=.int (if ((i:Int)==sp)=true then 1 else 0)) (ah (al rfl rfl (jE _ _ _)) rfl) rfl) hix
  refine fin _ s3 (by rw [List.length_map,bU,ct]) (λu hu=>?_) w3 (h3.mono (by lia)) (ay (n:=6) (k:=2) (b:=b__law_full) rfl (am hset (am (cA (az rfl rfl (ne _ 0 b0)) rfl) (am (cA (az rfl rfl (ne _ 1 b1)) rfl) (am (cA (az rfl rfl (ne _ 2 b2)) rfl) (dZ (ii (az rfl rfl (ye _ 3 b3)) (am (aC (i:=5) (ar (ah rfl (ah (al rfl rfl (c1 _)) rfl)) e3)) (aB (bg (ah (aF (bW (hr _ _ rfl) hz1 key)) rfl) (htup _ _)))))))))))
  obtain⟨d,hd,rfl⟩:=List.mem_map.mp hu
  obtain⟨i,hi⟩:=List.mem_iff_getElem?.mp hd
  obtain⟨rfl,_⟩:=cZ hi
  show V01 (.int (if _ then own else 1 - own))
  rcases own01 with rfl | rfl<;>split<;>first | exact .inl rfl | exact .inr rfl
 ·obtain⟨us,s3,ul,uv,w3,h3,e3⟩:=wj (te:=iP) (n:=h) (env:=[none,some (.h h)]) (m:=q.toNat) (st:=s2) (Z:=Z+1+1) (λs d=>by
   rw [<-yI];rfl) (by simp) h2 (by lia)
  exact fin us s3 (by rw [ul,ct]) uv w3 (h3.mono (by lia)) (ay (n:=6) (k:=2) (b:=b__law_full) rfl (am hset (am (cA (az rfl rfl (ne _ 0 b0)) rfl) (am (cA (az rfl rfl (ne _ 1 b1)) rfl) (am (cA (az rfl rfl (ne _ 2 b2)) rfl) (am (cA (az rfl rfl (ne _ 3 b3)) rfl) (aB (bg (ah (aF (bW (hr _ _ rfl) hz1 e3)) rfl) (htup _ _)))))))))
end Own
end
section
set_option maxHeartbeats 1000000
namespace Own
open PySem L2
theorem iB:∀ {ks js:List (List Int)},ks.Pairwise ltL->js.Pairwise ltL->(∀ t,t ∈ ks↔t ∈ js)->ks=js
 | [],[],_,_,_=>rfl
 | [],j::js,_,_,h=>by cases (h j).mpr List.mem_cons_self
 | k::ks,[],_,_,h=>by cases (h k).mp List.mem_cons_self
 | k::ks,j::js,hk,hj,h=>by
  rw [List.pairwise_cons] at hk hj
  have e:k=j:=by
   rcases List.mem_cons.mp ((h k).mp List.mem_cons_self) with e | e
   ·exact e
   ·rcases List.mem_cons.mp ((h j).mpr List.mem_cons_self) with e2 | e2
    ·exact e2.symm
    ·exact absurd (kS _ _ _ (hk.1 _ e2) (hj.1 _ e)) (gy k)
  subst e
  congr 1
  refine iB hk.2 hj.2 λt=>⟨λht=>?_,λht=>?_⟩
  ·rcases List.mem_cons.mp ((h t).mp (List.mem_cons_of_mem _ ht)) with e | e
   ·subst e;exact absurd (hk.1 _ ht) (gy t)
   ·exact e
  ·rcases List.mem_cons.mp ((h t).mpr (List.mem_cons_of_mem _ ht)) with e | e
   ·subst e;exact absurd (hj.1 _ ht) (gy t)
   ·exact e
theorem AA {st:Sto}:m_exact_of [.d (ai [0]),.d (.str (ax false))] st=some (.d (bb (ax false) [([],-1)]),st):=by
 obtain⟨ks,k1,k2,k3,k4⟩:=lR (st:=st) (f:=[0]) (n:=0) rfl (by decide) (by simp)
 have e0:ks=cM 0:=iB k1 (gp (dS 0)) λt=>by rw [k3,eS]
 have e:aZ (cM 0) (exL [0] 0)=[([],-1)]:=by decide +kernel
 rw [e0,e] at k4
 generalize bb (ax false) [([],-1)]=P at *
 exact ay (n:=3) (k:=2) (b:=b_exact_of) rfl (am (aC (i:=2) (ar rfl k4)) (dZ (ii (az (x:=.d (.str (ax false))) rfl rfl (by rw [i5];rfl)) (aB rfl))))
theorem xF {st:Sto}:m_exact_of [.d (ai [0,1]),.d (.str (ax true))] st=some (.d (bb (ax true) [([],-1),([0],2)]),st):=by
 obtain⟨ks,k1,k2,k3,k4⟩:=lR (st:=st) (f:=[0,1]) (n:=1) rfl (by decide) (by simp)
 have e0:ks=cM 1:=iB k1 (gp (dS 1)) λt=>by rw [k3,eS]
 have e:aZ (cM 1) (exL [0,1] 1)=[([0],-2)]:=by decide +kernel
 rw [e0,e] at k4
 obtain⟨js,j1,j2,j3,j4⟩:=qX (st:=st) (b:=false) (ps:=[([0],-2)]) (λp hp=>by
  rw [List.mem_singleton.mp hp]
  exact⟨by simp,by simp⟩) (by decide)
 have e2:(bV false (gC [([0],-2)]) [([0],-2)])=[([],-2),([0],4)]:=by decide +kernel
 rw [e2] at j3 j4
 have e3:js=cM 1:=iB j1 (gp (dS 1)) λt=>by
  rw [j3,show cM 1=[[],[0]] by decide +kernel];rfl
 have e4:aZ (cM 1) [([],-2),([0],4)]=[([],-2),([0],4)]:=by decide +kernel
 rw [e3,e4] at j4
 have hpt:=nr (st:=st) (kd:=ax true) (ps:=[([],-2),([0],4)]) (q:=2) (by decide) (by decide)
 have e5:([([],-2),([0],4)]:List Prt).map (λp:Prt=>((p.1,p.2 / 2):Prt))=[([],-1),([0],2)]:=by decide +kernel
 rw [e5] at hpt
 have hlen:eD st [.d (ai [0,1])]=some (.int 2):=rfl
 generalize bb (ax true) [([],-1),([0],2)]=P2 at *
 generalize ([([],-2),([0],4)]:List Prt)=RR at *
 generalize ([([0],-2)]:List Prt)=PP at *
 exact ay (n:=3) (k:=2) (b:=b_exact_of) rfl (am (aC (i:=2) (ar rfl k4)) (am (cA (az (x:=.d (.str (ax true))) rfl rfl (by rw [i5];rfl)) rfl) (aB (ar (ah (ar rfl j4) (ah (bg (ah rfl rfl) hlen) rfl)) hpt))))
theorem yi {st:Sto}{ns:List Int}{k:Nat}{a2 a3 a4 a5:Option W}:∃ b2 b3 b4 b5 st',pp [some (.d (.scr ns)),some (.d (.int k)),a2,a3,a4,a5] st=some (.nx [some (.d (.scr ns)),some (.d (.int k)),b2,b3,b4,b5] st'):=by
 obtain⟨s1,h1,l1,_,e1⟩:=xL (st:=st) (ns:=ns) (k:=k)
 generalize st.length=h at *
 obtain⟨n,s2,n0,n1,w2,h2,e2⟩:=ix h1 (m:=7) (by decide) (by decide) (by decide)
 obtain⟨f,s3,fl,fv,w3,h3,e3⟩:=wX h2 (by decide) n0 (by lia)
 obtain⟨m,rfl⟩:=Int.eq_ofNat_of_zero_le n0
 rw [Int.toNat_natCast] at fl
 have hm:m<=6:=by lia
 obtain⟨e',s',hF,o5,rfl,rfl⟩:=cf (g:=.nm 5) (body:=sX) (ds:=[.str "both",.str "odd",.str "both"]) (λi env s=>∃ o5,env=[some (.d (.scr ns)),some (.d (.int k)),some (.h h),some (.d (.int m)),some (.d (ai f)),o5]/\s=s3)
  (env:=[some (.d (.scr ns)),some (.d (.int k)),some (.h h),some (.d (.int m)),some (.d (ai f)),a5]) (st:=s3) ⟨a5,rfl,rfl⟩ (by
  rintro i d env s hd ⟨o5,rfl,rfl⟩
  obtain⟨b,rfl⟩:∃ b,d=.str (ax b):=by
   have:=List.mem_of_getElem? hd
   simp only [List.mem_cons,List.not_mem_nil,or_false] at this
   rcases this with rfl | rfl | rfl
   ·exact⟨true,rfl⟩
   ·exact⟨false,rfl⟩
   ·exact⟨true,rfl⟩
  have g:=wL (st:=s) (b:=b) fl hm fv
  exact⟨_,_,_,rfl,.inl (cA (ic (mM (ar rfl g))) rfl),_,rfl,rfl⟩)
 have hn:=tZ (st:=s') fl hm fv
 refine⟨some (.h h),some (.d (.int m)),some (.d (ai f)),o5,s',?_⟩
 generalize ai f=TF at *
 exact am (aC (i:=2) (ar rfl e1)) (am (aC (i:=3) (ar rfl e2)) (am (aC (i:=4) (ar rfl e3)) (am (dq (d7 (cF (ds:=[.str "both",.str "odd",.str "both"]) (s:=s') rfl rfl (by decide))) hF) (cA (ic (mM (ar rfl hn))) rfl))))
theorem wN (ns:List Int) (hl:ns.length<=63):∃ st,m_law [.d (.scr ns)] []=some (.d (.bl true),st):=by
 obtain⟨q,hq,q0,q1⟩:∃ q:Int,(if (if (ns.length:Int) < 3 then (ns.length:Int) else 3) > 2 then (if (ns.length:Int) < 3 then (ns.length:Int) else 3) else 2)=q/\0<=q/\q<=3:=⟨_,rfl,by split<;>split<;>lia,by split<;>split<;>lia⟩
 obtain⟨e',s',hF,x1,x2,x3,x4,x5,rfl⟩:=cf (g:=.nm 1) (body:=pp) (ds:=cx 0 q.toNat) (λi env s=>∃ x1 x2 x3 x4 x5,env=[some (.d (.scr ns)),x1,x2,x3,x4,x5])
  (env:=[some (.d (.scr ns)),none,none,none,none,none]) (st:=[]) ⟨_,_,_,_,_,rfl⟩ (by
  rintro i d env s hd ⟨x1,x2,x3,x4,x5,rfl⟩
  obtain⟨rfl,hi⟩:=cZ hd
  obtain⟨b2,b3,b4,b5,s',e⟩:=yi (st:=s) (ns:=ns) (k:=i) (a2:=x2) (a3:=x3) (a4:=x4) (a5:=x5)
  exact⟨_,_,_,rfl,.inl e,_,_,_,_,_,rfl⟩)
 have hb:-(2 ^ 62)<=q/\q < 2 ^ 62:=⟨Int.le_trans (by decide) q0,Int.lt_of_le_of_lt q1 (by decide)⟩
 have h1:iCB dMx (ae (iC (.int 2)) (ae (iCB vF (ae (iC (.int 3)) (ae (iCB eD (ae (iV 0) aj)) aj))) aj)) [some (.d (.scr ns)),none,none,none,none,none] []=some (.d (.int q),[]):=by
  refine bg (ah rfl (ah (x:=.d (.int (if (ns.length:Int) < 3 then (ns.length:Int) else 3))) (bg rfl ?_) rfl)) ?_
  ·show some (D.int (if (((ns.map D.int).length:Nat):Int) < 3 then (((ns.map D.int).length:Nat):Int) else 3))=_
   rw [List.length_map]
  ·show some (D.int _)=_
   rw [hq]
 have hrg:cC (ae (iCB dMx (ae (iC (.int 2)) (ae (iCB vF (ae (iC (.int 3)) (ae (iCB eD (ae (iV 0) aj)) aj))) aj))) aj) [some (.d (.scr ns)),none,none,none,none,none] []=some (cx 0 q.toNat,[]):=by
  have:=ah (b:=aj) h1 rfl
  simp only [cC,this,Option.bind_some,hb,and_self,if_true]
 have x1':=AA (st:=s')
 have x2':=xF (st:=s')
 have q1:dNe s' (.d (bb (ax false) [([],-1)])) (.d (.tup [.str "odd",.tup [.tup [.tup [],.int (-1)]]]))=some (.bl false):=by rfl
 have q2:dEq s' (.d (bb (ax true) [([],-1),([0],2)])) (.d (.tup [.str "both",.tup [.tup [.tup [],.int (-1)],.tup [.tup [.int 0],.int 2]]]))=some (.bl true):=by rfl
 have t1:∀ env:Ev,bm (ae (iC (.str "odd")) (ae (bm (ae (bm (ae (bm aj) (ae (iUn mk (iC (.int 1))) aj))) aj)) aj)) env s'=some (.d (.tup [.str "odd",.tup [.tup [.tup [],.int (-1)]]]),s'):=λenv=>rfl
 have t2:∀ env:Ev,bm (ae (iC (.str "both")) (ae (bm (ae (bm (ae (bm aj) (ae (iUn mk (iC (.int 1))) aj))) (ae (bm (ae (bm (ae (iC (.int 0)) aj)) (ae (iC (.int 2)) aj))) aj))) aj)) env s'=some (.d (.tup [.str "both",.tup [.tup [.tup [],.int (-1)],.tup [.tup [.int 0],.int 2]]]),s'):=λenv=>rfl
 have u1:∀ env:Ev,bm (ae (iC (.int 0)) aj) env s'=some (.d (ai [0]),s'):=λenv=>rfl
 have u2:∀ env:Ev,bm (ae (iC (.int 0)) (ae (iC (.int 1)) aj)) env s'=some (.d (ai [0,1]),s'):=λenv=>rfl
 generalize bb (ax false) [([],-1)]=P1 at *
 generalize bb (ax true) [([],-1),([0],2)]=P2 at *
 exact⟨_,ge (n:=6) (k:=1) (b:=nB) (ws:=[.d (.scr ns)]) (st:=[]) (x:=.bl true) rfl (am (dq hrg hF) (am (cA (az (ar (ah (u1 _) (ah rfl rfl)) x1') (t1 _) q1) rfl) (aB (al (ar (ah (u2 _) (ah rfl rfl)) x2') (t2 _) q2))))⟩
end Own
end
namespace Own
open PySem L2
theorem jv {us:List Value} (h:us.length=1):∃ a0,us=[a0]:=List.length_eq_one_iff.mp h
theorem AD {us:List Value}{n:Nat} (h:us.length=n+1):∃ a t,us=a::t/\t.length=n:=by
 cases us with
 | nil=>cases h
 | cons a t=>exact⟨a,t,rfl,Nat.succ.inj h⟩
theorem iD {us:List Value} (h:us.length=2):∃ a0 a1,us=[a0,a1]:=by
 obtain⟨a,t,rfl,k⟩:=AD h
 obtain⟨b,rfl⟩:=jv k
 exact⟨a,b,rfl⟩
theorem uf {us:List Value} (h:us.length=3):∃ a0 a1 a2,us=[a0,a1,a2]:=by
 obtain⟨a,t,rfl,k⟩:=AD h
 obtain⟨b,c,rfl⟩:=iD k
 exact⟨a,b,c,rfl⟩
theorem BP {us:List Value} (h:us.length=4):∃ a0 a1 a2 a3,us=[a0,a1,a2,a3]:=by
 obtain⟨a,t,rfl,k⟩:=AD h
 obtain⟨b,c,d,rfl⟩:=uf k
 exact⟨a,b,c,d,rfl⟩
theorem txt_mk {K:PySem.W.Frag}{h:Heap}{mg:Str->Option Value} (X:K.In h) (G:h.Ns mainGlobals mg)
  {f0:Addr}{od0 an0:Option Addr}{sl0:Array (Option Value)}{oc0 kV0 dc0 pm0 cd0 ct0:Value}
  (a0:PySem.W.nsIn K mainGlobals "power_of_two" = some (some (.ref f0))) (l0:K.lookup f0=some ⟨oc0,od0,.func (PySem.W.fnOf "power_of_two" "power_of_two" (aK bH) (ap bH) (ab bH) .none kV0 dc0 pm0 an0 cd0 ct0),sl0⟩) (c0:PySem.W.codeIn K cd0 "power_of_two" = true) (k0:PySem.W.keepIn K (.ref f0)=true)
  {f1:Addr}{od1 an1:Option Addr}{sl1:Array (Option Value)}{oc1 kV1 dc1 pm1 cd1 ct1:Value}
  (a1:PySem.W.nsIn K mainGlobals "on_in" = some (some (.ref f1))) (l1:K.lookup f1=some ⟨oc1,od1,.func (PySem.W.fnOf "on_in" "on_in" (aK eF) (ap eF) (ab eF) .none kV1 dc1 pm1 an1 cd1 ct1),sl1⟩) (c1:PySem.W.codeIn K cd1 "on_in" = true) (k1:PySem.W.keepIn K (.ref f1)=true)
  {f2:Addr}{od2 an2:Option Addr}{sl2:Array (Option Value)}{oc2 kV2 dc2 pm2 cd2 ct2:Value}
  (a2:PySem.W.nsIn K mainGlobals "switches_of" = some (some (.ref f2))) (l2:K.lookup f2=some ⟨oc2,od2,.func (PySem.W.fnOf "switches_of" "switches_of" (aK bR) (ap bR) (ab bR) .none kV2 dc2 pm2 an2 cd2 ct2),sl2⟩) (c2:PySem.W.codeIn K cd2 "switches_of" = true) (k2:PySem.W.keepIn K (.ref f2)=true)
  {f3:Addr}{od3 an3:Option Addr}{sl3:Array (Option Value)}{oc3 kV3 dc3 pm3 cd3 ct3:Value}
  (a3:PySem.W.nsIn K mainGlobals "told_rows" = some (some (.ref f3))) (l3:K.lookup f3=some ⟨oc3,od3,.func (PySem.W.fnOf "told_rows" "told_rows" (aK cc) (ap cc) (ab cc) .none kV3 dc3 pm3 an3 cd3 ct3),sl3⟩) (c3:PySem.W.codeIn K cd3 "told_rows" = true) (k3:PySem.W.keepIn K (.ref f3)=true)
  {f4:Addr}{od4 an4:Option Addr}{sl4:Array (Option Value)}{oc4 kV4 dc4 pm4 cd4 ct4:Value}
  (a4:PySem.W.nsIn K mainGlobals "sign_at" = some (some (.ref f4))) (l4:K.lookup f4=some ⟨oc4,od4,.func (PySem.W.fnOf "sign_at" "sign_at" (aK de) (ap de) (ab de) .none kV4 dc4 pm4 an4 cd4 ct4),sl4⟩) (c4:PySem.W.codeIn K cd4 "sign_at" = true) (k4:PySem.W.keepIn K (.ref f4)=true)
  {f5:Addr}{od5 an5:Option Addr}{sl5:Array (Option Value)}{oc5 kV5 dc5 pm5 cd5 ct5:Value}
  (a5:PySem.W.nsIn K mainGlobals "terms_to" = some (some (.ref f5))) (l5:K.lookup f5=some ⟨oc5,od5,.func (PySem.W.fnOf "terms_to" "terms_to" (aK cw) (ap cw) (ab cw) .none kV5 dc5 pm5 an5 cd5 ct5),sl5⟩) (c5:PySem.W.codeIn K cd5 "terms_to" = true) (k5:PySem.W.keepIn K (.ref f5)=true)
  {f6:Addr}{od6 an6:Option Addr}{sl6:Array (Option Value)}{oc6 kV6 dc6 pm6 cd6 ct6:Value}
  (a6:PySem.W.nsIn K mainGlobals "value_of" = some (some (.ref f6))) (l6:K.lookup f6=some ⟨oc6,od6,.func (PySem.W.fnOf "value_of" "value_of" (aK cv) (ap cv) (ab cv) .none kV6 dc6 pm6 an6 cd6 ct6),sl6⟩) (c6:PySem.W.codeIn K cd6 "value_of" = true) (k6:PySem.W.keepIn K (.ref f6)=true)
  {f7:Addr}{od7 an7:Option Addr}{sl7:Array (Option Value)}{oc7 kV7 dc7 pm7 cd7 ct7:Value}
  (a7:PySem.W.nsIn K mainGlobals "poly_from" = some (some (.ref f7))) (l7:K.lookup f7=some ⟨oc7,od7,.func (PySem.W.fnOf "poly_from" "poly_from" (aK cb) (ap cb) (ab cb) .none kV7 dc7 pm7 an7 cd7 ct7),sl7⟩) (c7:PySem.W.codeIn K cd7 "poly_from" = true) (k7:PySem.W.keepIn K (.ref f7)=true)
  {f8:Addr}{od8 an8:Option Addr}{sl8:Array (Option Value)}{oc8 kV8 dc8 pm8 cd8 ct8:Value}
  (a8:PySem.W.nsIn K mainGlobals "degree_of" = some (some (.ref f8))) (l8:K.lookup f8=some ⟨oc8,od8,.func (PySem.W.fnOf "degree_of" "degree_of" (aK ca) (ap ca) (ab ca) .none kV8 dc8 pm8 an8 cd8 ct8),sl8⟩) (c8:PySem.W.codeIn K cd8 "degree_of" = true) (k8:PySem.W.keepIn K (.ref f8)=true)
  {f9:Addr}{od9 an9:Option Addr}{sl9:Array (Option Value)}{oc9 kV9 dc9 pm9 cd9 ct9:Value}
  (a9:PySem.W.nsIn K mainGlobals "gathered" = some (some (.ref f9))) (l9:K.lookup f9=some ⟨oc9,od9,.func (PySem.W.fnOf "gathered" "gathered" (aK cG) (ap cG) (ab cG) .none kV9 dc9 pm9 an9 cd9 ct9),sl9⟩) (c9:PySem.W.codeIn K cd9 "gathered" = true) (k9:PySem.W.keepIn K (.ref f9)=true)
  {f10:Addr}{od10 an10:Option Addr}{sl10:Array (Option Value)}{oc10 kV10 dc10 pm10 cd10 ct10:Value}
  (a10:PySem.W.nsIn K mainGlobals "parted" = some (some (.ref f10))) (l10:K.lookup f10=some ⟨oc10,od10,.func (PySem.W.fnOf "parted" "parted" (aK dl) (ap dl) (ab dl) .none kV10 dc10 pm10 an10 cd10 ct10),sl10⟩) (c10:PySem.W.codeIn K cd10 "parted" = true) (k10:PySem.W.keepIn K (.ref f10)=true)
  {f11:Addr}{od11 an11:Option Addr}{sl11:Array (Option Value)}{oc11 kV11 dc11 pm11 cd11 ct11:Value}
  (a11:PySem.W.nsIn K mainGlobals "spread" = some (some (.ref f11))) (l11:K.lookup f11=some ⟨oc11,od11,.func (PySem.W.fnOf "spread" "spread" (aK dn) (ap dn) (ab dn) .none kV11 dc11 pm11 an11 cd11 ct11),sl11⟩) (c11:PySem.W.codeIn K cd11 "spread" = true) (k11:PySem.W.keepIn K (.ref f11)=true)
  {f12:Addr}{od12 an12:Option Addr}{sl12:Array (Option Value)}{oc12 kV12 dc12 pm12 cd12 ct12:Value}
  (a12:PySem.W.nsIn K mainGlobals "odd_from_both" = some (some (.ref f12))) (l12:K.lookup f12=some ⟨oc12,od12,.func (PySem.W.fnOf "odd_from_both" "odd_from_both" (aK bz) (ap bz) (ab bz) .none kV12 dc12 pm12 an12 cd12 ct12),sl12⟩) (c12:PySem.W.codeIn K cd12 "odd_from_both" = true) (k12:PySem.W.keepIn K (.ref f12)=true)
  {f13:Addr}{od13 an13:Option Addr}{sl13:Array (Option Value)}{oc13 kV13 dc13 pm13 cd13 ct13:Value}
  (a13:PySem.W.nsIn K mainGlobals "both_from_odd" = some (some (.ref f13))) (l13:K.lookup f13=some ⟨oc13,od13,.func (PySem.W.fnOf "both_from_odd" "both_from_odd" (aK bw) (ap bw) (ab bw) .none kV13 dc13 pm13 an13 cd13 ct13),sl13⟩) (c13:PySem.W.codeIn K cd13 "both_from_odd" = true) (k13:PySem.W.keepIn K (.ref f13)=true)
  {f14:Addr}{od14 an14:Option Addr}{sl14:Array (Option Value)}{oc14 kV14 dc14 pm14 cd14 ct14:Value}
  (a14:PySem.W.nsIn K mainGlobals "other_kind" = some (some (.ref f14))) (l14:K.lookup f14=some ⟨oc14,od14,.func (PySem.W.fnOf "other_kind" "other_kind" (aK b6) (ap b6) (ab b6) .none kV14 dc14 pm14 an14 cd14 ct14),sl14⟩) (c14:PySem.W.codeIn K cd14 "other_kind" = true) (k14:PySem.W.keepIn K (.ref f14)=true)
  {f15:Addr}{od15 an15:Option Addr}{sl15:Array (Option Value)}{oc15 kV15 dc15 pm15 cd15 ct15:Value}
  (a15:PySem.W.nsIn K mainGlobals "signed_value" = some (some (.ref f15))) (l15:K.lookup f15=some ⟨oc15,od15,.func (PySem.W.fnOf "signed_value" "signed_value" (aK bG) (ap bG) (ab bG) .none kV15 dc15 pm15 an15 cd15 ct15),sl15⟩) (c15:PySem.W.codeIn K cd15 "signed_value" = true) (k15:PySem.W.keepIn K (.ref f15)=true)
  {f16:Addr}{od16 an16:Option Addr}{sl16:Array (Option Value)}{oc16 kV16 dc16 pm16 cd16 ct16:Value}
  (a16:PySem.W.nsIn K mainGlobals "sum_by" = some (some (.ref f16))) (l16:K.lookup f16=some ⟨oc16,od16,.func (PySem.W.fnOf "sum_by" "sum_by" (aK dj) (ap dj) (ab dj) .none kV16 dc16 pm16 an16 cd16 ct16),sl16⟩) (c16:PySem.W.codeIn K cd16 "sum_by" = true) (k16:PySem.W.keepIn K (.ref f16)=true)
  {f17:Addr}{od17 an17:Option Addr}{sl17:Array (Option Value)}{oc17 kV17 dc17 pm17 cd17 ct17:Value}
  (a17:PySem.W.nsIn K mainGlobals "exact_by_odd" = some (some (.ref f17))) (l17:K.lookup f17=some ⟨oc17,od17,.func (PySem.W.fnOf "exact_by_odd" "exact_by_odd" (aK bD) (ap bD) (ab bD) .none kV17 dc17 pm17 an17 cd17 ct17),sl17⟩) (c17:PySem.W.codeIn K cd17 "exact_by_odd" = true) (k17:PySem.W.keepIn K (.ref f17)=true)
  {f18:Addr}{od18 an18:Option Addr}{sl18:Array (Option Value)}{oc18 kV18 dc18 pm18 cd18 ct18:Value}
  (a18:PySem.W.nsIn K mainGlobals "exact_of" = some (some (.ref f18))) (l18:K.lookup f18=some ⟨oc18,od18,.func (PySem.W.fnOf "exact_of" "exact_of" (aK cI) (ap cI) (ab cI) .none kV18 dc18 pm18 an18 cd18 ct18),sl18⟩) (c18:PySem.W.codeIn K cd18 "exact_of" = true) (k18:PySem.W.keepIn K (.ref f18)=true)
  {f19:Addr}{od19 an19:Option Addr}{sl19:Array (Option Value)}{oc19 kV19 dc19 pm19 cd19 ct19:Value}
  (a19:PySem.W.nsIn K mainGlobals "_law_hand" = some (some (.ref f19))) (l19:K.lookup f19=some ⟨oc19,od19,.func (PySem.W.fnOf "_law_hand" "_law_hand" (aK cp) (ap cp) (ab cp) .none kV19 dc19 pm19 an19 cd19 ct19),sl19⟩) (c19:PySem.W.codeIn K cd19 "_law_hand" = true) (k19:PySem.W.keepIn K (.ref f19)=true)
  {f20:Addr}{od20 an20:Option Addr}{sl20:Array (Option Value)}{oc20 kV20 dc20 pm20 cd20 ct20:Value}
  (a20:PySem.W.nsIn K mainGlobals "_law_take" = some (some (.ref f20))) (l20:K.lookup f20=some ⟨oc20,od20,.func (PySem.W.fnOf "_law_take" "_law_take" (aK cn) (ap cn) (ab cn) .none kV20 dc20 pm20 an20 cd20 ct20),sl20⟩) (c20:PySem.W.codeIn K cd20 "_law_take" = true) (k20:PySem.W.keepIn K (.ref f20)=true)
  {f21:Addr}{od21 an21:Option Addr}{sl21:Array (Option Value)}{oc21 kV21 dc21 pm21 cd21 ct21:Value}
  (a21:PySem.W.nsIn K mainGlobals "_law_pick" = some (some (.ref f21))) (l21:K.lookup f21=some ⟨oc21,od21,.func (PySem.W.fnOf "_law_pick" "_law_pick" (aK cr) (ap cr) (ab cr) .none kV21 dc21 pm21 an21 cd21 ct21),sl21⟩) (c21:PySem.W.codeIn K cd21 "_law_pick" = true) (k21:PySem.W.keepIn K (.ref f21)=true)
  {f22:Addr}{od22 an22:Option Addr}{sl22:Array (Option Value)}{oc22 kV22 dc22 pm22 cd22 ct22:Value}
  (a22:PySem.W.nsIn K mainGlobals "_law_term_value" = some (some (.ref f22))) (l22:K.lookup f22=some ⟨oc22,od22,.func (PySem.W.fnOf "_law_term_value" "_law_term_value" (aK bh) (ap bh) (ab bh) .none kV22 dc22 pm22 an22 cd22 ct22),sl22⟩) (c22:PySem.W.codeIn K cd22 "_law_term_value" = true) (k22:PySem.W.keepIn K (.ref f22)=true)
  {f23:Addr}{od23 an23:Option Addr}{sl23:Array (Option Value)}{oc23 kV23 dc23 pm23 cd23 ct23:Value}
  (a23:PySem.W.nsIn K mainGlobals "_law_value" = some (some (.ref f23))) (l23:K.lookup f23=some ⟨oc23,od23,.func (PySem.W.fnOf "_law_value" "_law_value" (aK bT) (ap bT) (ab bT) .none kV23 dc23 pm23 an23 cd23 ct23),sl23⟩) (c23:PySem.W.codeIn K cd23 "_law_value" = true) (k23:PySem.W.keepIn K (.ref f23)=true)
  {f24:Addr}{od24 an24:Option Addr}{sl24:Array (Option Value)}{oc24 kV24 dc24 pm24 cd24 ct24:Value}
  (a24:PySem.W.nsIn K mainGlobals "_law_all_terms" = some (some (.ref f24))) (l24:K.lookup f24=some ⟨oc24,od24,.func (PySem.W.fnOf "_law_all_terms" "_law_all_terms" (aK bd) (ap bd) (ab bd) .none kV24 dc24 pm24 an24 cd24 ct24),sl24⟩) (c24:PySem.W.codeIn K cd24 "_law_all_terms" = true) (k24:PySem.W.keepIn K (.ref f24)=true)
  {f25:Addr}{od25 an25:Option Addr}{sl25:Array (Option Value)}{oc25 kV25 dc25 pm25 cd25 ct25:Value}
  (a25:PySem.W.nsIn K mainGlobals "_law_by_counts" = some (some (.ref f25))) (l25:K.lookup f25=some ⟨oc25,od25,.func (PySem.W.fnOf "_law_by_counts" "_law_by_counts" (aK aN) (ap aN) (ab aN) .none kV25 dc25 pm25 an25 cd25 ct25),sl25⟩) (c25:PySem.W.codeIn K cd25 "_law_by_counts" = true) (k25:PySem.W.keepIn K (.ref f25)=true)
  {f26:Addr}{od26 an26:Option Addr}{sl26:Array (Option Value)}{oc26 kV26 dc26 pm26 cd26 ct26:Value}
  (a26:PySem.W.nsIn K mainGlobals "_law_by_signs" = some (some (.ref f26))) (l26:K.lookup f26=some ⟨oc26,od26,.func (PySem.W.fnOf "_law_by_signs" "_law_by_signs" (aK aM) (ap aM) (ab aM) .none kV26 dc26 pm26 an26 cd26 ct26),sl26⟩) (c26:PySem.W.codeIn K cd26 "_law_by_signs" = true) (k26:PySem.W.keepIn K (.ref f26)=true)
  {f27:Addr}{od27 an27:Option Addr}{sl27:Array (Option Value)}{oc27 kV27 dc27 pm27 cd27 ct27:Value}
  (a27:PySem.W.nsIn K mainGlobals "_law_full" = some (some (.ref f27))) (l27:K.lookup f27=some ⟨oc27,od27,.func (PySem.W.fnOf "_law_full" "_law_full" (aK bJ) (ap bJ) (ab bJ) .none kV27 dc27 pm27 an27 cd27 ct27),sl27⟩) (c27:PySem.W.codeIn K cd27 "_law_full" = true) (k27:PySem.W.keepIn K (.ref f27)=true)
  {f28:Addr}{od28 an28:Option Addr}{sl28:Array (Option Value)}{oc28 kV28 dc28 pm28 cd28 ct28:Value}
  (a28:PySem.W.nsIn K mainGlobals "_law_is_whole" = some (some (.ref f28))) (l28:K.lookup f28=some ⟨oc28,od28,.func (PySem.W.fnOf "_law_is_whole" "_law_is_whole" (aK bx) (ap bx) (ab bx) .none kV28 dc28 pm28 an28 cd28 ct28),sl28⟩) (c28:PySem.W.codeIn K cd28 "_law_is_whole" = true) (k28:PySem.W.keepIn K (.ref f28)=true)
  {f29:Addr}{od29 an29:Option Addr}{sl29:Array (Option Value)}{oc29 kV29 dc29 pm29 cd29 ct29:Value}
  (a29:PySem.W.nsIn K mainGlobals "_law_is_term" = some (some (.ref f29))) (l29:K.lookup f29=some ⟨oc29,od29,.func (PySem.W.fnOf "_law_is_term" "_law_is_term" (aK bi) (ap bi) (ab bi) .none kV29 dc29 pm29 an29 cd29 ct29),sl29⟩) (c29:PySem.W.codeIn K cd29 "_law_is_term" = true) (k29:PySem.W.keepIn K (.ref f29)=true)
  {f30:Addr}{od30 an30:Option Addr}{sl30:Array (Option Value)}{oc30 kV30 dc30 pm30 cd30 ct30:Value}
  (a30:PySem.W.nsIn K mainGlobals "_law_is_poly" = some (some (.ref f30))) (l30:K.lookup f30=some ⟨oc30,od30,.func (PySem.W.fnOf "_law_is_poly" "_law_is_poly" (aK bu) (ap bu) (ab bu) .none kV30 dc30 pm30 an30 cd30 ct30),sl30⟩) (c30:PySem.W.codeIn K cd30 "_law_is_poly" = true) (k30:PySem.W.keepIn K (.ref f30)=true)
  {f31:Addr}{od31 an31:Option Addr}{sl31:Array (Option Value)}{oc31 kV31 dc31 pm31 cd31 ct31:Value}
  (a31:PySem.W.nsIn K mainGlobals "_law_right" = some (some (.ref f31))) (l31:K.lookup f31=some ⟨oc31,od31,.func (PySem.W.fnOf "_law_right" "_law_right" (aK bS) (ap bS) (ab bS) .none kV31 dc31 pm31 an31 cd31 ct31),sl31⟩) (c31:PySem.W.codeIn K cd31 "_law_right" = true) (k31:PySem.W.keepIn K (.ref f31)=true)
  {f32:Addr}{od32 an32:Option Addr}{sl32:Array (Option Value)}{oc32 kV32 dc32 pm32 cd32 ct32:Value}
  (a32:PySem.W.nsIn K mainGlobals "_law_numbers_right" = some (some (.ref f32))) (l32:K.lookup f32=some ⟨oc32,od32,.func (PySem.W.fnOf "_law_numbers_right" "_law_numbers_right" (aK aI) (ap aI) (ab aI) .none kV32 dc32 pm32 an32 cd32 ct32),sl32⟩) (c32:PySem.W.codeIn K cd32 "_law_numbers_right" = true) (k32:PySem.W.keepIn K (.ref f32)=true)
  {f33:Addr}{od33 an33:Option Addr}{sl33:Array (Option Value)}{oc33 kV33 dc33 pm33 cd33 ct33:Value}
  (a33:PySem.W.nsIn K mainGlobals "law" = some (some (.ref f33))) (l33:K.lookup f33=some ⟨oc33,od33,.func (PySem.W.fnOf "law" "law" (aK jx) (ap jx) (ab jx) .none kV33 dc33 pm33 an33 cd33 ct33),sl33⟩) (c33:PySem.W.codeIn K cd33 "law" = true) (k33:PySem.W.keepIn K (.ref f33)=true)
  (z_all:PySem.W.nsIn K mainGlobals "all" = some none)
  (z_bool:PySem.W.nsIn K mainGlobals "bool" = some none)
  (z_dict:PySem.W.nsIn K mainGlobals "dict" = some none)
  (z_enumerate:PySem.W.nsIn K mainGlobals "enumerate" = some none)
  (z_int:PySem.W.nsIn K mainGlobals "int" = some none)
  (z_isinstance:PySem.W.nsIn K mainGlobals "isinstance" = some none)
  (z_len:PySem.W.nsIn K mainGlobals "len" = some none)
  (z_max:PySem.W.nsIn K mainGlobals "max" = some none)
  (z_min:PySem.W.nsIn K mainGlobals "min" = some none)
  (z_range:PySem.W.nsIn K mainGlobals "range" = some none)
  (z_sorted:PySem.W.nsIn K mainGlobals "sorted" = some none)
  (z_str:PySem.W.nsIn K mainGlobals "str" = some none)
  (z_sum:PySem.W.nsIn K mainGlobals "sum" = some none)
  (z_tuple:PySem.W.nsIn K mainGlobals "tuple" = some none)
  (z_zip:PySem.W.nsIn K mainGlobals "zip" = some none)
  : ∃ t,Txt K mg t/\t.f_law=f33:=by
 have F0:=bj (st:=bH) l0 c0 k0
 have F1:=bj (st:=eF) l1 c1 k1
 have F2:=bj (st:=bR) l2 c2 k2
 have F3:=bj (st:=cc) l3 c3 k3
 have F4:=bj (st:=de) l4 c4 k4
 have F5:=bj (st:=cw) l5 c5 k5
 have F6:=bj (st:=cv) l6 c6 k6
 have F7:=bj (st:=cb) l7 c7 k7
 have F8:=bj (st:=ca) l8 c8 k8
 have F9:=bj (st:=cG) l9 c9 k9
 have F10:=bj (st:=dl) l10 c10 k10
 have F11:=bj (st:=dn) l11 c11 k11
 have F12:=bj (st:=bz) l12 c12 k12
 have F13:=bj (st:=bw) l13 c13 k13
 have F14:=bj (st:=b6) l14 c14 k14
 have F15:=bj (st:=bG) l15 c15 k15
 have F16:=bj (st:=dj) l16 c16 k16
 have F17:=bj (st:=bD) l17 c17 k17
 have F18:=bj (st:=cI) l18 c18 k18
 have F19:=bj (st:=cp) l19 c19 k19
 have F20:=bj (st:=cn) l20 c20 k20
 have F21:=bj (st:=cr) l21 c21 k21
 have F22:=bj (st:=bh) l22 c22 k22
 have F23:=bj (st:=bT) l23 c23 k23
 have F24:=bj (st:=bd) l24 c24 k24
 have F25:=bj (st:=aN) l25 c25 k25
 have F26:=bj (st:=aM) l26 c26 k26
 have F27:=bj (st:=bJ) l27 c27 k27
 have F28:=bj (st:=bx) l28 c28 k28
 have F29:=bj (st:=bi) l29 c29 k29
 have F30:=bj (st:=bu) l30 c30 k30
 have F31:=bj (st:=bS) l31 c31 k31
 have F32:=bj (st:=aI) l32 c32 k32
 have F33:=bj (st:=jx) l33 c33 k33
 refine⟨⟨f0,_,f1,_,f2,_,f3,_,f4,_,f5,_,f6,_,f7,_,f8,_,f9,_,f10,_,f11,_,f12,_,f13,_,f14,_,f15,_,f16,_,f17,_,f18,_,f19,_,f20,_,f21,_,f22,_,f23,_,f24,_,f25,_,f26,_,f27,_,f28,_,f29,_,f30,_,f31,_,f32,_,f33,_⟩,⟨F0,PySem.W.mg_of X G a0,F0.binds λ_ _ _ _ _ _ us hl=>(by obtain⟨_,rfl⟩:=jv hl;rfl),F1,PySem.W.mg_of X G a1,F1.binds λ_ _ _ _ _ _ us hl=>(by obtain⟨_,_,rfl⟩:=iD hl;rfl),F2,PySem.W.mg_of X G a2,F2.binds λ_ _ _ _ _ _ us hl=>(by obtain⟨_,rfl⟩:=jv hl;rfl),F3,PySem.W.mg_of X G a3,F3.binds λ_ _ _ _ _ _ us hl=>(by obtain⟨_,rfl⟩:=jv hl;rfl),F4,PySem.W.mg_of X G a4,F4.binds λ_ _ _ _ _ _ us hl=>(by obtain⟨_,_,rfl⟩:=iD hl;rfl),F5,PySem.W.mg_of X G a5,F5.binds λ_ _ _ _ _ _ us hl=>(by obtain⟨_,_,rfl⟩:=iD hl;rfl),F6,PySem.W.mg_of X G a6,F6.binds λ_ _ _ _ _ _ us hl=>(by obtain⟨_,_,_,rfl⟩:=uf hl;rfl),F7,PySem.W.mg_of X G a7,F7.binds λ_ _ _ _ _ _ us hl=>(by obtain⟨_,_,rfl⟩:=iD hl;rfl),F8,PySem.W.mg_of X G a8,F8.binds λ_ _ _ _ _ _ us hl=>(by obtain⟨_,rfl⟩:=jv hl;rfl),F9,PySem.W.mg_of X G a9,F9.binds λ_ _ _ _ _ _ us hl=>(by obtain⟨_,_,rfl⟩:=iD hl;rfl),F10,PySem.W.mg_of X G a10,F10.binds λ_ _ _ _ _ _ us hl=>(by obtain⟨_,_,rfl⟩:=iD hl;rfl),F11,PySem.W.mg_of X G a11,F11.binds λ_ _ _ _ _ _ us hl=>(by obtain⟨_,_,_,rfl⟩:=uf hl;rfl),F12,PySem.W.mg_of X G a12,F12.binds λ_ _ _ _ _ _ us hl=>(by obtain⟨_,rfl⟩:=jv hl;rfl),F13,PySem.W.mg_of X G a13,F13.binds λ_ _ _ _ _ _ us hl=>(by obtain⟨_,rfl⟩:=jv hl;rfl),F14,PySem.W.mg_of X G a14,F14.binds λ_ _ _ _ _ _ us hl=>(by obtain⟨_,rfl⟩:=jv hl;rfl),F15,PySem.W.mg_of X G a15,F15.binds λ_ _ _ _ _ _ us hl=>(by obtain⟨_,_,_,_,rfl⟩:=BP hl;rfl),F16,PySem.W.mg_of X G a16,F16.binds λ_ _ _ _ _ _ us hl=>(by obtain⟨_,_,_,rfl⟩:=uf hl;rfl),F17,PySem.W.mg_of X G a17,F17.binds λ_ _ _ _ _ _ us hl=>(by obtain⟨_,rfl⟩:=jv hl;rfl),F18,PySem.W.mg_of X G a18,F18.binds λ_ _ _ _ _ _ us hl=>(by obtain⟨_,_,rfl⟩:=iD hl;rfl),F19,PySem.W.mg_of X G a19,F19.binds λ_ _ _ _ _ _ us hl=>(by obtain⟨_,_,rfl⟩:=iD hl;rfl),F20,PySem.W.mg_of X G a20,F20.binds λ_ _ _ _ _ _ us hl=>(by obtain⟨_,_,rfl⟩:=iD hl;rfl),F21,PySem.W.mg_of X G a21,F21.binds λ_ _ _ _ _ _ us hl=>(by obtain⟨_,_,rfl⟩:=iD hl;rfl),F22,PySem.W.mg_of X G a22,F22.binds λ_ _ _ _ _ _ us hl=>(by obtain⟨_,_,_,rfl⟩:=uf hl;rfl),F23,PySem.W.mg_of X G a23,F23.binds λ_ _ _ _ _ _ us hl=>(by obtain⟨_,_,rfl⟩:=iD hl;rfl),F24,PySem.W.mg_of X G a24,F24.binds λ_ _ _ _ _ _ us hl=>(by obtain⟨_,rfl⟩:=jv hl;rfl),F25,PySem.W.mg_of X G a25,F25.binds λ_ _ _ _ _ _ us hl=>(by obtain⟨_,_,rfl⟩:=iD hl;rfl),F26,PySem.W.mg_of X G a26,F26.binds λ_ _ _ _ _ _ us hl=>(by obtain⟨_,_,rfl⟩:=iD hl;rfl),F27,PySem.W.mg_of X G a27,F27.binds λ_ _ _ _ _ _ us hl=>(by obtain⟨_,_,rfl⟩:=iD hl;rfl),F28,PySem.W.mg_of X G a28,F28.binds λ_ _ _ _ _ _ us hl=>(by obtain⟨_,rfl⟩:=jv hl;rfl),F29,PySem.W.mg_of X G a29,F29.binds λ_ _ _ _ _ _ us hl=>(by obtain⟨_,rfl⟩:=jv hl;rfl),F30,PySem.W.mg_of X G a30,F30.binds λ_ _ _ _ _ _ us hl=>(by obtain⟨_,rfl⟩:=jv hl;rfl),F31,PySem.W.mg_of X G a31,F31.binds λ_ _ _ _ _ _ us hl=>(by obtain⟨_,_,_,rfl⟩:=uf hl;rfl),F32,PySem.W.mg_of X G a32,F32.binds λ_ _ _ _ _ _ us hl=>(by obtain⟨_,_,rfl⟩:=iD hl;rfl),F33,PySem.W.mg_of X G a33,F33.binds λ_ _ _ _ _ _ us hl=>(by obtain⟨_,rfl⟩:=jv hl;rfl),PySem.W.mg_none_of X G z_all,PySem.W.mg_none_of X G z_bool,PySem.W.mg_none_of X G z_dict,PySem.W.mg_none_of X G z_enumerate,PySem.W.mg_none_of X G z_int,PySem.W.mg_none_of X G z_isinstance,PySem.W.mg_none_of X G z_len,PySem.W.mg_none_of X G z_max,PySem.W.mg_none_of X G z_min,PySem.W.mg_none_of X G z_range,PySem.W.mg_none_of X G z_sorted,PySem.W.mg_none_of X G z_str,PySem.W.mg_none_of X G z_sum,PySem.W.mg_none_of X G z_tuple,PySem.W.mg_none_of X G z_zip⟩,rfl⟩
theorem txt_ex {K:PySem.W.Frag}{mg:Str->Option Value}{f:Addr} (h:∃ t,Txt K mg t/\t.f_law=f):∃ t,Txt K mg t:=let ⟨t,a,_⟩:=h;⟨t,a⟩
theorem walk {l:PySem.W.OpenLaw}{q:Program}{loose:List Str}{XP:(Str->Option Value)->Heap->Prop}{YP:World->Heap->Prop}{d:DefRec}{K:Params->PySem.W.Frag} (hn:l.most=some 63) (hdf:d.params.defaults=[])
  (hY:∀ (w:World) (h:Heap),YP w h->(K w.params).In h)
  (F:∀ (w:World) (mg:Str->Option Value) (fa:Addr) (h:Heap),(K w.params).In h->h.Ns mainGlobals mg->mg d.name=some (.ref fa)->
    ∃ fd:FuncData,(∀ (s:Shared) (u:Value),BindsTo s fd ⟨[u],[]⟩ [("_law_script",u)])/\∀ base:Heap,(K w.params).In base->base.Ns mainGlobals mg->aU l.prog w (K w.params) mg base CX0 9 fa fd ["_law_script"] (spI (K w.params) m_law)) :
  PySem.W.WalkO q loose XP YP l.row.toRowW d [] (λf vs=>PySem.call f vs):=
 L2.walk_of (n:=63) (k:=9) (x:="_law_script") (CX:=λ_=>CX0) (sp:=λw=>spI (K w.params) m_law) hn (by decide) hdf ⟨rfl,by decide,by decide,rfl⟩ hY F (λ_ _ a ns hl hO hS=>x8 hO hS (wN ns hl)) λ_ _ _ _ _ z=>z
theorem law_mk {l:PySem.W.OpenLaw}{w:World}{K:PySem.W.Frag}{h:Heap}{mg:Str->Option Value}{fa:Addr} (hfa:mg "law" = some (.ref fa)) (T0:∃ t,Txt K mg t) :
  ∃ fd:FuncData,(∀ (s:Shared) (v:Value),BindsTo s fd ⟨[v],[]⟩ [("_law_script",v)])/\∀ base:Heap,K.In base->base.Ns mainGlobals mg->aU l.prog w K mg base CX0 9 fa fd ["_law_script"] (spI K m_law):=by
 obtain⟨t,T⟩:=T0
 have e:=hfa.symm.trans T.m_law
 cases e
 refine⟨t.fd_law,λs v=>?_,λbase _ _=>y4 T⟩
 obtain⟨oc,od,kV,doc,pm,an,cdv,ct,osl,e,_⟩:=T.F_law.ex
 rw [e]
 exact .of_eq rfl
end Own
open PySem PySem.W PyProof.Rows
set_option maxRecDepth 100000 in
set_option maxHeartbeats 0 in
theorem PySem.Challenge.cw_signpoly_k21_exact_polynomials_holds : PySem.Challenge.rw_signpoly_k21_exact_polynomials.Holds := by
 w_on;o_law;k_head;(case hw=>w_witness2)
 k_fill
 refine Own.walk (l:=PySem.Challenge.rw_signpoly_k21_exact_polynomials) rfl rfl (λw h Y=>PySem.W.kIn_of Y) ?F
 case F=>
  intro w mg fa h KX G hmg
  refine Own.law_mk (h:=h) hmg ?T
  case T=>
   refine' Own.txt_ex (Own.txt_mk KX G ?a0 ?l0 ?c0 ?k0 ?a1 ?l1 ?c1 ?k1 ?a2 ?l2 ?c2 ?k2 ?a3 ?l3 ?c3 ?k3 ?a4 ?l4 ?c4 ?k4 ?a5 ?l5 ?c5 ?k5 ?a6 ?l6 ?c6 ?k6 ?a7 ?l7 ?c7 ?k7 ?a8 ?l8 ?c8 ?k8 ?a9 ?l9 ?c9 ?k9 ?a10 ?l10 ?c10 ?k10 ?a11 ?l11 ?c11 ?k11 ?a12 ?l12 ?c12 ?k12 ?a13 ?l13 ?c13 ?k13 ?a14 ?l14 ?c14 ?k14 ?a15 ?l15 ?c15 ?k15 ?a16 ?l16 ?c16 ?k16 ?a17 ?l17 ?c17 ?k17 ?a18 ?l18 ?c18 ?k18 ?a19 ?l19 ?c19 ?k19 ?a20 ?l20 ?c20 ?k20 ?a21 ?l21 ?c21 ?k21 ?a22 ?l22 ?c22 ?k22 ?a23 ?l23 ?c23 ?k23 ?a24 ?l24 ?c24 ?k24 ?a25 ?l25 ?c25 ?k25 ?a26 ?l26 ?c26 ?k26 ?a27 ?l27 ?c27 ?k27 ?a28 ?l28 ?c28 ?k28 ?a29 ?l29 ?c29 ?k29 ?a30 ?l30 ?c30 ?k30 ?a31 ?l31 ?c31 ?k31 ?a32 ?l32 ?c32 ?k32 ?a33 ?l33 ?c33 ?k33 ?z_all ?z_bool ?z_dict ?z_enumerate ?z_int ?z_isinstance ?z_len ?z_max ?z_min ?z_range ?z_sorted ?z_str ?z_sum ?z_tuple ?z_zip)
   (case a0=>k_is)
   (case l0=>k_is)
   (case c0=>k_is)
   (case k0=>k_is)
   (case a1=>k_is)
   (case l1=>k_is)
   (case c1=>k_is)
   (case k1=>k_is)
   (case a2=>k_is)
   (case l2=>k_is)
   (case c2=>k_is)
   (case k2=>k_is)
   (case a3=>k_is)
   (case l3=>k_is)
   (case c3=>k_is)
   (case k3=>k_is)
   (case a4=>k_is)
   (case l4=>k_is)
   (case c4=>k_is)
   (case k4=>k_is)
   (case a5=>k_is)
   (case l5=>k_is)
   (case c5=>k_is)
   (case k5=>k_is)
   (case a6=>k_is)
   (case l6=>k_is)
   (case c6=>k_is)
   (case k6=>k_is)
   (case a7=>k_is)
   (case l7=>k_is)
   (case c7=>k_is)
   (case k7=>k_is)
   (case a8=>k_is)
   (case l8=>k_is)
   (case c8=>k_is)
   (case k8=>k_is)
   (case a9=>k_is)
   (case l9=>k_is)
   (case c9=>k_is)
   (case k9=>k_is)
   (case a10=>k_is)
   (case l10=>k_is)
   (case c10=>k_is)
   (case k10=>k_is)
   (case a11=>k_is)
   (case l11=>k_is)
   (case c11=>k_is)
   (case k11=>k_is)
   (case a12=>k_is)
   (case l12=>k_is)
   (case c12=>k_is)
   (case k12=>k_is)
   (case a13=>k_is)
   (case l13=>k_is)
   (case c13=>k_is)
   (case k13=>k_is)
   (case a14=>k_is)
   (case l14=>k_is)
   (case c14=>k_is)
   (case k14=>k_is)
   (case a15=>k_is)
   (case l15=>k_is)
   (case c15=>k_is)
   (case k15=>k_is)
   (case a16=>k_is)
   (case l16=>k_is)
   (case c16=>k_is)
   (case k16=>k_is)
   (case a17=>k_is)
   (case l17=>k_is)
   (case c17=>k_is)
   (case k17=>k_is)
   (case a18=>k_is)
   (case l18=>k_is)
   (case c18=>k_is)
   (case k18=>k_is)
   (case a19=>k_is)
   (case l19=>k_is)
   (case c19=>k_is)
   (case k19=>k_is)
   (case a20=>k_is)
   (case l20=>k_is)
   (case c20=>k_is)
   (case k20=>k_is)
   (case a21=>k_is)
   (case l21=>k_is)
   (case c21=>k_is)
   (case k21=>k_is)
   (case a22=>k_is)
   (case l22=>k_is)
   (case c22=>k_is)
   (case k22=>k_is)
   (case a23=>k_is)
   (case l23=>k_is)
   (case c23=>k_is)
   (case k23=>k_is)
   (case a24=>k_is)
   (case l24=>k_is)
   (case c24=>k_is)
   (case k24=>k_is)
   (case a25=>k_is)
   (case l25=>k_is)
   (case c25=>k_is)
   (case k25=>k_is)
   (case a26=>k_is)
   (case l26=>k_is)
   (case c26=>k_is)
   (case k26=>k_is)
   (case a27=>k_is)
   (case l27=>k_is)
   (case c27=>k_is)
   (case k27=>k_is)
   (case a28=>k_is)
   (case l28=>k_is)
   (case c28=>k_is)
   (case k28=>k_is)
   (case a29=>k_is)
   (case l29=>k_is)
   (case c29=>k_is)
   (case k29=>k_is)
   (case a30=>k_is)
   (case l30=>k_is)
   (case c30=>k_is)
   (case k30=>k_is)
   (case a31=>k_is)
   (case l31=>k_is)
   (case c31=>k_is)
   (case k31=>k_is)
   (case a32=>k_is)
   (case l32=>k_is)
   (case c32=>k_is)
   (case k32=>k_is)
   (case a33=>k_is)
   (case l33=>k_is)
   (case c33=>k_is)
   (case k33=>k_is)
   (case z_all=>k_is)
   (case z_bool=>k_is)
   (case z_dict=>k_is)
   (case z_enumerate=>k_is)
   (case z_int=>k_is)
   (case z_isinstance=>k_is)
   (case z_len=>k_is)
   (case z_max=>k_is)
   (case z_min=>k_is)
   (case z_range=>k_is)
   (case z_sorted=>k_is)
   (case z_str=>k_is)
   (case z_sum=>k_is)
   (case z_tuple=>k_is)
   (case z_zip=>k_is)
